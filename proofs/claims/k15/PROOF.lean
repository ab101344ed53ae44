import PyProof.Rows.All
import Wide.All
import OpenK.AllK
import Wide.FinOn
import Lean
import PyProof.EqAt
import PyProof.EqKinds
import PyProof.TupleCall
import PyProof.NeKinds
import KE.KTab
import KE.KTops
import PyProof.FString5
import PyProof.ListRange
import KE.KRevIter
import PyProof.Rows.SumAny
import PyProof.Rows.SetFrom
import KE.KRevSl
import KE.KTryMore
import PyProof.ExcAttrAll.ValueError
import PyProof.Rows.CountFlat
import PyProof.ExcInit
import PyProof.InstStoreFacts
import PyProof.Draws
import PyProof.EnumMake
import PyProof.ZipIter
import PyProof.WalkInts
import PyProof.Rows.MinMaxN
import KE.KUnpack
import PySem.Challenge.RW_piecelay_k15_whole_no_coverings
set_option Elab.async false
set_option linter.all false
set_option maxRecDepth 100000
set_option maxHeartbeats 4000000
section
namespace LT
open PySem PySem.W PyProof.Rows
noncomputable def ran (p:Program) (w:World) (n₀:Nat) (ann:Option Value):Nat→SharedT→Thread→Option SharedT
  | 0,_,_=>none
  | k + 1,s,t=>bif through t then some s else bif Fast.tw6613529449190102663 n₀ ann t then
      (Fast.tw10156331382660048174 (Fast.tw11892475500146522536 Fast.tw14364793385576792824) p w s t).bind fun x=>ran p w n₀ ann k x.1 x.2
    else none
theorem zq {p:Program} {w:World} {n₀:Nat} {ann:Option Value} (k:Nat):∀ {s s':SharedT} {t:Thread},ran p w n₀ ann k s t = some s'→topRun treeTable p w n₀ ann k s.abs t = some s'.abs:=by
  induction k with
  | zero=>intro s s' t h; cases h
  | succ k ih =>
    intro s s' t h
    unfold ran at h
    rw [← Fast.te6613529449190102663,← Fast.te10156331382660048174,← Fast.te11892475500146522536,← Fast.te14364793385576792824] at h
    unfold topRun
    cases c1:through t
    · cases c2:stepOk n₀ ann t
      · rw [c1,c2] at h; cases h
      · rw [c1,c2] at h
        obtain ⟨x,hx,hr⟩:=Option.bind_eq_some_iff.mp (show (stepT (denote treeTable) p w s t).bind _ = some s' from h)
        rw [stepT_spec (s':=x.1) (t':=x.2) hx]
        exact ih hr
    · rw [c1] at h
      cases h
      rfl
noncomputable def vT (P:Params):BT:=((boot_heap P).objs.toList.foldl (fun (x:BT × Nat) o=>(x.1.ins x.2 o,x.2 + 1)) (BT.nil,0)).1
theorem vU:∀ P,absHeap (vT P) 11 {} = boot_heap P:=fun P=>by kernel_rfl
noncomputable abbrev boot (P:Params) (os:OsState):SharedT:=⟨vT P,11,{},#[],boot_drawn,boot_toks,os⟩
theorem vV (P:Params) (os:OsState):(boot P os).abs = ⟨boot_heap P,#[],boot_drawn,boot_toks,os⟩:=by
  show (⟨absHeap (vT P) 11 {},#[],boot_drawn,boot_toks,os⟩:Shared) = _
  rw [vU]
noncomputable def Ad (p q:Program) (loose:List Str) (Xt:Shared→Bool) (P:Params) (s:Shared) :=
  (staticsOk (Fast.tw5923862056798008813 p.main.body) (boot_heap P) s.heap && namesBound p s.heap && gensDone s && laidKept (boot_heap P) s.heap,Fast.tw4187177175401517315 q loose (Fast.tw5923862056798008813 p.main.body) Xt true s)
theorem zG:∀ P:Params,((boot_heap P).isNs mainGlobals && (#[]:Array GenState).size == 0,(boot_heap P).objs.size,(boot_heap P).nsMap mainGlobals "__annotations__") = (true,11,some (.ref 6)):=fun P=>by kernel_rfl
theorem left {p q:Program} {loose:List Str} {Xt:Shared→Bool} {α:Type} {Yf:Shared→α} {Ya:World→α} {N:Nat} (e:opening p = plainProg p.main.scope.names) (hN:Nat.ble 600 N = true) (f:∀ s,fenceModules? p s = some s)
    (h:∀ (w:World) (os:OsState),(ran p w 11 (some (.ref 6)) N (boot w.params os) (topStub p)).map (fun s=>(Ad p q loose Xt w.params s.abs,Yf s.abs)) = some ((true,openGood q loose),Ya w)):LeftO p q loose Xt Yf Ya N:=fun w=>by
  obtain ⟨⟨h0,gs,d,k,os⟩,e,e'⟩:=Option.map_eq_some_iff.mp (boot_open e hN f w)
  obtain ⟨rfl,rfl,rfl,rfl⟩:h0 = boot_heap w.params∧gs = Array.mk []∧d = boot_drawn∧k = boot_toks:=by simpa using e'
  obtain ⟨s1,hr,hs⟩:=Option.map_eq_some_iff.mp (h w os)
  have r:=zq N hr
  rw [vV] at r
  obtain ⟨hs,hy⟩:=Prod.mk.inj hs
  unfold Ad at hs
  rw [← Fast.te4187177175401517315,← Fast.te5923862056798008813] at hs
  obtain ⟨hl,hg⟩:=Prod.mk.inj (show (staticsOk (importedModules p.main.body) (boot_heap w.params) s1.abs.heap && namesBound p s1.abs.heap && gensDone s1.abs && laidKept (boot_heap w.params) s1.abs.heap,openSeen q loose (importedModules p.main.body) Xt true s1.abs) = (true,openGood q loose) from hs)
  obtain ⟨z1,z2,z3⟩:_∧_∧_:=by simpa only [Prod.mk.injEq] using zG w.params
  have t:topFrom treeTable p w N ⟨boot_heap w.params,Array.mk [],boot_drawn,boot_toks,os⟩ = some s1.abs:=by
    unfold topFrom
    dsimp only
    rw [z1,z2,z3,r]
    show (match staticsOk (importedModules p.main.body) (boot_heap w.params) s1.abs.heap && namesBound p s1.abs.heap && gensDone s1.abs && laidKept (boot_heap w.params) s1.abs.heap with | true=>_ | false=>_) = _
    rw [hl]
  unfold openEnds
  rw [e]
  show (topFrom treeTable p w N _).map _ = _
  rw [t]
  exact congrArg some (Prod.ext hg hy)
end LT
end
section
namespace LT
section
universe u1 u2 u3 u4 u5 u6 u7 u8 u9
variable {S:Type u1} {A:Type u2} {B:Type u3} {C:Type u4} {D:Type u5} {E:Type u6} {F:Type u7} {R:Type u8} {V:Type u9}
def lot1 (x:A × B × C × D × E × F × R):A × B × C:=match x with | (a,b,c,_)=>(a,b,c)
def lot2 (x:A × B × C × D × E × F × R):D × E × R:=match x with | (_,_,_,d,e,_,r)=>(d,e,r)
def lot3 (x:A × B × C × D × E × F × R):F:=match x with | (_,_,_,_,_,f,_)=>f
theorem lots {o:Option S} {f:S→A × B × C × D × E × F × R} {y:A × B × C × D × E × F × R} {st:S→Bool} {ob:S→V} {v:V} (h1:o.map (fun s=>lot1 (f s)) = some (y.1,y.2.1,y.2.2.1)) (h2:o.map (fun s=>lot2 (f s)) = some (y.2.2.2.1,y.2.2.2.2.1,y.2.2.2.2.2.2))
    (h3:o.map (fun s=>lot3 (f s)) = some y.2.2.2.2.2.1) (h4:o.map (fun s=>(st s,ob s)) = some (true,v)):o.map (fun s=>((st s,f s),ob s)) = some ((true,y),v):=by
  cases o with
  | none=>cases h1
  | some s =>
    have k1:lot1 (f s) = _:=Option.some.inj h1
    have k2:lot2 (f s) = _:=Option.some.inj h2
    have k3:lot3 (f s) = _:=Option.some.inj h3
    have k4:(st s,ob s) = _:=Option.some.inj h4
    show some ((st s,f s),ob s) = _
    generalize f s = x at k1 k2 k3 ⊢
    obtain ⟨a,b,c,d,e,g,r⟩:=x
    obtain ⟨a',b',c',d',e',g',r'⟩:=y
    have k1:(a,b,c) = (a',b',c'):=k1
    have k2:(d,e,r) = (d',e',r'):=k2
    have k3:g = g':=k3
    injection k4 with k4 k5
    cases k1
    cases k2
    cases k3
    rw [k4,k5]
end
end LT
end
section
namespace My
open PySem
def top (i:Nat):Stmt:=PySem.Challenge.pw_piecelay_k15_whole_no_coverings.main.body.getD i (.Pass ⟨0,0,0,0⟩)
end My
end
section
open PySem PySem.W PyProof.Rows
section
local macro_rules | `(tactic| o_head $H:term)=>`(tactic| (have _hook:=$H; assumption))
theorem My.k0 (h:PySem.Challenge.rw_piecelay_k15_whole_no_coverings.row.Holds):PySem.Challenge.rw_piecelay_k15_whole_no_coverings.row.Holds:=by
  k_head
end
namespace My
def view:Program:={ PySem.Challenge.pw_piecelay_k15_whole_no_coverings with main:={ PySem.Challenge.pw_piecelay_k15_whole_no_coverings.main with body:=[top 1,top 2,top 3,top 4,top 5,top 6,top 7,top 8,top 9,top 10,top 11,top 12,top 13,top 14,top 15,top 17,top 18,top 19,top 20,top 22,top 23,top 24,top 25,top 26,top 27,top 28,top 29,top 31,top 32,top 33,top 35,top 36,top 37,top 38,top 39,top 40,top 41,top 42,top 43,top 44,top 45,top 46,top 47,top 48,top 49,top 50,top 51,top 52,top 53,top 54,top 55,top 56,top 57,top 59,top 60,top 61,top 62,top 63,top 64,top 65,top 66,top 67,top 69,top 70,top 71,top 72,top 73,top 74,top 76,top 77,top 78,top 79,top 80,top 81,top 82,top 83,top 84,top 85,top 86,top 87,top 88,top 89,top 90,top 91,top 92,top 93] } }
abbrev PRG:Program:=PySem.Challenge.pw_piecelay_k15_whole_no_coverings
abbrev loose:List Str:=["MOST_IN_LEAF","TREES_IN_BRANCH","MARK_LENGTHS","FILLED_FROM","BASIC"]
abbrev xt (s:Shared):Bool:=xlAt view [] s && recOk (RowW.records (OpenRow.toRowW (OpenLaw.row PySem.Challenge.rw_piecelay_k15_whole_no_coverings))) s
abbrev kas:List Addr:=[2,3,15,22,23,24,25,28,35,36,37,40,47,48,49,52,59,60,61,64,71,72,73,76,83,84,85,88,95,96,97,100,107,108,109,112,119,120,121,124,131,132,133,136,143,144,145,148,155,156,157,160,167,168,169,172,179,181,182,184,185,186,187,188,191,198,200,201,203,204,205,206,207,210,212,213,215,216,217,219,220,222,223,224,227,228,229,230,231,233,234,236,237,238,240,241,243,244,245,248,249,250,252,253,255,256,257,258,259,260,261,262,263,264,265,266,267,268,269,270,271,272,273,274,275,277,278,280,281,282,283,284,285,286,287,288,289,290,291,292,293,294,295,296,297,298,299,300,301,302,303,304,305,306,307,308,309,310,311,312,313,314,315,316,317,318,319,320,321,322,323,324,325,327,328,330,331,332,335,336,337,339,340,342,343,344,347,348,349,352,353,354,356,357,359,360,361,363,364,366,367,368,371,372,373,375,376,378,379,380,383,384,385,387,388,390,391,392,394,395,397,398,399,401,402,404,405,406,408,409,411,412,413,415,416,418,419,420,421,422,424,425,427,428,429,431,432,434,435,436,438,439,441,442,443,445,446,448,449,450,453,454,455,457,458,460,461,462,465,466,467,470,471,472,474,475,477,478,479,481,482,484,485,486,488,489,491,492,493,495,496,498,499,500,503,504,517,519,520,522,523,524,527,528,529,531,532,534,535,548,550,551,553,554,555,557,558,560,561,562,565,566,567,570,571,572,574,575,577,578,579,581,582,584,585,586,588,589,591,592,593,595,596,598,599]
theorem kas_ok:∀ P,kas = (My.k0.heap_1 P).map (·.1):=fun _=>by kernel_rfl
noncomputable abbrev hk:Hook:=kHook My.k0.heap_1 kas kas_ok
abbrev NN:Nat:=9000
noncomputable abbrev yG (w:World) (os:OsState):=LT.ran PRG w 11 (some (.ref 6)) NN (LT.boot w.params os) (topStub PRG)
noncomputable abbrev pI (P:Params) (s:SharedT):Bool:=staticsOk (Fast.tw5923862056798008813 PRG.main.body) (boot_heap P) s.abs.heap && namesBound PRG s.abs.heap && gensDone s.abs && laidKept (boot_heap P) s.abs.heap
noncomputable abbrev Bo (s:SharedT):=Fast.tw4187177175401517315 view loose (Fast.tw5923862056798008813 PRG.main.body) xt true s.abs
noncomputable abbrev rQ:=openGood view loose
abbrev xM (w:World) (os:OsState):Prop:=(yG w os).map (fun s=>LT.lot1 (Bo s)) = some (rQ.1,rQ.2.1,rQ.2.2.1)
abbrev xN (w:World) (os:OsState):Prop:=(yG w os).map (fun s=>LT.lot2 (Bo s)) = some (rQ.2.2.2.1,rQ.2.2.2.2.1,rQ.2.2.2.2.2.2)
abbrev xO (w:World) (os:OsState):Prop:=(yG w os).map (fun s=>LT.lot3 (Bo s)) = some rQ.2.2.2.2.2.1
abbrev xP (w:World) (os:OsState):Prop:=(yG w os).map (fun s=>(pI w.params s,Hook.obs hk s.abs)) = some (true,Hook.val hk w)
set_option maxHeartbeats 0 in
theorem ra1:∀ (w:World) (os:OsState),xM (w.withFollow "special-get-raises" false) os:=fun w os=>by unfold xM; kernel_rfl
set_option maxHeartbeats 0 in
theorem rb1:∀ (w:World) (os:OsState),xM (w.withFollow "special-get-raises" true) os:=fun w os=>by unfold xM; kernel_rfl
set_option maxHeartbeats 0 in
theorem ra2:∀ (w:World) (os:OsState),xN (w.withFollow "special-get-raises" false) os:=fun w os=>by unfold xN; kernel_rfl
set_option maxHeartbeats 0 in
theorem rb2:∀ (w:World) (os:OsState),xN (w.withFollow "special-get-raises" true) os:=fun w os=>by unfold xN; kernel_rfl
set_option maxHeartbeats 0 in
theorem ra3:∀ (w:World) (os:OsState),xO (w.withFollow "special-get-raises" false) os:=fun w os=>by unfold xO; kernel_rfl
set_option maxHeartbeats 0 in
theorem rb3:∀ (w:World) (os:OsState),xO (w.withFollow "special-get-raises" true) os:=fun w os=>by unfold xO; kernel_rfl
set_option maxHeartbeats 0 in
theorem ra4:∀ (w:World) (os:OsState),xP (w.withFollow "special-get-raises" false) os:=fun w os=>by unfold xP; kernel_rfl
set_option maxHeartbeats 0 in
theorem rb4:∀ (w:World) (os:OsState),xP (w.withFollow "special-get-raises" true) os:=fun w os=>by unfold xP; kernel_rfl
theorem left:LeftO PRG view loose xt (Hook.obs hk) (Hook.val hk) NN :=
  LT.left (by rfl) (by decide) (fun s=>by rfl) fun w os=>LT.lots (byRow2 "special-get-raises" (P:=fun w=>xM w os) (fun w=>ra1 w os) (fun w=>rb1 w os) w) (byRow2 "special-get-raises" (P:=fun w=>xN w os) (fun w=>ra2 w os) (fun w=>rb2 w os) w) (byRow2 "special-get-raises" (P:=fun w=>xO w os) (fun w=>ra3 w os) (fun w=>rb3 w os) w) (byRow2 "special-get-raises" (P:=fun w=>xP w os) (fun w=>ra4 w os) (fun w=>rb4 w os) w)
end My
end
section
namespace L2
open PySem PySem.Spec PyProof.Rows
abbrev Key:=Sum Int Str
def nF:Key→Value→Bool
  | .inl k,v=>Value.isInt k v
  | .inr x,v=>Value.isStrOf x v
def Cz (w:World):Key→Int
  | .inl k=>hashInt k
  | .inr x=>hashStr w x
theorem cD:∀ {k:Key} {v:Value},nF k v = true→(∃ i t,k = Sum.inl i∧v = Value.int i t)∨(∃ x t,k = Sum.inr x∧v = Value.str x t)
  | .inl i,v,h=>by
    obtain ⟨t,e⟩:=Value.isInt_shape (k:=i) (v:=v) h
    exact .inl ⟨i,t,rfl,e⟩
  | .inr x,v,h=>by
    obtain ⟨t,e⟩:=Value.isStrOf_shape (x:=x) (v:=v) h
    exact .inr ⟨x,t,rfl,e⟩
theorem uC (i:Int) (t:Tok):nF (.inl i) (.int i t) = true:=by simp [nF,Value.isInt]
theorem uD (x:Str) (t:Tok):nF (.inr x) (.str x t) = true:=by simp [nF,Value.isStrOf]
theorem AQ (a b:Int):decide ((Sum.inl a:Key) = Sum.inl b) = (a == b):=by
  by_cases e:a = b
  · subst e; simp
  · have h:¬ (Sum.inl a:Key) = Sum.inl b:=fun q=>e (Sum.inl.inj q)
    rw [decide_eq_false h]
    exact (beq_eq_false_iff_ne.mpr e).symm
theorem AU (a b:Str):decide ((Sum.inr a:Key) = Sum.inr b) = decide (a = b):=by
  by_cases e:a = b
  · subst e; simp
  · have h:¬ (Sum.inr a:Key) = Sum.inr b:=fun q=>e (Sum.inr.inj q)
    rw [decide_eq_false h,decide_eq_false e]
theorem AR (a:Int) (b:Str):decide ((Sum.inl a:Key) = Sum.inr b) = false:=decide_eq_false (fun q=>nomatch q)
theorem AS (a:Str) (b:Int):decide ((Sum.inr a:Key) = Sum.inl b) = false:=decide_eq_false (fun q=>nomatch q)
def de (prog:Program) (w:World):PySem.KeyKind prog w Key where
  is:=nF
  hash:=Cz w
  inj:=fun v a b ha hb=>by
    rcases cD ha with ⟨i,t,rfl,rfl⟩ | ⟨x,t,rfl,rfl⟩
    · rcases cD hb with ⟨j,u,rfl,e⟩ | ⟨y,u,rfl,e⟩
      · injection e with e1 _; rw [e1]
      · exact nomatch e
    · rcases cD hb with ⟨j,u,rfl,e⟩ | ⟨y,u,rfl,e⟩
      · exact nomatch e
      · injection e with e1 _; rw [e1]
  byValue:=fun k v h=>by
    rcases cD h with ⟨i,t,rfl,rfl⟩ | ⟨x,t,rfl,rfl⟩ <;> rfl
  pyHash:=fun hv h=>by
    rcases cD hv with ⟨i,t,rfl,rfl⟩ | ⟨x,t,rfl,rfl⟩
    · exact wpAny_pyHash_int h
    · exact wpAny_pyHash_str h
  eqBool:=fun hu hv h=>by
    rcases cD hu with ⟨i,t,rfl,rfl⟩ | ⟨x,t,rfl,rfl⟩
    · rcases cD hv with ⟨j,u,rfl,rfl⟩ | ⟨y,u,rfl,rfl⟩
      · rw [AQ] at h; exact wpAny_eqBool_int h
      · rw [AR] at h; exact SeqAt.EqAt.int_str i t y u _ _ _ _ h
    · rcases cD hv with ⟨j,u,rfl,rfl⟩ | ⟨y,u,rfl,rfl⟩
      · rw [AS] at h; exact SeqAt.EqAt.str_int x t j u _ _ _ _ h
      · rw [AU] at h; exact wpAny_eqBool_str h
  «strs»:=fun k x t v h=>by
    rcases cD h with ⟨i,u,rfl,e⟩ | ⟨y,u,rfl,e⟩
    · exact nomatch e
    · injection e with e1 _
      subst e1
      cases v <;> rfl
theorem qG (prog:Program) (w:World) (i:Int) (t:Tok):(de prog w).is (.inl i) (.int i t) = true:=uC i t
theorem qH (prog:Program) (w:World) (x:Str) (t:Tok):(de prog w).is (.inr x) (.str x t) = true:=uD x t
end L2
namespace L2
open PySem PySem.Spec PyProof.Rows
inductive V where
  | non | bl (b:Bool) | int (i:Int) | str (x:Str) | byt (b:Array UInt8) | flt (b:UInt64) | ref (a:Addr) | ty (n:String)
  deriving DecidableEq
def RelV:V→Value→Prop
  | .non,u=>u = Value.none
  | .bl b,u=>u = Value.bool b
  | .int i,u=>∃ t,u = Value.int i t
  | .str x,u=>∃ t,u = Value.str x t
  | .byt b,u=>∃ t,u = Value.bytes b t
  | .flt b,u=>∃ t,u = Value.float b t
  | .ref a,u=>u = Value.ref a
  | .ty n,u=>u = Value.type n
abbrev Vals:List V→List Value→Prop:=Paired RelV
theorem Vals.length {xs:List V} {us:List Value} (r:Vals xs us):xs.length = us.length:=Paired.length r
theorem Vals.get:∀ {xs:List V} {us:List Value} {i:Nat} {x:V},Vals xs us→xs[i]? = some x→∃ u,us[i]? = some u∧RelV x u
  | _,_,_,_,.nil,e=>by simp at e
  | _,_,0,_,.cons r _,e=>by simp at e; subst e; exact ⟨_,rfl,r⟩
  | _,_,i + 1,x,.cons _ t,e=>by
    obtain ⟨u,h1,h2⟩:=Vals.get (i:=i) (x:=x) t (by simpa using e)
    exact ⟨u,by simpa using h1,h2⟩
theorem Vals.set {x:V} {u:Value} (r:RelV x u):∀ {xs:List V} {us:List Value} (i:Nat),Vals xs us→Vals (xs.set i x) (us.set i u)
  | _,_,_,.nil=>.nil
  | _,_,0,.cons _ t=>.cons r t
  | _,_,i + 1,.cons q t=>.cons q (Vals.set r i t)
theorem Vals.append:∀ {xs ys:List V} {us ws:List Value},Vals xs us→Vals ys ws→Vals (xs ++ ys) (us ++ ws)
  | _,_,_,_,.nil,s=>s
  | _,_,_,_,.cons r t,s=>.cons r (Vals.append t s)
theorem Vals.take:∀ {xs:List V} {us:List Value} (n:Nat),Vals xs us→Vals (xs.take n) (us.take n)
  | _,_,0,_=>.nil
  | _,_,_ + 1,.nil=>.nil
  | _,_,n + 1,.cons r t=>.cons r (Vals.take n t)
theorem Vals.drop:∀ {xs:List V} {us:List Value} (n:Nat),Vals xs us→Vals (xs.drop n) (us.drop n)
  | _,_,0,r=>r
  | _,_,_ + 1,.nil=>.nil
  | _,_,n + 1,.cons _ t=>Vals.drop n t
def RelO:Option V→Option Value→Prop
  | some v,some u=>RelV v u
  | none,none=>True
  | _,_=>False
def KV {κ:Type}:List (κ × V)→List (κ × Value)→Prop:=Paired fun (p:κ × V) (q:κ × Value)=>p.1 = q.1∧RelV p.2 q.2
def kV:Key→V
  | .inl i=>.int i
  | .inr x=>.str x
inductive HO where
  | lst (xs:List V)
  | tup (xs:List V)
  | dK (kvs:List (Key × V)) | dT (kvs:List (List Key × V))
  | set (S:Int→Bool) (n:Nat)
  | ins (C dx:Addr) (fs:List (Str × V))
  | own (x:Addr)
  | xd (fs:List (Str × V))
  | met (f x:Addr)
  | rng (lo hi:Int)
  | frz (o:Obj) (u:HO)
  | tbl (ps:Array Value)
  | ext (φ:Heap→Prop)
abbrev Hp:=Addr→Option HO
def upd (H:Hp) (a:Addr) (o:HO):Hp:=fun b=>if b = a then some o else H b
theorem au {H:Hp} {a:Addr} {o:HO}:upd H a o a = some o:=by unfold upd; rw [if_pos rfl]
theorem aJ {H:Hp} {a b:Addr} {o:HO} (h:b ≠ a):upd H a o b = H b:=by unfold upd; rw [if_neg h]
theorem az {H:Hp} {a b:Addr} {o:HO} (h:H a = some o) (h':H b = none):a ≠ b:=by
  intro e; subst e; rw [h] at h'; cases h'
section
variable (P:Program) (w:World)
def ObjOk (H:Hp) (h:Heap) (a:Addr):HO→Prop
  | .lst xs=>xs.length ≤ sizeLine∧∃ (its:List Value) (n:Nat),Vals xs its∧h.get? a = some { cls:=.type "list",data:=.seq its.toArray n }
  | .tup xs=>xs.length ≤ sizeLine∧∃ its:List Value,Vals xs its∧IsTup h a its.toArray
  | .dK kvs=>kvs.length ≤ sizeLine∧(a == sysModules) = false∧∃ vs,KV kvs vs∧h.DictOf (de P w) a vs
  | .dT kvs=>kvs.length ≤ sizeLine∧(a == sysModules) = false∧∃ xs:List (List Key × Addr × Value),
      Paired (fun (p:List Key × V) (q:List Key × Addr × Value)=>p.1 = q.1∧H q.2.1 = some (.tup (p.1.map kV))∧RelV p.2 q.2.2) kvs xs ∧
      ∃ o es ep,h.get? a = some o∧o.ExactDict∧o.data = .dict es ep∧es.toList = xs.map (entryOfKey (tupleKind (de P w)))∧(xs.map (·.1)).Nodup
  | .set S n=>h.SetOf (intKind P w) a S n
  | .ins C dx fs=>H dx = some (.own a)∧fs.length ≤ 1000∧dx ≠ a∧h.get? a = some (PySem.W.instObj C dx) ∧
      ∃ mA,h.Ns1 dx mA∧(∀ f,RelO (fs.lookup f) (mA f))∧PySem.Within mA (fs.map (·.1))
  | .own _=>∃ o,h.get? a = some o
  | .xd fs=>∃ mA,h.Ns1 a mA∧∀ f,RelO (fs.lookup f) (mA f)
  | .rng lo hi=>∃ t u v,h.get? a = some { cls:=.type "range",data:=.fields #[.int lo t,.int hi u,.int 1 v] }
  | .frz o u=>h.get? a = some o∧ObjOk H h a u
  | .tbl ps=>h.get? a = some { cls:=.none,data:=.fields ps }
  | .met f x=>h.get? a = some (PySem.W.methodObj (.ref f) (.ref x))
  | .ext φ=>φ h∧(∃ o,h.get? a = some o)∧∀ h1 h2:Heap,φ h1→(∀ o,h1.get? a = some o→h2.get? a = some o)→φ h2
def HOk (H:Hp) (h:Heap):Prop:=∀ a o,H a = some o→ObjOk P w H h a o
end
section
variable {P:Program} {w:World} {H H':Hp} {h h':Heap} {a:Addr} {o:HO}
theorem ObjOk.lt (x:ObjOk P w H h a o):a < h.objs.size:=by
  cases o with
  | lst xs=>obtain ⟨_,_,_,_,e⟩:=x; exact Heap.lt_size e
  | tup xs=>obtain ⟨_,_,_,p⟩:=x; exact p.lt
  | dK kvs=>obtain ⟨_,_,_,_,o,_,_,e,_⟩:=x; exact Heap.lt_size e
  | dT kvs=>obtain ⟨_,_,_,_,o,_,_,e,_⟩:=x; exact Heap.lt_size e
  | set S n=>obtain ⟨o,_,_,_,e,_⟩:=x; exact Heap.lt_size e
  | ins C dx fs=>obtain ⟨_,_,_,e,_⟩:=x; exact Heap.lt_size e
  | own y=>obtain ⟨_,e⟩:=x; exact Heap.lt_size e
  | xd fs=>obtain ⟨_,⟨_,_,_,e,_⟩,_⟩:=x; exact Heap.lt_size e
  | rng lo hi=>obtain ⟨_,_,_,e⟩:=x; exact Heap.lt_size e
  | frz ob u=>obtain ⟨e,_⟩:=x; exact Heap.lt_size e
  | tbl ps=>exact Heap.lt_size (show h.get? a = some _ from x)
  | met f y=>exact Heap.lt_size (show h.get? a = some _ from x)
  | ext φ=>obtain ⟨_,⟨_,e⟩,_⟩:=x; exact Heap.lt_size e
theorem Paired.mapP {α β:Type} {F G:α→β→Prop}:∀ {l₁:List α} {l₂:List β},Paired F l₁ l₂→(∀ a b,F a b→G a b)→Paired G l₁ l₂
  | _,_,.nil,_=>.nil
  | _,_,.cons r t,f=>.cons (f _ _ r) (Paired.mapP t f)
theorem ObjOk.stay (x:ObjOk P w H h a o) (k:∀ b u,(b = a∨H b = some (.own a))→h.get? b = some u→h'.get? b = some u)
    (ho:∀ b,H b = some (.own a)→H' b = some (.own a)) (ht:∀ b xs,H b = some (.tup xs)→H' b = some (.tup xs)):ObjOk P w H' h' a o:=by
  induction o with
  | lst xs=>obtain ⟨z,its,n,r,e⟩:=x; exact ⟨z,its,n,r,k _ _ (.inl rfl) e⟩
  | tup xs=>obtain ⟨z,its,r,ob,e,c⟩:=x; exact ⟨z,its,r,ob,k _ _ (.inl rfl) e,c⟩
  | dK kvs=>obtain ⟨z,y,vs,r,ob,es,ep,e,c⟩:=x; exact ⟨z,y,vs,r,ob,es,ep,k _ _ (.inl rfl) e,c⟩
  | dT kvs =>
    obtain ⟨z,y,xs,r,ob,es,ep,e,c⟩:=x
    exact ⟨z,y,xs,Paired.mapP r fun p q z=>⟨z.1,ht _ _ z.2.1,z.2.2⟩,ob,es,ep,k _ _ (.inl rfl) e,c⟩
  | set S n=>obtain ⟨ob,es,ep,t,e,c⟩:=x; exact ⟨ob,es,ep,t,k _ _ (.inl rfl) e,c⟩
  | ins C dx fs =>
    obtain ⟨d,z,ne,e,mA,⟨od,es,ep,e2,c⟩,r⟩:=x
    exact ⟨ho _ d,z,ne,k _ _ (.inl rfl) e,mA,⟨od,es,ep,k _ _ (.inr d) e2,c⟩,r⟩
  | own y=>obtain ⟨ob,e⟩:=x; exact ⟨ob,k _ _ (.inl rfl) e⟩
  | xd fs=>obtain ⟨mA,⟨od,es,ep,e,c⟩,r⟩:=x; exact ⟨mA,⟨od,es,ep,k _ _ (.inl rfl) e,c⟩,r⟩
  | rng lo hi=>obtain ⟨t,u,v,e⟩:=x; exact ⟨t,u,v,k _ _ (.inl rfl) e⟩
  | frz ob u ih=>obtain ⟨e,q⟩:=x; exact ⟨k _ _ (.inl rfl) e,ih q⟩
  | tbl ps =>
    have e:h.get? a = some { cls:=.none,data:=.fields ps }:=x
    show h'.get? a = some { cls:=.none,data:=.fields ps }
    exact k a _ (.inl rfl) e
  | met f y =>
    have e:h.get? a = some (PySem.W.methodObj (.ref f) (.ref y)):=x
    show h'.get? a = some (PySem.W.methodObj (.ref f) (.ref y))
    exact k a _ (.inl rfl) e
  | ext φ=>obtain ⟨p,⟨o,e⟩,st⟩:=x; exact ⟨st _ _ p fun o q=>k _ _ (.inl rfl) q,⟨o,k _ _ (.inl rfl) e⟩,st⟩
theorem HOk.lt (x:HOk P w H h) (e:H a = some o):a < h.objs.size:=(x a o e).lt
theorem HOk.fresh (x:HOk P w H h) (e:h.objs.size ≤ a):H a = none:=by
  cases q:H a with
  | none=>rfl
  | some u=>exact absurd (Nat.lt_of_lt_of_le (x.lt q) e) (Nat.lt_irrefl _)
theorem HOk.kept (x:HOk P w H h) (k:∀ b u,h.get? b = some u→h'.get? b = some u):HOk P w H h':=fun a o e =>
  (x a o e).stay (fun b u _ q=>k b u q) (fun _ q=>q) fun _ _ q=>q
theorem HOk.laid (x:HOk P w H h) (k:∀ b u,h.get? b = some u→h'.get? b = some u) (hp:h.objs.size ≤ a) (new:ObjOk P w (upd H a o) h' a o):HOk P w (upd H a o) h':=fun b u e=>by
  have hn:=x.fresh hp
  by_cases hb:b = a
  · subst hb; rw [au] at e; cases e; exact new
  · rw [aJ hb] at e
    exact (x b u e).stay (fun c v _ q=>k c v q) (fun c q=>by rw [aJ (az q hn)]; exact q) fun c xs q=>by rw [aJ (az q hn)]; exact q
end
def Rd (H:Hp) (a:Addr) (u:HO):Prop:=H a = some u∨∃ o,H a = some (.frz o u)
theorem Rd.ok {P:Program} {w:World} {H:Hp} {h:Heap} {a:Addr} {u:HO} (r:Rd H a u) (x:HOk P w H h):ObjOk P w H h a u:=by
  rcases r with r | ⟨o,r⟩
  · exact x a u r
  · obtain ⟨_,q⟩:=x a _ r
    exact q
def Mut:Option HO→Prop
  | some (.lst _)=>True
  | some (.dK _)=>True
  | some (.dT _)=>True
  | some (.set _ _)=>True
  | some (.ins _ _ _)=>True
  | some (.ext _)=>True
  | _=>False
section
variable {P:Program} {w:World} {H:Hp} {h h':Heap} {x e:Addr} {o':HO}
theorem HOk.write (ok:HOk P w H h) (mu:Mut (H x)) (he:e = x∨H e = some (.own x)) (k:∀ b u,b ≠ e→h.get? b = some u→h'.get? b = some u) (heo:∃ u,h'.get? e = some u)
    (new:ObjOk P w (upd H x o') h' x o'):HOk P w (upd H x o') h':=fun b u q=>by
  have nown:∀ c y,H c = some (.own y)→c ≠ x:=fun c y r z=>by subst z; rw [r] at mu; exact mu
  have ntup:∀ c xs,H c = some (.tup xs)→c ≠ x:=fun c xs r z=>by subst z; rw [r] at mu; exact mu
  by_cases hb:b = x
  · subst hb; rw [au] at q; cases q; exact new
  · rw [aJ hb] at q
    by_cases hbe:b = e
    · have q':H b = some (.own x):=by
        rcases he with z | z
        · exact absurd (hbe.trans z) hb
        · rw [hbe]; exact z
      rw [q] at q'; cases q'
      obtain ⟨v,hv⟩:=heo
      exact ⟨v,by rw [hbe]; exact hv⟩
    · refine (ok b u q).stay (fun c v hc r=>k c v ?_ r) (fun c r=>by rw [aJ (nown c b r)]; exact r) fun c xs r=>by rw [aJ (ntup c xs r)]; exact r
      rcases hc with rfl | hc
      · exact hbe
      · rintro rfl
        rcases he with z | z
        · exact nown c b hc z
        · rw [hc] at z; cases z; exact hb rfl
end
structure Un (fs ex:List Addr) (H H':Hp) (h h':Heap):Prop where
  keep:∀ b o,h.get? b = some o→H b = none→b ∉ fs→b ∉ ex→h'.get? b = some o
  slot:∀ b o,h.get? b = some o→H b = none→b ∈ fs→b ∉ ex→∃ sl,h'.get? b = some { o with slots:=sl }
  free:∀ b o,h.get? b = some o→H b = none→b ∉ ex→H' b = none
  there:∀ b o,h.get? b = some o→b ∉ ex→∃ o',h'.get? b = some o'
  tups:∀ b xs,H b = some (.tup xs)→H' b = some (.tup xs)
  frzs:∀ b o u,H b = some (.frz o u)→H' b = some (.frz o u)
  tbls:∀ b ps,H b = some (.tbl ps)→∃ more,H' b = some (.tbl (ps ++ more))
section
variable {fs fs' ex ex':List Addr} {H H1 H2:Hp} {h h1 h2 h':Heap} {a x e:Addr} {o:HO}
theorem Un.any (u:Un fs ex H H1 h h1) {b:Addr} {ob:Obj} (q:h.get? b = some ob) (n:H b = none) (hx:b ∉ ex):∃ sl,h1.get? b = some { ob with slots:=sl }:=by
  by_cases hb:b ∈ fs
  · exact u.slot b ob q n hb hx
  · exact ⟨ob.slots,u.keep b ob q n hb hx⟩
theorem Un.kept (k:∀ b u,h.get? b = some u→h'.get? b = some u):Un fs ex H H h h' :=
  ⟨fun b ob q _ _ _=>k b ob q,fun b ob q _ _ _=>⟨ob.slots,k b ob q⟩,fun _ _ _ n _=>n,fun b ob q _=>⟨ob,k b ob q⟩,fun _ _ q=>q,fun _ _ _ q=>q,fun _ ps q=>⟨#[],by rw [q]; simp⟩⟩
theorem Un.refl:Un fs ex H H h h:=Un.kept fun _ _ q=>q
theorem Un.laid (k:∀ b u,h.get? b = some u→h'.get? b = some u) (hp:h.objs.size ≤ a) (hn:H a = none):Un fs ex H (upd H a o) h h' where
  keep:=fun b u q _ _ _=>k b u q
  slot:=fun b u q _ _ _=>⟨u.slots,k b u q⟩
  free:=fun b u q n _=>by rw [aJ (Nat.ne_of_lt (Nat.lt_of_lt_of_le (Heap.lt_size q) hp))]; exact n
  there:=fun b u q _=>⟨u,k b u q⟩
  tups:=fun b xs q=>by rw [aJ (az q hn)]; exact q
  frzs:=fun b u xs q=>by rw [aJ (az q hn)]; exact q
  tbls:=fun b ps q=>⟨#[],by rw [aJ (az q hn),q]; simp⟩
theorem Un.write (mu:Mut (H x)) (he:e = x∨H e = some (.own x)) (k:∀ b u,b ≠ e→h.get? b = some u→h'.get? b = some u) (heo:∃ u,h'.get? e = some u):Un fs ex H (upd H x o) h h':=by
  have hx:∀ b,H b = none→b ≠ x:=fun b n z=>by subst z; rw [n] at mu; exact mu
  have hb:∀ b,H b = none→b ≠ e:=fun b n z=>by
    subst z
    rcases he with r | r
    · exact hx b n r
    · rw [n] at r; cases r
  have hm:∀ b u,H b = some u→¬ Mut (some u)→b ≠ x:=fun b u q nm z=>by subst z; rw [q] at mu; exact nm mu
  refine ⟨fun b u q n _ _=>k b u (hb b n) q,fun b u q n _ _=>⟨u.slots,k b u (hb b n) q⟩,fun b u q n _=>by rw [aJ (hx b n)]; exact n,fun b u q _=>?_,
    fun b xs q=>by rw [aJ (hm b _ q fun z=>z)]; exact q,fun b u xs q=>by rw [aJ (hm b _ q fun z=>z)]; exact q,fun b ps q=>⟨#[],by rw [aJ (hm b _ q fun z=>z),q]; simp⟩⟩
  by_cases hbe:b = e
  · subst hbe; exact heo
  · exact ⟨u,k b u hbe q⟩
end
def trk (h:Heap) (H:Hp):List Addr:=(List.range h.objs.size).filter fun a=>(H a).isSome
def oF (h:Heap) (H:Hp):Heap:=PySem.W.hideAll h (trk h H)
theorem uA (h:Heap) (H:Hp):(oF h H).objs.size = h.objs.size:=PySem.W.hideAll_size _ _
theorem wA {h:Heap} {H:Hp} {b:Addr} {o:Obj} (e:h.get? b = some o) (n:H b = none):(oF h H).get? b = some o :=
  PySem.W.hideAll_get _ e fun hm=>by
    have q:(H b).isSome = true:=(List.mem_filter.mp hm).2
    rw [n] at q; simp at q
theorem yV {h:Heap} {H:Hp} {b:Addr} {o:Obj} (e:(oF h H).get? b = some o):h.get? b = some o∧H b = none:=by
  have e':h.get? b = some o:=PySem.W.of_hideAll (trk h H) e
  refine ⟨e',?_⟩
  cases q:H b with
  | none=>rfl
  | some x =>
    have hm:b ∈ trk h H:=List.mem_filter.mpr ⟨List.mem_range.mpr (Heap.lt_size e'),by simp [q]⟩
    have z:(oF h H).get? b = none:=PySem.W.hideAll_none (trk h H) hm
    rw [z] at e; cases e
end L2
namespace L2
open PySem PySem.Spec PyProof.Rows
structure Mod (K:PySem.W.Frag) (mg:Str→Option Value) (base:Heap):Prop where
  kin:K.In base
  glob:base.Ns mainGlobals mg
  blt:∃ mb,base.Ns builtinsNs mb∧∀ x:Str,x ≠ "__name__"→mb x = bootBuiltins x
  nolimit:base.NoLimit
structure Cx where
  prog:Program
  w:World
  K:PySem.W.Frag
  mg:Str→Option Value
  base:Heap
  A:Around
  N:List Str
  s₀:Shared
  H₀:Hp
  env:Env
  outer:List Env
  stack:List Env
  ex:List Addr
  fn:Str→Bool
  calm:Bool
  pn:List (Addr × Obj)
  xe:Value→Shared→Prop
def frs (l:List Env):List Addr:=l.filterMap (·.frame)
abbrev Cx.fs (X:Cx):List Addr:=frs X.outer
def Vis (sc:Scope) (x:Str):Prop:=sc.names.lookup x = some .local∨sc.names.lookup x = some .cell∨sc.names.lookup x = some .free
def Loc (sc:Scope) (x:Str):Prop:=sc.names.lookup x = some .local∨sc.names.lookup x = some .cell
def Cd (env:Env) (h:Heap) (m:Str→Option Value) (x:Str) (u:Value):Prop :=
  (env.kindOf x = some .local∧m x = some u)∨((env.kindOf x = some .cell∨env.kindOf x = some .free)∧∃ c,env.cells.lookup x = some c∧h.IsCell c (some u))
structure Cx.Ok (X:Cx):Prop where
  mod:Mod X.K X.mg X.base
  kind:X.env.scope.kind = .function
  glob:X.env.globals = mainGlobals
  blt:X.env.builtins = builtinsNs
  above:X.s₀.heap.objs.size ≤ X.env.locals
  inj:∀ x y c,X.env.cells.lookup x = some c→X.env.cells.lookup y = some c→x = y
  has:∀ x,(X.env.kindOf x = some .cell∨X.env.kindOf x = some .free)→∃ c,X.env.cells.lookup x = some c
  cab:∀ x c,X.fn x = true→X.env.cells.lookup x = some c→X.s₀.heap.objs.size ≤ c
  hd:X.calm = true→X.A.handled = none
  frames:X.A.frames = some X.stack
  stk:X.stack = X.outer∨(X.stack = X.env :: X.outer∧X.env.frame = some X.env.locals)
  exf:∀ b ∈ X.ex,b ≠ X.env.locals∧∀ x c,X.env.cells.lookup x = some c→c ≠ b
  bs:∀ b o,X.base.get? b = some o→X.s₀.heap.get? b = some o∧X.H₀ b = none
  bsz:X.base.objs.size ≤ X.s₀.heap.objs.size
  noex:∀ b o,X.base.get? b = some o→b ∉ X.ex
  exfs:∀ b ∈ X.ex,b ∉ X.fs
  funs:X.s₀.heap.FunFrames X.base X.outer
  frf:∀ b ∈ X.fs,X.H₀ b = none
structure Inv (X:Cx) (pins:List (Addr × Obj)) (σ:List (Option V)) (H:Hp) (s:Shared):Prop where
  ok:X.Ok
  os:s.os = X.s₀.os
  bare:AllBare s.gens
  base:Un X.fs X.ex X.H₀ H X.s₀.heap s.heap
  loc:∃ m,s.heap.Ns X.env.locals m∧∀ (i:Nat) (x:Str) (v:V),X.N[i]? = some x→σ[i]? = some (some v)→Vis X.env.scope x→∃ u,RelV v u∧Cd X.env s.heap m x u
  cell:∀ x c,X.env.cells.lookup x = some c→∃ v,s.heap.IsCell c v
  free:H X.env.locals = none
  freeC:∀ x c,X.env.cells.lookup x = some c→H c = none
  pin:∀ p ∈ X.pn ++ pins,s.heap.get? p.1 = some p.2∧H p.1 = none∧p.1 ≠ X.env.locals∧p.1 ∉ X.fs∧∀ v,p.2.data ≠ .cell v
  hok:HOk X.prog X.w H s.heap
  len:σ.length = X.N.length
section
variable {X:Cx} {pins:List (Addr × Obj)} {σ:List (Option V)} {H H':Hp} {s:Shared} {h':Heap}
theorem Cx.Ok.nofr (ok:X.Ok) {b:Addr} {o:Obj} (e:X.base.get? b = some o):b ∉ X.fs:=fun hb=>by
  have:=(ok.funs.mem hb).1
  rw [e] at this; cases this
theorem Inv.bs (I:Inv X pins σ H s):∀ b o,X.base.get? b = some o→s.heap.get? b = some o∧H b = none:=fun b o e =>
  ⟨I.base.keep b o (I.ok.bs b o e).1 (I.ok.bs b o e).2 (I.ok.nofr e) (I.ok.noex b o e),I.base.free b o (I.ok.bs b o e).1 (I.ok.bs b o e).2 (I.ok.noex b o e)⟩
theorem Inv.bk (I:Inv X pins σ H s):∀ b o,X.base.get? b = some o→s.heap.get? b = some o:=fun b o e=>(I.bs b o e).1
theorem Inv.mod (I:Inv X pins σ H s):Mod X.K X.mg X.base:=I.ok.mod
theorem Inv.kIn (I:Inv X pins σ H s):X.K.In s.heap:=I.ok.mod.kin.keeps I.bk
theorem Inv.lt (I:Inv X pins σ H s):X.env.locals < s.heap.objs.size:=let ⟨_,hn,_⟩:=I.loc; hn.lt
theorem Inv.sz (I:Inv X pins σ H s):X.s₀.heap.objs.size ≤ s.heap.objs.size:=Nat.le_trans I.ok.above (Nat.le_of_lt I.lt)
theorem Inv.nofs (I:Inv X pins σ H s) {a:Addr} (h:s.heap.objs.size ≤ a):a ∉ X.fs:=fun hb=>by
  obtain ⟨_,o,ho,_⟩:=I.ok.funs.mem hb
  exact absurd (Nat.lt_of_lt_of_le (Heap.lt_size ho) (Nat.le_trans I.sz h)) (Nat.lt_irrefl _)
theorem Inv.cne (I:Inv X pins σ H s):∀ x c,X.env.cells.lookup x = some c→c ≠ X.env.locals:=fun x c e z=>by
  obtain ⟨v,o,ho,hd⟩:=I.cell x c e
  obtain ⟨m,⟨o',es,ep,ho',hd',_⟩,_⟩:=I.loc
  rw [z,ho'] at ho; cases ho; rw [hd'] at hd; cases hd
theorem Inv.funs (I:Inv X pins σ H s):s.heap.FunFrames X.base X.outer:=by
  have all:∀ (l:List Env),(∀ b ∈ frs l,b ∈ X.fs)→X.s₀.heap.FunFrames X.base l→s.heap.FunFrames X.base l:=by
    intro l
    induction l with
    | nil=>intro _ _; trivial
    | cons env r ih =>
      intro hs hl
      obtain ⟨hk,⟨L,o,hf,hn,ho,hd⟩,hr⟩:=hl
      have hL:L ∈ X.fs:=hs L (by unfold frs; rw [List.filterMap_cons,hf]; exact List.mem_cons_self)
      obtain ⟨sl,e⟩:=I.base.slot L o ho (I.ok.frf L hL) hL fun z=>I.ok.exfs L z hL
      exact ⟨hk,⟨L,_,hf,hn,e,hd⟩,ih (fun b hb=>hs b (by unfold frs; rw [List.filterMap_cons,hf]; exact List.mem_cons_of_mem _ hb)) hr⟩
  exact all X.outer (fun _ hb=>hb) I.ok.funs
theorem Inv.stack (I:Inv X pins σ H s):s.heap.FunFrames X.base X.stack:=by
  rcases I.ok.stk with e | ⟨e,hf⟩
  · rw [e]; exact I.funs
  · rw [e]
    obtain ⟨m,hn,_⟩:=I.loc
    refine .cons (by rw [I.ok.kind]; decide) hf hn ?_ I.funs
    exact Heap.get?_none_of_le (Nat.le_trans I.ok.bsz I.ok.above)
theorem Inv.stkSub (I:Inv X pins σ H s):∀ b ∈ frs X.stack,b ∈ X.env.locals :: X.fs:=fun b hb=>by
  rcases I.ok.stk with e | ⟨e,hf⟩
  · rw [e] at hb; exact List.mem_cons_of_mem _ hb
  · rw [e] at hb
    unfold frs at hb
    rw [List.filterMap_cons,hf] at hb
    exact hb
theorem Inv.stkFree (I:Inv X pins σ H s):∀ b ∈ frs X.stack,H b = none:=fun b hb=>by
  rcases List.mem_cons.mp (I.stkSub b hb) with e | hb
  · rw [e]; exact I.free
  · obtain ⟨_,o,ho,_⟩:=I.ok.funs.mem hb
    exact I.base.free b o ho (I.ok.frf b hb) fun z=>I.ok.exfs b z hb
theorem Inv.step {g':Array GenState} {t':Nat} {d':Drawn} {ch:List Addr} (I:Inv X pins σ H s)
    (hch:∀ b ∈ ch,(b ∈ X.ex∨X.s₀.heap.objs.size ≤ b)∧b ≠ X.env.locals∧(∀ x c,X.env.cells.lookup x = some c→c ≠ b)∧∀ p ∈ X.pn ++ pins,p.1 ≠ b)
    (keep:∀ b o,b ≠ X.env.locals→b ∉ X.fs→b ∉ ch→s.heap.get? b = some o→H b = none→h'.get? b = some o)
    (slot:∀ b o,b ≠ X.env.locals→b ∈ X.fs→b ∉ ch→s.heap.get? b = some o→H b = none→∃ sl,h'.get? b = some { o with slots:=sl }) (free:∀ b o,b ∉ ch→s.heap.get? b = some o→H b = none→H' b = none)
    (there:∀ b o,b ∉ ch→s.heap.get? b = some o→∃ o',h'.get? b = some o')
    (tups:∀ b xs,H b = some (.tup xs)→H' b = some (.tup xs)) (frzs:∀ b o u,H b = some (.frz o u)→H' b = some (.frz o u)) (tbls:∀ b ps,H b = some (.tbl ps)→∃ more,H' b = some (.tbl (ps ++ more)))
    (ns:∀ m,s.heap.Ns X.env.locals m→h'.Ns X.env.locals m) (hok:HOk X.prog X.w H' h') (hg:AllBare g') :
    Inv X pins σ H' { s with heap:=h',gens:=g',drawn:=d',toks:=t' }:=by
  have neL:∀ b o,X.s₀.heap.get? b = some o→b ≠ X.env.locals:=fun b o e=>Nat.ne_of_lt (Nat.lt_of_lt_of_le (Heap.lt_size e) I.ok.above)
  have neC:∀ b o,X.s₀.heap.get? b = some o→b ∉ X.ex→b ∉ ch:=fun b o e hx hb=>by
    rcases (hch b hb).1 with z | z
    · exact hx z
    · exact absurd (Nat.lt_of_lt_of_le (Heap.lt_size e) z) (Nat.lt_irrefl _)
  have cellK:∀ x c,X.env.cells.lookup x = some c→∀ v,s.heap.IsCell c v→h'.IsCell c v:=fun x c e v ⟨o,ho,hd⟩=>by
    have nch:c ∉ ch:=fun z=>(hch c z).2.2.1 x c e rfl
    by_cases hc:c ∈ X.fs
    · obtain ⟨sl,q⟩:=slot c o (I.cne x c e) hc nch ho (I.freeC x c e)
      exact ⟨_,q,hd⟩
    · exact ⟨o,keep c o (I.cne x c e) hc nch ho (I.freeC x c e),hd⟩
  refine ⟨I.ok,I.os,hg,⟨fun b o e n hb hx=>?_,fun b o e n hb hx=>?_,fun b o e n hx=>?_,fun b o e hx=>?_,fun b xs e=>tups b xs (I.base.tups b xs e),fun b o xs e=>frzs b o xs (I.base.frzs b o xs e),fun b ps e=>?_⟩,?_,fun x c e=>?_,?_,fun x c e=>?_,fun p hp=>?_,hok,I.len⟩
  · exact keep b o (neL b o e) hb (neC b o e hx) (I.base.keep b o e n hb hx) (I.base.free b o e n hx)
  · obtain ⟨sl,e1⟩:=I.base.slot b o e n hb hx
    obtain ⟨sl',e2⟩:=slot b _ (neL b o e) hb (neC b o e hx) e1 (I.base.free b o e n hx)
    exact ⟨sl',e2⟩
  · obtain ⟨o',e1⟩:=I.base.there b o e hx
    exact free b o' (neC b o e hx) e1 (I.base.free b o e n hx)
  · obtain ⟨o',e1⟩:=I.base.there b o e hx
    exact there b o' (neC b o e hx) e1
  · obtain ⟨m1,e1⟩:=I.base.tbls b ps e
    obtain ⟨m2,e2⟩:=tbls b _ e1
    exact ⟨m1 ++ m2,by rw [e2,Array.append_assoc]⟩
  · obtain ⟨m,hn,hl⟩:=I.loc
    refine ⟨m,ns m hn,fun i x v e1 e2 e3=>?_⟩
    obtain ⟨u,r,l⟩:=hl i x v e1 e2 e3
    refine ⟨u,r,?_⟩
    rcases l with l | ⟨k,c,e,z⟩
    · exact .inl l
    · exact .inr ⟨k,c,e,cellK x c e _ z⟩
  · obtain ⟨v,z⟩:=I.cell x c e
    exact ⟨v,cellK x c e v z⟩
  · obtain ⟨m,⟨o,_,_,ho,_⟩,_⟩:=I.loc
    exact free _ o (fun z=>(hch _ z).2.1 rfl) ho I.free
  · obtain ⟨v,o,ho,hd⟩:=I.cell x c e
    exact free c o (fun z=>(hch c z).2.2.1 x c e rfl) ho (I.freeC x c e)
  · obtain ⟨e,n,ne,nf,d⟩:=I.pin p hp
    have nch:p.1 ∉ ch:=fun z=>(hch p.1 z).2.2.2 p hp rfl
    exact ⟨keep p.1 p.2 ne nf nch e n,free p.1 p.2 nch e n,ne,nf,d⟩
theorem Inv.un {t':Nat} (I:Inv X pins σ H s) (u:Un X.fs [] H H' s.heap h') (hok:HOk X.prog X.w H' h'):Inv X pins σ H' { s with heap:=h',toks:=t' }:=by
  obtain ⟨m,⟨o,es,ep,ho,r⟩,_⟩:=id I.loc
  obtain ⟨sl,hL⟩:=u.any ho I.free (by simp)
  exact I.step (g':=s.gens) (d':=s.drawn) (ch:=[]) (fun _ z=>nomatch z) (fun b o _ hb _ e n=>u.keep b o e n hb (by simp)) (fun b o _ hb _ e n=>u.slot b o e n hb (by simp)) (fun b o _ e n=>u.free b o e n (by simp)) (fun b o _ e=>u.there b o e (by simp)) u.tups u.frzs u.tbls (fun m' hm=>by
    obtain ⟨o',es',ep',ho',r'⟩:=hm
    rw [ho] at ho'; cases ho'
    exact ⟨_,es',ep',hL,r'⟩) hok I.bare
theorem Inv.call {g':Array GenState} {t':Nat} {d':Drawn} {ch:List Addr} (I:Inv X pins σ H s) (u:Un (frs X.stack) ch H H' s.heap h') (hok:HOk X.prog X.w H' h') (hg:AllBare g')
    (hch:∀ b ∈ ch,(b ∈ X.ex∨X.s₀.heap.objs.size ≤ b)∧b ≠ X.env.locals∧(∀ x c,X.env.cells.lookup x = some c→c ≠ b)∧∀ p ∈ X.pn ++ pins,p.1 ≠ b) :
    Inv X pins σ H' { s with heap:=h',gens:=g',drawn:=d',toks:=t' }:=by
  obtain ⟨m,⟨o,es,ep,ho,r⟩,_⟩:=id I.loc
  obtain ⟨sl,hL⟩:=u.any ho I.free fun z=>(hch _ z).2.1 rfl
  exact I.step (ch:=ch) hch (fun b o hL hb hc e n=>u.keep b o e n (fun z=>(List.mem_cons.mp (I.stkSub b z)).elim hL hb) hc) (fun b o _ _ hc e n=>u.any e n hc) (fun b o hc e n=>u.free b o e n hc) (fun b o hc e=>u.there b o e hc) u.tups u.frzs u.tbls (fun m' hm=>by
    obtain ⟨o',es',ep',ho',r'⟩:=hm
    rw [ho] at ho'; cases ho'
    exact ⟨_,es',ep',hL,r'⟩) hok hg
theorem Inv.turned {t':Nat} {it:Addr} (I:Inv X pins σ H s) (k:∀ b o,b ≠ it→s.heap.get? b = some o→h'.get? b = some o) (hn:H it = none) (hL:it ≠ X.env.locals)
    (h1:it ∈ X.ex∨X.s₀.heap.objs.size ≤ it) (h2:∀ x c,X.env.cells.lookup x = some c→c ≠ it) (h3:∀ p ∈ X.pn ++ pins,p.1 ≠ it):Inv X pins σ H { s with heap:=h',toks:=t' }:=by
  have nit:∀ b u,H b = some u→b ≠ it:=fun b u e z=>by rw [z,hn] at e; cases e
  refine I.step (g':=s.gens) (d':=s.drawn) (ch:=[it]) (fun b hb=>?_) (fun b o _ _ hc e _=>k b o (fun z=>hc (by simp [z])) e) (fun b o _ _ hc e _=>⟨o.slots,k b o (fun z=>hc (by simp [z])) e⟩) (fun _ _ _ _ n=>n)
    (fun b o hc e=>⟨o,k b o (fun z=>hc (by simp [z])) e⟩) (fun _ _ e=>e) (fun _ _ _ e=>e) (fun b ps e=>⟨#[],by rw [e]; simp⟩) (fun m hm=>?_) (fun b u e=>?_) I.bare
  · have e:b = it:=by simpa using hb
    subst e
    exact ⟨h1,hL,h2,h3⟩
  · obtain ⟨o,es,ep,ho,r⟩:=hm
    exact ⟨o,es,ep,k _ o (Ne.symm hL) ho,r⟩
  · refine (I.hok b u e).stay (fun c v hc q=>k c v ?_ q) (fun _ q=>q) fun _ _ q=>q
    rcases hc with z | z
    · rw [z]; exact nit b u e
    · exact nit c _ z
theorem Inv.tok (I:Inv X pins σ H s) (t:Nat):Inv X pins σ H { s with toks:=t }:=I.un (h':=s.heap) (t':=t) Un.refl I.hok
theorem Inv.kept {t':Nat} (I:Inv X pins σ H s) (k:∀ b u,s.heap.get? b = some u→h'.get? b = some u):Inv X pins σ H { s with heap:=h',toks:=t' }:=I.un (Un.kept k) (I.hok.kept k)
theorem Inv.laid {a:Addr} {o:HO} {t':Nat} (I:Inv X pins σ H s) (k:∀ b u,s.heap.get? b = some u→h'.get? b = some u) (hp:s.heap.objs.size ≤ a) (new:ObjOk X.prog X.w (upd H a o) h' a o) :
    Inv X pins σ (upd H a o) { s with heap:=h',toks:=t' }:=I.un (Un.laid k hp (I.hok.fresh hp)) (I.hok.laid k hp new)
theorem Inv.write {x e:Addr} {o:HO} {t':Nat} (I:Inv X pins σ H s) (mu:Mut (H x)) (he:e = x∨H e = some (.own x)) (k:∀ b u,b ≠ e→s.heap.get? b = some u→h'.get? b = some u) (heo:∃ u,h'.get? e = some u)
    (new:ObjOk X.prog X.w (upd H x o) h' x o):Inv X pins σ (upd H x o) { s with heap:=h',toks:=t' }:=I.un (Un.write mu he k heo) (I.hok.write mu he k heo new)
theorem Inv.pins_of {pins':List (Addr × Obj)} (I:Inv X pins σ H s) (h:∀ p ∈ pins',s.heap.get? p.1 = some p.2∧H p.1 = none∧p.1 ≠ X.env.locals∧p.1 ∉ X.fs∧∀ v,p.2.data ≠ .cell v):Inv X pins' σ H s :=
  ⟨I.ok,I.os,I.bare,I.base,I.loc,I.cell,I.free,I.freeC,fun p hp=>(List.mem_append.mp hp).elim (fun z=>I.pin p (List.mem_append_left _ z)) (h p),I.hok,I.len⟩
theorem mj {N:List Str} (hN:N.Nodup) {i j:Nat} {x:Str} (a:N[i]? = some x) (b:N[j]? = some x):i = j:=by
  obtain ⟨h1,e1⟩:=List.getElem?_eq_some_iff.mp a
  obtain ⟨h2,e2⟩:=List.getElem?_eq_some_iff.mp b
  exact (List.getElem_inj hN).mp (e1.trans e2.symm)
theorem nQ {M:Model} {A:Around} {E:Value→Shared→Prop} {i:Nat} {x:Str} {v:V} {u:Value} {Q:Unit→Shared→Prop} (I:Inv X pins σ H s) (hN:X.N.Nodup) (hi:X.N[i]? = some x) (hx:Loc X.env.scope x) (r:RelV v u)
    (h:∀ s',Inv X pins (σ.set i (some v)) H s'→(∃ a,Heap.SameBut a s.heap s'.heap∧(a = X.env.locals∨X.env.cells.lookup x = some a))→Q () s') (hf:X.fn x = true∨X.env.scope.names.lookup x = some .local:=by first | exact .inl rfl | exact .inr rfl | assumption):wpAny M A (storeName X.env x u) Q E s:=by
  obtain ⟨m,hn,hl⟩:=id I.loc
  have hcls:(X.env.scope.kind == .class || (X.env.scope.kind == .module && X.env.locals != X.env.globals)) = false:=by rw [I.ok.kind]; rfl
  have hiσ:i < σ.length:=by rw [I.len]; exact (List.getElem?_eq_some_iff.mp hi).1
  have cne:=I.cne
  have tracked:∀ {a:Addr} {h':Heap},(∃ o,s.heap.get? a = some o∧H a = none)→Heap.SameBut a s.heap h'→HOk X.prog X.w H h':=fun {a h'} ha hs b ob e=>by
    obtain ⟨_,_,hfree⟩:=ha
    refine (I.hok b ob e).stay (fun c w' hc q=>(hs.2 c ?_).trans q) (fun _ q=>q) fun _ _ q=>q
    rintro rfl
    rcases hc with rfl | hc
    · rw [hfree] at e; cases e
    · rw [hfree] at hc; cases hc
  rcases hx with hk | hk
  · refine wpAny_storeName_local hk hn (fun h' hn' hs=>?_) hcls
    obtain ⟨oL,_,_,hoL,_⟩:=id hn
    refine h _ ⟨I.ok,I.os,I.bare,⟨fun b o e n hb hx=>?_,fun b o e n hb hx=>?_,I.base.free,fun b o e hx=>?_,I.base.tups,I.base.frzs,I.base.tbls⟩,⟨_,hn',fun j y v' e1 e2 e3=>?_⟩,fun y c e=>?_,I.free,I.freeC,fun p hp=>?_,tracked ⟨oL,hoL,I.free⟩ hs,by simpa using I.len⟩ ⟨_,hs,.inl rfl⟩
    · exact (hs.2 b (Nat.ne_of_lt (Nat.lt_of_lt_of_le (Heap.lt_size e) I.ok.above))).trans (I.base.keep b o e n hb hx)
    · obtain ⟨sl,e1⟩:=I.base.slot b o e n hb hx
      exact ⟨sl,(hs.2 b (Nat.ne_of_lt (Nat.lt_of_lt_of_le (Heap.lt_size e) I.ok.above))).trans e1⟩
    · obtain ⟨o',e1⟩:=I.base.there b o e hx
      exact ⟨o',(hs.2 b (Nat.ne_of_lt (Nat.lt_of_lt_of_le (Heap.lt_size e) I.ok.above))).trans e1⟩
    · by_cases hj:j = i
      · subst hj
        rw [hi] at e1; cases e1
        rw [List.getElem?_set_self hiσ] at e2
        cases e2
        exact ⟨u,r,.inl ⟨hk,by simp⟩⟩
      · rw [List.getElem?_set_ne (Ne.symm hj)] at e2
        obtain ⟨u',r',q⟩:=hl j y v' e1 e2 e3
        refine ⟨u',r',?_⟩
        rcases q with ⟨k,e⟩ | ⟨k,c,e,z⟩
        · refine .inl ⟨k,?_⟩
          have:y ≠ x:=fun e=>hj (mj hN e1 (e ▸ hi))
          simp [this,e]
        · exact .inr ⟨k,c,e,z.sameBut hs (cne y c e)⟩
    · obtain ⟨w',z⟩:=I.cell y c e
      exact ⟨w',z.sameBut hs (cne y c e)⟩
    · obtain ⟨e,n,ne,nf,d⟩:=I.pin p hp
      exact ⟨(hs.2 p.1 ne).trans e,n,ne,nf,d⟩
  · have hfn:X.fn x = true:=by
      rcases hf with z | z
      · exact z
      · rw [z] at hk; cases hk
    obtain ⟨c,hc⟩:=I.ok.has x (.inl hk)
    obtain ⟨w',z⟩:=I.cell x c hc
    refine wpAny_storeName_cell I.ok.kind hk hc z (fun h' hc' hs=>?_)
    obtain ⟨oc,hoc,hocd⟩:=id z
    refine h { s with heap:=h' } ⟨I.ok,I.os,I.bare,⟨fun b o e n hb hx=>?_,fun b o e n hb hx=>?_,I.base.free,fun b o e hx=>?_,I.base.tups,I.base.frzs,I.base.tbls⟩,⟨m,hn.sameBut hs (Ne.symm (cne x c hc)),fun j y v' e1 e2 e3=>?_⟩,fun y c' e=>?_,I.free,I.freeC,fun p hp=>?_,tracked ⟨oc,hoc,I.freeC x c hc⟩ hs,by simpa using I.len⟩ ⟨c,hs,.inr hc⟩
    · exact (hs.2 b (Nat.ne_of_lt (Nat.lt_of_lt_of_le (Heap.lt_size e) (I.ok.cab x c hfn hc)))).trans (I.base.keep b o e n hb hx)
    · obtain ⟨sl,e1⟩:=I.base.slot b o e n hb hx
      exact ⟨sl,(hs.2 b (Nat.ne_of_lt (Nat.lt_of_lt_of_le (Heap.lt_size e) (I.ok.cab x c hfn hc)))).trans e1⟩
    · obtain ⟨o',e1⟩:=I.base.there b o e hx
      exact ⟨o',(hs.2 b (Nat.ne_of_lt (Nat.lt_of_lt_of_le (Heap.lt_size e) (I.ok.cab x c hfn hc)))).trans e1⟩
    · by_cases hj:j = i
      · subst hj
        rw [hi] at e1; cases e1
        rw [List.getElem?_set_self hiσ] at e2
        cases e2
        exact ⟨u,r,.inr ⟨.inl hk,c,hc,hc'⟩⟩
      · rw [List.getElem?_set_ne (Ne.symm hj)] at e2
        obtain ⟨u',r',q⟩:=hl j y v' e1 e2 e3
        refine ⟨u',r',?_⟩
        rcases q with q | ⟨k,c',e,z'⟩
        · exact .inl q
        · refine .inr ⟨k,c',e,z'.sameBut hs ?_⟩
          rintro rfl
          exact hj (mj hN e1 (I.ok.inj _ _ _ e hc ▸ hi))
    · by_cases hcc:c' = c
      · subst hcc; exact ⟨_,hc'⟩
      · obtain ⟨w2,z2⟩:=I.cell y c' e
        exact ⟨w2,z2.sameBut hs hcc⟩
    · obtain ⟨e,n,ne,nf,d⟩:=I.pin p hp
      refine ⟨(hs.2 p.1 ?_).trans e,n,ne,nf,d⟩
      intro q
      rw [q,hoc] at e
      have q':oc = p.2:=Option.some.inj e
      exact d w' (by rw [← q']; exact hocd)
theorem gN {M:Model} {A:Around} {E:Value→Shared→Prop} {i:Nat} {x:Str} {v:V} {u:Value} {Q:Unit→Shared→Prop} (I:Inv X pins σ H s) (hN:X.N.Nodup) (hi:X.N[i]? = some x) (hx:Loc X.env.scope x) (r:RelV v u)
    (h:∀ s',Inv X pins (σ.set i (some v)) H s'→Q () s') (hf:X.fn x = true∨X.env.scope.names.lookup x = some .local:=by first | exact .inl rfl | exact .inr rfl | assumption):wpAny M A (storeName X.env x u) Q E s :=
  nQ I hN hi hx r (fun s' I' _=>h s' I') hf
theorem Inv.call' {s':Shared} {ch:List Addr} (I:Inv X pins σ H s) (ho:s'.os = s.os) (u:Un (frs X.stack) ch H H' s.heap s'.heap) (hok:HOk X.prog X.w H' s'.heap) (hg:AllBare s'.gens)
    (hch:∀ b ∈ ch,(b ∈ X.ex∨X.s₀.heap.objs.size ≤ b)∧b ≠ X.env.locals∧(∀ x c,X.env.cells.lookup x = some c→c ≠ b)∧∀ p ∈ X.pn ++ pins,p.1 ≠ b):Inv X pins σ H' s':=by
  obtain ⟨h',g',d',t',o'⟩:=s'
  have e:o' = s.os:=ho
  subst e
  exact I.call (g':=g') (t':=t') (d':=d') u hok hg hch
end
abbrev XK:=Value→Option Addr→Hp→Prop
abbrev St:=List (Option V)
abbrev VK:=V→Hp→Prop
abbrev TE:=St→Hp→VK→Prop
abbrev TT:=St→Hp→(Bool→Hp→Prop)→Prop
abbrev TA:=St→Hp→(List V→Hp→Prop)→Prop
structure Ends where
  nx:St→Hp→Prop
  rt:VK
  bk:St→Hp→Prop:=fun _ _=>False
  ct:St→Hp→Prop:=fun _ _=>False
abbrev TS:=Ends→St→Hp→Prop
def EP (X:Cx) (pins:List (Addr × Obj)) (σ:St) (Q:VK) (u:Value) (s':Shared):Prop:=∃ v H',Inv X pins σ H' s'∧RelV v u∧Q v H'
def TP (X:Cx) (pins:List (Addr × Obj)) (σ:St) (Q:Bool→Hp→Prop) (b:Bool) (s':Shared):Prop:=∃ H',Inv X pins σ H' s'∧Q b H'
def AP (X:Cx) (pins:List (Addr × Obj)) (σ:St) (Q:List V→Hp→Prop) (us:List Value) (s':Shared):Prop:=∃ vs H',Inv X pins σ H' s'∧Vals vs us∧Q vs H'
def SP (X:Cx) (pins:List (Addr × Obj)) (D:Ends) (f:Flow) (s':Shared):Prop :=
  match f with
  | .next=>∃ σ' H',Inv X pins σ' H' s'∧D.nx σ' H'
  | .brk=>∃ σ' H',Inv X pins σ' H' s'∧D.bk σ' H'
  | .cont=>∃ σ' H',Inv X pins σ' H' s'∧D.ct σ' H'
  | .ret u=>∃ v σ' H',Inv X pins σ' H' s'∧RelV v u∧D.rt v H'
def PE (X:Cx) (e:Expr) (t:TE):Prop :=
  ∀ (pins:List (Addr × Obj)) (s:Shared) (σ:St) (H:Hp) (Q:VK),Inv X pins σ H s→t σ H Q→wpAny (model X.prog X.w) X.A (eval e X.env) (EP X pins σ Q) X.xe s
def PT (X:Cx) (e:Expr) (t:TT):Prop :=
  ∀ (pins:List (Addr × Obj)) (s:Shared) (σ:St) (H:Hp) (Q:Bool→Hp→Prop),Inv X pins σ H s→t σ H Q→wpAny (model X.prog X.w) X.A (isTrue e X.env (eval e X.env)) (TP X pins σ Q) X.xe s
def PW (X:Cx) (e:Expr) (t:TT):Prop :=
  ∀ (whole:Sem Value) (pins:List (Addr × Obj)) (s:Shared) (σ:St) (H:Hp) (Q:Bool→Hp→Prop),Inv X pins σ H s→t σ H Q→wpAny (model X.prog X.w) X.A (isTrue e X.env whole) (TP X pins σ Q) X.xe s
theorem PW.pt {X:Cx} {e:Expr} {t:TT} (h:PW X e t):PT X e t:=h _
def PA (X:Cx) (es:List Expr) (t:TA):Prop :=
  ∀ (pos:Pos) (pins:List (Addr × Obj)) (s:Shared) (σ:St) (H:Hp) (Q:List V→Hp→Prop),Inv X pins σ H s→t σ H Q→wpAny (model X.prog X.w) X.A (spliced (backTo pos (starEach es X.env))) (AP X pins σ Q) X.xe s
def PS (X:Cx) (st:Stmt) (t:TS):Prop :=
  ∀ (pins:List (Addr × Obj)) (s:Shared) (σ:St) (H:Hp) (D:Ends),Inv X pins σ H s→t D σ H→wpAny (model X.prog X.w) X.A (exec st X.env) (SP X pins D) X.xe s
def PSs (X:Cx) (st:List Stmt) (t:TS):Prop :=
  ∀ (pins:List (Addr × Obj)) (s:Shared) (σ:St) (H:Hp) (D:Ends),Inv X pins σ H s→t D σ H→wpAny (model X.prog X.w) X.A (execs st X.env) (SP X pins D) X.xe s
theorem thn {α:Type} {t:Sem α} {Q Q':α→Shared→Prop} {M:Model} {A:Around} {E:Value→Shared→Prop} {s:Shared} (h:wpAny M A t Q E s) (hQ:∀ a s,Q a s→Q' a s):wpAny M A t Q' E s:=wpAny_mono h hQ fun _ _ x=>x
end L2
namespace L2
open PySem PySem.Spec PyProof.Rows
section
variable {X:Cx}
def dJ (i:Nat):TE:=fun σ H Q=>∃ v,σ[i]? = some (some v)∧Q v H
def tC (v:V):TE:=fun _ H Q=>Q v H
theorem A3 {i:Nat} {x:Str} {pos:Pos} (hN:X.N[i]? = some x) (hv:Vis X.env.scope x) (hd:(x == ("__debug__":Str)) = false:=by decide) (hcd:(x == ("__classdict__":Str)) = false:=by decide):PE X (.Name x pos) (dJ i):=by
  intro pins s σ H Q I h
  obtain ⟨v,e,h⟩:=h
  obtain ⟨m,hn,hl⟩:=I.loc
  obtain ⟨u,r,l⟩:=hl i x v hN e hv
  have fin:EP X pins σ Q u s:=⟨v,H,I,r,h⟩
  rcases l with ⟨hk,hm⟩ | ⟨hk,c,hc,hcell⟩
  · exact wpAny_Name (wpAny_loadName_local I.ok.kind hk hn hm fin) hd
  · rcases hk with hk | hk
    · exact wpAny_Name (wpAny_loadName_cell I.ok.kind hk hc hcell fin) hd
    · exact wpAny_Name (wpAny_loadName_free I.ok.kind hk hc hcell fin hcd) hd
theorem ak {i j pos}:PE X (.Constant (.int i) j pos) (tC (.int i)):=fun _ _ _ H _ I h=>wpAny_Constant_int ⟨.int i,H,I.tok _,⟨_,rfl⟩,h⟩
theorem cE {b j pos}:PE X (.Constant (.bool b) j pos) (tC (.bl b)):=fun _ _ _ H _ I h=>Constant_bool ⟨.bl b,H,I,rfl,h⟩
theorem fw {j pos}:PE X (.Constant .none j pos) (tC .non):=fun _ _ _ H _ I h=>Constant_none ⟨.non,H,I,rfl,h⟩
theorem aM {x j pos}:PE X (.Constant (.str x) j pos) (tC (.str x)):=fun _ _ _ H _ I h=>Calls.Constant_str ⟨.str x,H,I.tok _,⟨_,rfl⟩,h⟩
def Gl (X:Cx) (x:Str):Prop:=X.env.kindOf x = some .globalImplicit
theorem hE {E:Value→Shared→Prop} {pins:List (Addr × Obj)} {s:Shared} {σ:St} {H:Hp} {x:Str} {u:Value} {pos:Pos} {Q:Value→Shared→Prop} (I:Inv X pins σ H s) (hg:Gl X x) (hm:X.mg x = some u) (h:Q u s)
    (hd:(x == ("__debug__":Str)) = false:=by decide):wpAny (model X.prog X.w) X.A (eval (.Name x pos) X.env) Q E s :=
  Calls.Name_function_global I.ok.kind hg (Calls.loadGlobal_global (by rw [I.ok.glob]; exact I.mod.glob.keeps I.bk) hm h) hd
theorem kg {E:Value→Shared→Prop} {pins:List (Addr × Obj)} {s:Shared} {σ:St} {H:Hp} {x:Str} {u:Value} {pos:Pos} {Q:Value→Shared→Prop} (I:Inv X pins σ H s) (hg:Gl X x) (hm:X.mg x = none) (hv:bootBuiltins x = some u) (h:Q u s)
    (hn:x ≠ "__name__":=by decide) (hd:(x == ("__debug__":Str)) = false:=by decide):wpAny (model X.prog X.w) X.A (eval (.Name x pos) X.env) Q E s:=by
  obtain ⟨mb,h1,h2⟩:=I.mod.blt
  exact Calls.Name_function_global I.ok.kind hg (Calls.loadGlobal_builtin (by rw [I.ok.glob]; exact I.mod.glob.keeps I.bk) hm (by rw [I.ok.blt]; exact h1.keeps I.bk) ((h2 x hn).trans hv) h) hd
theorem bp {x:Str} {v:V} {u:Value} {pos:Pos} (hg:Gl X x) (hm:X.mg x = some u) (r:RelV v u) (hd:(x == ("__debug__":Str)) = false:=by decide):PE X (.Name x pos) (tC v) :=
  fun _ _ _ H _ I h=>hE I hg hm ⟨v,H,I,r,h⟩ hd
theorem dj {x:Str} {v:V} {u:Value} {pos:Pos} (hg:Gl X x) (hm:X.mg x = none) (hv:bootBuiltins x = some u) (r:RelV v u) (hn:x ≠ "__name__":=by decide) (hd:(x == ("__debug__":Str)) = false:=by decide):PE X (.Name x pos) (tC v) :=
  fun _ _ _ H _ I h=>kg I hg hm hv ⟨v,H,I,r,h⟩ hn hd
variable {a b:Expr} {ta tb:TE} {pos:Pos}
variable {tA tB':TT} {rest:List Expr}
def B4 (t u:TT):TT:=fun σ H Q=>t σ H fun c H1=>if c = true then u σ H1 Q else Q false H1
def tOr (t u:TT):TT:=fun σ H Q=>t σ H fun c H1=>if c = true then Q true H1 else u σ H1 Q
def Br (t:TT):TT:=fun σ H Q=>t σ H fun c H1=>Q (!c) H1
theorem tU (ha:PT X a tA):PW X (.BoolOp .And [a] pos) tA:=by
  intro wh pins s σ H Q I h
  refine isTrue_and (thn (ha pins s σ H Q I h) fun c s1 e=>?_)
  cases c with
  | true=>exact isTrue_and_nil e
  | false=>exact e
theorem dm (ha:PT X a tA):PW X (.BoolOp .Or [a] pos) tA:=by
  intro wh pins s σ H Q I h
  refine isTrue_or (thn (ha pins s σ H Q I h) fun c s1 e=>?_)
  cases c with
  | false=>exact isTrue_or_nil e
  | true=>exact e
theorem xF (ha:PT X a tA) (hb:PW X (.BoolOp .And (b :: rest) pos) tB'):PW X (.BoolOp .And (a :: b :: rest) pos) (B4 tA tB'):=by
  intro wh pins s σ H Q I h
  refine isTrue_and (thn (ha pins s σ H _ I h) fun c s1 ⟨H1,I1,q1⟩=>?_)
  cases c with
  | true=>exact hb wh pins s1 σ H1 Q I1 q1
  | false=>exact ⟨H1,I1,q1⟩
theorem cW (ha:PT X a tA) (hb:PW X (.BoolOp .Or (b :: rest) pos) tB'):PW X (.BoolOp .Or (a :: b :: rest) pos) (tOr tA tB'):=by
  intro wh pins s σ H Q I h
  refine isTrue_or (thn (ha pins s σ H _ I h) fun c s1 ⟨H1,I1,q1⟩=>?_)
  cases c with
  | true=>exact ⟨H1,I1,q1⟩
  | false=>exact hb wh pins s1 σ H1 Q I1 q1
theorem bM (ha:PT X a tA):PT X (.UnaryOp .Not a pos) (Br tA):=by
  intro pins s σ H Q I h
  exact isTrue_not (ha pins s σ H (fun c H1=>Q (!c) H1) I h)
def yb (ta tb:TE):TE:=fun σ H Q=>ta σ H fun x H1=>∃ c,x = .bl c∧if c = true then tb σ H1 Q else Q (.bl false) H1
def B8 (ta tb:TE):TE:=fun σ H Q=>ta σ H fun x H1=>∃ c,x = .bl c∧if c = true then Q (.bl true) H1 else tb σ H1 Q
def Ag (ta:TE):TE:=fun σ H Q=>ta σ H fun x H1=>∃ c,x = .bl c∧Q (.bl (!c)) H1
theorem fQ {op} {t:TE} (h:PE X a t):PE X (.BoolOp op [a] pos) t:=fun pins s σ H Q I hw=>BoolOp_one (h pins s σ H Q I hw)
theorem fP (ha:PE X a ta) (hb:PE X (.BoolOp .And (b :: rest) pos) tb):PE X (.BoolOp .And (a :: b :: rest) pos) (yb ta tb):=by
  intro pins s σ H Q I h
  refine BoolOp_and (thn (ha pins s σ H _ I h) fun v s1 ⟨x,H1,I1,r1,q1⟩=>?_)
  obtain ⟨c,rfl,q1⟩:=q1
  cases r1
  refine wpAny_truthy_bool ?_
  cases c with
  | true=>exact hb pins s1 σ H1 Q I1 q1
  | false=>exact ⟨.bl false,H1,I1,rfl,q1⟩
theorem xr (ha:PE X a ta) (hb:PE X (.BoolOp .Or (b :: rest) pos) tb):PE X (.BoolOp .Or (a :: b :: rest) pos) (B8 ta tb):=by
  intro pins s σ H Q I h
  refine BoolOp_or (thn (ha pins s σ H _ I h) fun v s1 ⟨x,H1,I1,r1,q1⟩=>?_)
  obtain ⟨c,rfl,q1⟩:=q1
  cases r1
  refine wpAny_truthy_bool ?_
  cases c with
  | false=>exact hb pins s1 σ H1 Q I1 q1
  | true=>exact ⟨.bl true,H1,I1,rfl,q1⟩
theorem A2 (ha:PE X a ta):PE X (.UnaryOp .Not a pos) (Ag ta):=by
  intro pins s σ H Q I h
  refine UnaryOp_ (thn (ha pins s σ H _ I h) fun v s1 ⟨x,H1,I1,r1,q1⟩=>?_)
  obtain ⟨c,rfl,q1⟩:=q1
  cases r1
  exact not_of (wpAny_truthy_bool ⟨.bl (!c),H1,I1,rfl,q1⟩)
def tIf (t:TT) (ta tb:TE):TE:=fun σ H Q=>t σ H fun c H1=>if c = true then ta σ H1 Q else tb σ H1 Q
theorem iH {c:Expr} (hc:PT X c tA) (ha:PE X a ta) (hb:PE X b tb):PE X (.IfExp c a b pos) (tIf tA ta tb):=by
  intro pins s σ H Q I h
  refine wpAny_IfExp (thn (hc pins s σ H _ I h) fun d s1 ⟨H1,I1,q1⟩=>?_)
  cases d with
  | true=>exact ha pins s1 σ H1 Q I1 q1
  | false=>exact hb pins s1 σ H1 Q I1 q1
end
end L2
namespace L2
open PySem PySem.Spec PyProof.Rows
def SqL (K:PySem.W.Frag) (H:Hp) (a:Addr) (xs:List V):Prop :=
  Rd H a (.lst xs) ∨
    ∃ (o:Obj) (its:Array Value) (n:Nat),K.lookup a = some o∧o.cls = .type "list"∧o.dict = none∧o.data = .seq its n∧its.size ≤ sizeLine∧Vals xs its.toList
def SqT (K:PySem.W.Frag) (H:Hp) (a:Addr) (xs:List V):Prop :=
  Rd H a (.tup xs) ∨
    ∃ (o:Obj) (its:Array Value) (n:Nat),K.lookup a = some o∧o.cls = .type "tuple"∧o.data = .seq its n∧its.size ≤ sizeLine∧Vals xs its.toList
def Cf:Value→Option V
  | .none=>some .non
  | .bool b=>some (.bl b)
  | .int i _=>some (.int i)
  | .str x _=>some (.str x)
  | .bytes b _=>some (.byt b)
  | .float b _=>some (.flt b)
  | .ref a=>some (.ref a)
  | .type n=>some (.ty n)
  | _=>none
theorem RelV.abs {x:V} {u:Value} (r:RelV x u):Cf u = some x:=by
  cases x with
  | non=>cases r; rfl
  | bl _=>cases r; rfl
  | int _=>obtain ⟨t,rfl⟩:=r; rfl
  | str _=>obtain ⟨t,rfl⟩:=r; rfl
  | byt _=>obtain ⟨t,rfl⟩:=r; rfl
  | flt _=>obtain ⟨t,rfl⟩:=r; rfl
  | ref _=>cases r; rfl
  | ty _=>cases r; rfl
theorem RelV.inj {x y:V} {u:Value} (r:RelV x u) (q:RelV y u):x = y:=Option.some.inj (r.abs.symm.trans q.abs)
theorem Vals.inj:∀ {xs ys:List V} {us:List Value},Vals xs us→Vals ys us→xs = ys
  | _,_,_,.nil,.nil=>rfl
  | _,_,_,.cons r t,.cons r' t'=>by rw [r.inj r',Vals.inj t t']
section
variable {X:Cx} {pins:List (Addr × Obj)} {σ:St} {H:Hp} {s:Shared} {a:Addr} {xs ys:List V}
theorem SqL.of {K:PySem.W.Frag} (h:H a = some (.lst xs)):SqL K H a xs:=.inl (.inl h)
theorem SqT.of {K:PySem.W.Frag} (h:H a = some (.tup xs)):SqT K H a xs:=.inl (.inl h)
theorem Inv.list (I:Inv X pins σ H s) (h:SqL X.K H a xs):∃ its:List Value,Vals xs its∧PlainL s.heap a its.toArray∧xs.length ≤ sizeLine:=by
  rcases h with h | ⟨o,its,n,hk,hc,hd,hs,hz,r⟩
  · obtain ⟨z,its,n,r,e⟩:=h.ok I.hok
    exact ⟨its,r,⟨_,n,e,rfl,rfl,rfl⟩,z⟩
  · refine ⟨its.toList,r,⟨o,n,I.kIn a o hk,hc,hd,by simpa using hs⟩,?_⟩
    have e:=r.length
    simp only [Array.length_toList] at e
    omega
theorem Inv.tuple (I:Inv X pins σ H s) (h:SqT X.K H a xs):∃ its:List Value,Vals xs its∧IsTup s.heap a its.toArray∧xs.length ≤ sizeLine:=by
  rcases h with h | ⟨o,its,n,hk,hc,hs,hz,r⟩
  · obtain ⟨z,its,r,p⟩:=h.ok I.hok
    exact ⟨its,r,p,z⟩
  · refine ⟨its.toList,r,⟨o,I.kIn a o hk,hc,n,by simpa using hs⟩,?_⟩
    have e:=r.length
    simp only [Array.length_toList] at e
    omega
theorem Inv.list_inj (I:Inv X pins σ H s) (h:SqL X.K H a xs) (h':SqL X.K H a ys):xs = ys:=by
  obtain ⟨its,r,⟨o,n,e,_,_,d⟩,_⟩:=I.list h
  obtain ⟨its',r',⟨o',n',e',_,_,d'⟩,_⟩:=I.list h'
  rw [e] at e'; cases e'
  rw [d] at d'
  injection d' with d1 _
  have:its = its':=by simpa using congrArg Array.toList d1
  subst this
  exact r.inj r'
theorem Inv.tuple_inj (I:Inv X pins σ H s) (h:SqT X.K H a xs) (h':SqT X.K H a ys):xs = ys:=by
  obtain ⟨its,r,⟨o,e,_,n,d⟩,_⟩:=I.tuple h
  obtain ⟨its',r',⟨o',e',_,n',d'⟩,_⟩:=I.tuple h'
  rw [e] at e'; cases e'
  rw [d] at d'
  injection d' with d1 _
  have:its = its':=by simpa using congrArg Array.toList d1
  subst this
  exact r.inj r'
end
abbrev Cx.wish (X:Cx) (E:Value→Shared→Prop):Cx:={ X with xe:=E }
abbrev Cx.nox (X:Cx):Cx:=X.wish fun _ _=>False
theorem Cx.Ok.wish {X:Cx} (ok:X.Ok) (E:Value→Shared→Prop):(X.wish E).Ok :=
  ⟨ok.mod,ok.kind,ok.glob,ok.blt,ok.above,ok.inj,ok.has,ok.cab,ok.hd,ok.frames,ok.stk,ok.exf,ok.bs,ok.bsz,ok.noex,ok.exfs,ok.funs,ok.frf⟩
theorem Cx.Ok.unwish {X:Cx} {E:Value→Shared→Prop} (ok:(X.wish E).Ok):X.Ok :=
  ⟨ok.mod,ok.kind,ok.glob,ok.blt,ok.above,ok.inj,ok.has,ok.cab,ok.hd,ok.frames,ok.stk,ok.exf,ok.bs,ok.bsz,ok.noex,ok.exfs,ok.funs,ok.frf⟩
section
variable {X:Cx} {pins:List (Addr × Obj)} {σ:St} {H:Hp} {s:Shared} {E:Value→Shared→Prop}
theorem Inv.wish (I:Inv X pins σ H s) (E:Value→Shared→Prop):Inv (X.wish E) pins σ H s:=⟨I.ok.wish E,I.os,I.bare,I.base,I.loc,I.cell,I.free,I.freeC,I.pin,I.hok,I.len⟩
theorem Inv.unwish (I:Inv (X.wish E) pins σ H s):Inv X pins σ H s:=⟨I.ok.unwish,I.os,I.bare,I.base,I.loc,I.cell,I.free,I.freeC,I.pin,I.hok,I.len⟩
theorem SP.unwish {D:Ends} {f:Flow} {s':Shared} (h:SP (X.wish E) pins D f s'):SP X pins D f s':=by
  cases f with
  | next=>obtain ⟨σ',H',I,q⟩:=h; exact ⟨σ',H',I.unwish,q⟩
  | brk=>obtain ⟨σ',H',I,q⟩:=h; exact ⟨σ',H',I.unwish,q⟩
  | cont=>obtain ⟨σ',H',I,q⟩:=h; exact ⟨σ',H',I.unwish,q⟩
  | ret u=>obtain ⟨v,σ',H',I,r,q⟩:=h; exact ⟨v,σ',H',I.unwish,r,q⟩
theorem PSs.nox {st:List Stmt} {t:TS} (h:PSs X.nox st t):PSs X st t:=fun pins s σ H D I hw =>
  wpAny_mono (h pins s σ H D (I.wish _) hw) (fun _ _ q=>q.unwish) fun _ _ z=>False.elim z
end
section
variable {X:Cx} {st:Stmt} {rest:List Stmt} {t u:TS} {e:Expr} {te:TE} {pos:Pos}
def ue:TS:=fun D σ H=>D.nx σ H
def jT (t u:TS):TS:=fun D σ H=>t { D with nx:=u D } σ H
theorem aS:PSs X [] ue:=fun _ _ σ H _ I h=>wpAny_execs_nil ⟨σ,H,I,h⟩
theorem aq (h1:PS X st t) (h2:PSs X rest u):PSs X (st :: rest) (jT t u):=by
  intro pins s σ H D I h
  refine wpAny_execs_cons (thn (h1 pins s σ H { D with nx:=u D } I h) fun f s1 q=>?_)
  cases f with
  | next =>
    obtain ⟨σ',H',I',q⟩:=q
    exact h2 pins s1 σ' H' D I' q
  | ret v=>exact q
  | brk=>exact q
  | cont=>exact q
theorem ay (h1:PS X st t):PSs X [st] t:=by
  intro pins s σ H D I h
  refine wpAny_execs_cons (thn (h1 pins s σ H D I h) fun f s1 q=>?_)
  cases f with
  | next=>exact wpAny_execs_nil q
  | ret v=>exact q
  | brk=>exact q
  | cont=>exact q
theorem Inv.quiet {pins:List (Addr × Obj)} {σ:St} {H:Hp} {s:Shared} (I:Inv X pins σ H s):interactive X.env = false:=by simp [interactive,I.ok.kind]
def nS (te:TE):TS:=fun D σ H=>te σ H fun _ H1=>D.nx σ H1
theorem bF (he:PE X e te) (hs:swapsWith e none pos.line X.env = pure false:=by rfl):PS X (.Expr e pos) (nS te):=by
  intro pins s σ H D I h
  exact wpAny_Expr_any (thn (he pins s σ H _ I h) fun v s1 ⟨x,H1,I1,r1,q1⟩=>⟨σ,H1,I1,q1⟩) I.quiet hs
def Bs (te:TE):TS:=fun D σ H=>te σ H D.rt
theorem aL (he:PE X e te):PS X (.Return (some e) pos) (Bs te):=by
  intro pins s σ H D I h
  exact wpAny_Return_some (thn (he pins s σ H _ I h) fun v s1 ⟨x,H1,I1,r1,q1⟩=>⟨x,σ,H1,I1,r1,q1⟩)
def zJ (c:TT) (t u:TS):TS:=fun D σ H=>c σ H fun b H1=>if b = true then t D σ H1 else u D σ H1
theorem bu {c:Expr} {a b:List Stmt} {tc:TT} (hc:PT X c tc) (ha:PSs X a t) (hb:PSs X b u):PS X (.If c a b pos) (zJ tc t u):=by
  intro pins s σ H D I h
  refine wpAny_If (thn (hc pins s σ H _ I h) fun d s1 ⟨H1,I1,q1⟩=>?_)
  cases d with
  | true=>exact ha pins s1 σ H1 D I1 q1
  | false=>exact hb pins s1 σ H1 D I1 q1
def Bq:TS:=fun _ _ _=>False
theorem jM:PS X st Bq:=fun _ _ _ _ _ _ h=>h.elim
end
abbrev TG:=V→St→Hp→(St→Hp→Prop)→Prop
abbrev TGs:=List V→St→Hp→(St→Hp→Prop)→Prop
def PG (X:Cx) (target:Expr) (t:TG):Prop :=
  ∀ (pins:List (Addr × Obj)) (s:Shared) (σ:St) (H:Hp) (v:V) (u:Value) (Q:St→Hp→Prop),Inv X pins σ H s→RelV v u→t v σ H Q →
    wpAny (model X.prog X.w) X.A (assign target X.env u) (fun _ s'=>∃ σ' H',Inv X pins σ' H' s'∧Q σ' H') X.xe s
def PGs (X:Cx) (ts:List Expr) (t:TGs):Prop :=
  ∀ (pins:List (Addr × Obj)) (s:Shared) (σ:St) (H:Hp) (vs:List V) (us:List Value) (Q:St→Hp→Prop),Inv X pins σ H s→Vals vs us→t vs σ H Q →
    wpAny (model X.prog X.w) X.A (assignInOrder ((assignEach ts X.env).map (·.2)) us) (fun _ s'=>∃ σ' H',Inv X pins σ' H' s'∧Q σ' H') X.xe s
abbrev vI:=V→V→V→Hp→(Hp→Prop)→Prop
def Ak (X:Cx) (t:vI):Prop :=
  ∀ (pins:List (Addr × Obj)) (s:Shared) (σ:St) (H:Hp) (o i v:V) (ov iv u:Value) (Q:Hp→Prop),Inv X pins σ H s→RelV o ov→RelV i iv→RelV v u→t o i v H Q →
    wpAny (model X.prog X.w) X.A (setItem ov iv u) (fun _ s'=>∃ H',Inv X pins σ H' s'∧Q H') X.xe s
abbrev TIp:=V→V→Hp→VK→Prop
def PIp (X:Cx) (op:Operator) (t:TIp):Prop :=
  ∀ (pins:List (Addr × Obj)) (s:Shared) (σ:St) (H:Hp) (x y:V) (v u:Value) (Q:VK),Inv X pins σ H s→RelV x v→RelV y u→t x y H Q →
    wpAny (model X.prog X.w) X.A (inplaceOp op v u) (EP X pins σ Q) X.xe s
section
variable {X:Cx} {pos:Pos}
def bX (i:Nat):TG:=fun v σ H Q=>Q (σ.set i (some v)) H
theorem aW {i:Nat} {x:Str} (hN:X.N.Nodup) (hi:X.N[i]? = some x) (hx:Loc X.env.scope x) (hf:X.fn x = true∨X.env.scope.names.lookup x = some .local:=by first | exact .inl rfl | exact .inr rfl | assumption):PG X (.Name x pos) (bX i):=by
  intro pins s σ H v u Q I r h
  exact wpAny_assign_Name (gN I hN hi hx r (fun s' I'=>⟨_,H,I',h⟩) hf)
def rP:TGs:=fun vs σ H Q=>vs = []∧Q σ H
def fY (t:TG) (u:TGs):TGs:=fun vs σ H Q=>∃ v r,vs = v :: r∧t v σ H fun σ' H'=>u r σ' H' Q
theorem cG:PGs X [] rP:=by
  intro pins s σ H vs us Q I r h
  obtain ⟨e,h⟩:=h
  subst e
  cases r
  exact assignInOrder_nil ⟨σ,H,I,h⟩
theorem bg {e:Expr} {es:List Expr} {t:TG} {u:TGs} (h1:PG X e t) (h2:PGs X es u)
    (hs:(assignEach (e :: es) X.env).map (·.2) = assign e X.env :: (assignEach es X.env).map (·.2):=by rfl):PGs X (e :: es) (fY t u):=by
  intro pins s σ H vs us Q I r h
  obtain ⟨v,vr,e1,h⟩:=h
  subst e1
  cases r with
  | cons r rr =>
    rw [hs]
    refine assignInOrder_cons (thn (h1 pins s σ H _ _ _ I r h) fun _ s1 ⟨σ1,H1,I1,q1⟩=>?_)
    exact h2 pins s1 σ1 H1 _ _ Q I1 rr q1
def qo (K:PySem.W.Frag) (n:Nat) (t:TGs):TG:=fun v σ H Q=>∃ a xs,v = .ref a∧SqT K H a xs∧xs.length = n∧t xs σ H Q
theorem eQ {es:List Expr} {k:Nat} {t:TGs} {n:Nat} (hc:X.calm = true) (h:PGs X es t)
    (hn:(assignEach es X.env).length = n:=by rfl) (hst:(assignEach es X.env).findIdx? (·.1) = none:=by rfl):PG X (.Tuple es k pos) (qo X.K n t):=by
  intro pins s σ H v u Q I r hw
  obtain ⟨a,xs,e1,hq,hl,hw⟩:=hw
  subst e1
  cases r
  obtain ⟨its,rv,ht,hz⟩:=I.tuple hq
  refine assign_Tuple_tuple (I.ok.hd hc) ht (by simp [hn,← hl,rv.length]) hst fun h' hx=>?_
  have I1:Inv X pins σ H { s with heap:=h' }:=I.kept (t':=s.toks) fun b o e=>hx b o (Nat.ne_of_lt (Heap.lt_size e)) e
  exact h pins _ σ H xs _ Q I1 (by simpa using rv) hw
def Cm (to ti:TE) (t:vI):TG:=fun v σ H Q=>to σ H fun o H1=>ti σ H1 fun i H2=>t o i v H2 fun H3=>Q σ H3
theorem xw {o i:Expr} {to ti:TE} {t:vI} (ho:PE X o to) (hi:PE X i ti) (hs:Ak X t)
    (ha:∀ v,assign (.Subscript o i pos) X.env v = (do
      let ov ← holding [v] (eval o X.env)
      let iv ← holding [v,ov] (eval i X.env)
      standAt pos
      holding [v,ov,iv] (setItem ov iv v)
      release [v,ov,iv] []):=by intro _; rfl):PG X (.Subscript o i pos) (Cm to ti t):=by
  intro pins s σ H v u Q I r h
  rw [ha]
  refine wpAny_bind (wpAny_holding (thn (ho pins s σ H _ I h) fun ov s1 ⟨x,H1,I1,r1,q1⟩=>?_))
  refine wpAny_bind (wpAny_holding (thn (hi pins s1 σ H1 _ I1 q1) fun iv s2 ⟨y,H2,I2,r2,q2⟩=>?_))
  refine wpAny_bind (wpAny_standAt (wpAny_bind (wpAny_holding (thn (hs pins s2 σ H2 x y v ov iv u _ I2 r1 r2 r q2) fun _ s3 ⟨H3,I3,q3⟩=>?_))))
  exact wpAny_release ⟨σ,H3,I3,q3⟩
def pJ (te:TE) (g:TG):TS:=fun D σ H=>te σ H fun x H1=>g x σ H1 D.nx
theorem eR {tg e:Expr} {te:TE} {g:TG} (he:PE X e te) (hg:PG X tg g) (hs:swapsWithSole [tg] e pos.line X.env = pure false:=by rfl) (hw:swappedStores [tg] e X.env = pure none:=by rfl)
    (h1:(assignEach [tg] X.env).map (·.2) = [assign tg X.env]:=by rfl):PS X (.Assign [tg] e pos) (pJ te g):=by
  intro pins s σ H D I h
  refine wpAny_Assign_stores (thn (he pins s σ H _ I h) fun v s1 ⟨x,H1,I1,r1,q1⟩=>?_) hs hw
  rw [h1]
  exact thn (hg pins s1 σ H1 x v _ I1 r1 q1) fun _ s2 q=>q
theorem bC {i:Nat} {x:Str} {e:Expr} {te:TE} {pos':Pos} (hN:X.N.Nodup) (hi:X.N[i]? = some x) (hx:Loc X.env.scope x) (he:PE X e te) (hs:swapsWith e (some (.Name x pos')) pos.line X.env = pure false:=by rfl) (hf:X.fn x = true∨X.env.scope.names.lookup x = some .local:=by first | exact .inl rfl | exact .inr rfl | assumption) :
    PS X (.Assign [.Name x pos'] e pos) (pJ te (bX i)):=by
  intro pins s σ H D I h
  refine wpAny_Assign_Name (thn (he pins s σ H _ I h) fun v s1 ⟨y,H1,I1,r1,q1⟩=>?_) hs
  exact gN I1 hN hi hx r1 (fun s2 I2=>⟨_,H1,I2,q1⟩) hf
def CI (i j:Nat) (ta:TA):TS:=fun D σ H=>ta σ H fun vs H1=>∃ v w,vs = [v,w]∧D.nx ((σ.set i (some v)).set j (some w)) H1
theorem xC {i j:Nat} {x y:Str} {a b:Expr} {ta:TA} {px py pt:Pos} {kt k2 pt2} (hc:X.calm = true) (hN:X.N.Nodup) (hi:X.N[i]? = some x) (hj:X.N[j]? = some y) (hij:i ≠ j)
    (hx:X.env.scope.names.lookup x = some .local) (hy:X.env.scope.names.lookup y = some .local) (ha:PA X [a,b] ta)
    (hw:swappedStores [.Tuple [.Name x px,.Name y py] kt pt] (.Tuple [a,b] k2 pt2) X.env = pure (some [x,y]))
    (hs:swapsWithSole [.Tuple [.Name x px,.Name y py] kt pt] (.Tuple [a,b] k2 pt2) pos.line X.env = pure false:=by rfl) :
    PS X (.Assign [.Tuple [.Name x px,.Name y py] kt pt] (.Tuple [a,b] k2 pt2) pos) (CI i j ta):=by
  intro pins s σ H D I h
  rw [exec_Assign_arm]
  refine wpAny_bind (wpAny_standAt ?_)
  rw [hs]
  refine wpAny_bind (wpAny_pure ?_)
  rw [if_neg (by decide)]
  refine wpAny_bind (Tuple_ (thn (ha _ pins s σ H _ I h) fun us s1 ⟨vs,H1,I1,r1,q1⟩=>?_))
  obtain ⟨v,w,e1,q1⟩:=q1
  subst e1
  obtain ⟨u1,u2,rfl,rv,rw'⟩:∃ u1 u2,us = [u1,u2]∧RelV v u1∧RelV w u2:=by
    cases r1 with
    | cons p q =>
      cases q with
      | cons p' q' =>
        cases q'
        exact ⟨_,_,rfl,p,p'⟩
  refine wpAny_newObj_type ?_ (by show 2 ≤ sizeLine; decide)
  have I2:Inv X pins σ H1 { s1 with heap:=s1.heap.push { cls:=.type "tuple",data:=.seq [u1,u2].toArray } }:=I1.kept (t':=s1.toks) fun b o e=>Heap.get?_push_of_some _ e
  rw [hw]
  refine wpAny_bind (wpAny_pure ?_)
  show wpAny (model X.prog X.w) X.A (do rule "assign.swapped-stores"; let items ← unpackItems (.ref s1.heap.objs.size) 2 none; assignInOrder [fun v=>bindName X.env y v,fun v=>bindName X.env x v] items.reverse; pure Flow.next) _ _ _
  refine wpAny_bind (wpAny_rule (wpAny_bind (unpackItems_tuple (items:=#[u1,u2]) (I.ok.hd hc) (IsTup.new s1.heap _) fun h' hx'=>?_)))
  have I3:=I2.kept (h':=h') (t':=s1.toks) fun b o e=>hx' b o (Nat.ne_of_lt (Heap.lt_size e)) e
  show wpAny _ _ (assignInOrder [fun v=>bindName X.env y v,fun v=>bindName X.env x v] [u2,u1] >>= fun _=>pure Flow.next) _ _ _
  refine wpAny_bind (assignInOrder_cons (wpAny_bindName (gN I3 hN hj (.inl hy) rw' (fun s2 I4=>?_) (.inr hy))))
  refine assignInOrder_cons (wpAny_bindName (gN I4 hN hi (.inl hx) rv (fun s3 I5=>assignInOrder_nil (wpAny_pure ?_)) (.inr hx)))
  rw [List.set_comm _ _ (Ne.symm hij)] at I5
  exact ⟨_,H1,I5,q1⟩
def CG (i:Nat) (te:TE) (ti:TIp):TS:=fun D σ H=>∃ x,σ[i]? = some (some x)∧te σ H fun y H1=>ti x y H1 fun z H2=>D.nx (σ.set i (some z)) H2
theorem xB {i:Nat} {x:Str} {e:Expr} {te:TE} {op:Operator} {ti:TIp} {pos':Pos} (hN:X.N.Nodup) (hi:X.N[i]? = some x) (hx:Loc X.env.scope x) (he:PE X e te) (ho:PIp X op ti) (hf:X.fn x = true∨X.env.scope.names.lookup x = some .local:=by first | exact .inl rfl | exact .inr rfl | assumption) :
    PS X (.AugAssign (.Name x pos') op e pos) (CG i te ti):=by
  intro pins s σ H D I h
  obtain ⟨v,e1,h⟩:=h
  obtain ⟨m,hn,hl⟩:=I.loc
  have vis:Vis X.env.scope x:=by rcases hx with k | k; exact .inl k; exact .inr (.inl k)
  obtain ⟨u,r,l⟩:=hl i x v hi e1 vis
  refine wpAny_AugAssign_Name ?_
  have go:wpAny (model X.prog X.w) X.A (eval e X.env) (fun w s₂=>wpAny (model X.prog X.w) X.A (inplaceOp op u w) (fun r s₃=>wpAny (model X.prog X.w) X.A (storeName X.env x r) (fun _=>SP X pins D .next) X.xe s₃) X.xe s₂) X.xe s:=by
    refine thn (he pins s σ H _ I h) fun w s1 ⟨y,H1,I1,r1,q1⟩=>?_
    refine thn (ho pins s1 σ H1 v y u w _ I1 r r1 q1) fun z s2 ⟨zv,H2,I2,r2,q2⟩=>?_
    exact gN I2 hN hi hx r2 (fun s3 I3=>⟨_,H2,I3,q2⟩) hf
  rcases l with ⟨hk,hm⟩ | ⟨hk,c,hc,hcell⟩
  · exact wpAny_loadName_local I.ok.kind hk hn hm go
  · rcases hk with hk | hk
    · exact wpAny_loadName_cell I.ok.kind hk hc hcell go
    · rcases hx with k | k
      · have:X.env.scope.names.lookup x = some .free:=hk
        rw [k] at this; cases this
      · have:X.env.scope.names.lookup x = some .free:=hk
        rw [k] at this; cases this
def B5 (to ti te:TE) (tget:V→V→Hp→VK→Prop) (tip:TIp) (tset:vI):TS:=fun D σ H=>to σ H fun o H1=>ti σ H1 fun i H2=>tget o i H2 fun x H3=>te σ H3 fun y H4=>tip x y H4 fun z H5=>tset o i z H5 fun H6=>D.nx σ H6
def Bz (X:Cx) (t:V→V→Hp→VK→Prop):Prop :=
  ∀ (pins:List (Addr × Obj)) (s:Shared) (σ:St) (H:Hp) (o i:V) (ov iv:Value) (Q:VK),Inv X pins σ H s→RelV o ov→RelV i iv→t o i H Q →
    wpAny (model X.prog X.w) X.A (getItem ov iv) (EP X pins σ Q) X.xe s
theorem tT {o i e:Expr} {to ti te:TE} {tget:V→V→Hp→VK→Prop} {tip:TIp} {tset:vI} {op:Operator} {tpos:Pos} (ho:PE X o to) (hi:PE X i ti) (hg:Bz X tget) (he:PE X e te) (hp:PIp X op tip) (hs:Ak X tset)
    (ha:∀ ov iv new,augStore i ov iv new = (do holding [new,ov,iv] (setItem ov iv new); release [new,ov,iv] []; pure .next):=by intros; rfl):PS X (.AugAssign (.Subscript o i tpos) op e pos) (B5 to ti te tget tip tset):=by
  intro pins s σ H D I h
  refine wpAny_AugAssign_SubscriptAny (thn (ho pins s σ H _ I h) fun ov s1 ⟨x1,H1,I1,r1,q1⟩=>?_) ha
  refine thn (hi pins s1 σ H1 _ I1 q1) fun iv s2 ⟨x2,H2,I2,r2,q2⟩=>?_
  refine thn (hg pins s2 σ H2 x1 x2 ov iv _ I2 r1 r2 q2) fun old s3 ⟨x3,H3,I3,r3,q3⟩=>?_
  refine thn (he pins s3 σ H3 _ I3 q3) fun v s4 ⟨x4,H4,I4,r4,q4⟩=>?_
  refine thn (hp pins s4 σ H4 x3 x4 old v _ I4 r3 r4 q4) fun new s5 ⟨x5,H5,I5,r5,q5⟩=>?_
  exact thn (hs pins s5 σ H5 x1 x2 x5 ov iv new _ I5 r1 r2 r5 q5) fun _ s6 ⟨H6,I6,q6⟩=>⟨σ,H6,I6,q6⟩
def ipI (f:Int→Int→Int):TIp:=fun x y H Q=>∃ i j,x = .int i∧y = .int j∧Q (.int (f i j)) H
theorem rR:PIp X .Add (ipI fun i j=>i + j):=by
  intro pins s σ H x y v u Q I r1 r2 h
  obtain ⟨i,j,e1,e2,q⟩:=h
  subst e1; subst e2
  obtain ⟨t,rfl⟩:=r1
  obtain ⟨t',rfl⟩:=r2
  exact iadd_int ⟨.int _,H,I.tok _,⟨_,rfl⟩,q⟩
theorem AO:PIp X .Sub (ipI fun i j=>i - j):=by
  intro pins s σ H x y v u Q I r1 r2 h
  obtain ⟨i,j,e1,e2,q⟩:=h
  subst e1; subst e2
  obtain ⟨t,rfl⟩:=r1
  obtain ⟨t',rfl⟩:=r2
  exact isub_int ⟨.int _,H,I.tok _,⟨_,rfl⟩,q⟩
end
section
variable {X:Cx} {pos:Pos}
def yd (c:TT) (tb:TS):TS:=fun D σ H=>∃ W:Nat→St→Hp→Prop,(∃ m,W m σ H)∧∀ m σ H,W m σ H →
  c σ H fun b H1=>if b = true then ∃ N:St→Hp→Prop,(∀ σ' H',N σ' H'→∃ m',m' < m∧W m' σ' H')∧tb { D with nx:=N,ct:=N,bk:=D.nx } σ H1 else D.nx σ H1
theorem qU {c:Expr} {body:List Stmt} {tc:TT} {tb:TS} (hp:PassesOwn (model X.prog X.w) X.A X.env X.xe) (hc:PT X c tc) (hb:PSs X body tb):PS X (.While c body [] pos) (yd tc tb):=by
  intro pins s σ H D I h
  obtain ⟨W,⟨m0,w0⟩,turn⟩:=h
  refine wpAny_While (codeAny_whileLoop (fun n s'=>∃ σ' H',Inv X pins σ' H' s'∧W n σ' H') ?_ m0 ⟨σ,H,I,w0⟩)
  rintro n s1 ⟨σ1,H1,I1,w1⟩
  refine wpAny_passesOwn hp (thn (hc pins s1 σ1 H1 _ I1 (turn n σ1 H1 w1)) fun b s2 ⟨H2,I2,q2⟩=>?_)
  cases b with
  | true =>
    obtain ⟨N,hN,q2⟩:=q2
    rw [if_pos rfl]
    refine wpAny_passesOwn hp (thn (hb pins s2 σ1 H2 _ I2 q2) fun f s3 q3=>?_)
    cases f with
    | next =>
      obtain ⟨σ3,H3,I3,n3⟩:=q3
      obtain ⟨m',hm,w3⟩:=hN σ3 H3 n3
      exact ⟨m',hm,σ3,H3,I3,w3⟩
    | cont =>
      obtain ⟨σ3,H3,I3,n3⟩:=q3
      obtain ⟨m',hm,w3⟩:=hN σ3 H3 n3
      exact ⟨m',hm,σ3,H3,I3,w3⟩
    | brk=>exact q3
    | ret v=>exact q3
  | false =>
    rw [if_neg Bool.false_ne_true]
    exact wpAny_execs_nil ⟨σ1,H2,I2,q2⟩
end
structure It where
  go:Nat→Hp→Prop
  yld:Nat→Hp→V→Hp→Prop
  stop:Nat→Hp→Prop
def mM (X:Cx) (pins:List (Addr × Obj)) (H:Hp) (b:Addr):Prop :=
  H b = none∧b ≠ X.env.locals∧b ∉ X.fs∧(b ∈ X.ex∨X.s₀.heap.objs.size ≤ b)∧(∀ x c,X.env.cells.lookup x = some c→c ≠ b)∧∀ p ∈ X.pn ++ pins,p.1 ≠ b
theorem Inv.fpOk {X:Cx} {pins:List (Addr × Obj)} {σ:St} {H H':Hp} {s:Shared} {b:Addr} (I:Inv X pins σ H s) (hb:s.heap.objs.size ≤ b) (hn:H' b = none):mM X pins H' b:=by
  refine ⟨hn,Nat.ne_of_gt (Nat.lt_of_lt_of_le I.lt hb),I.nofs hb,.inr (Nat.le_trans I.sz hb),fun x c e z=>?_,fun p hp z=>?_⟩
  · obtain ⟨v,q⟩:=I.cell x c e
    exact absurd (Nat.lt_of_lt_of_le q.lt (by rw [z]; exact hb)) (Nat.lt_irrefl _)
  · exact absurd (Nat.lt_of_lt_of_le (Heap.lt_size (I.pin p hp).1) (by rw [z]; exact hb)) (Nat.lt_irrefl _)
structure mO (P:Program) (w:World) (K:PySem.W.Frag) (tg:Expr) (J:It) (fp:List Addr) (it:Addr) (tn:Nat→Heap→Prop):Prop where
  mem:it ∈ fp
  obj:∀ i h,tn i h→∀ b ∈ fp,∃ o,h.get? b = some o∧∀ v,o.data ≠ .cell v
  keep:∀ i h h',tn i h→(∀ b ∈ fp,∀ o,h.get? b = some o→h'.get? b = some o)→tn i h'
  item:∀ (X:Cx),X.prog = P→X.w = w→X.K = K→X.calm = true→∀ (i:Nat) (pins:List (Addr × Obj)) (s:Shared) (σ:St) (H:Hp) (E:Value→Shared→Prop),Inv X pins σ H s→(∀ b ∈ fp,mM X pins H b)→tn i s.heap→J.go i H →
    wpAny (model P w) X.A (pyNext (.ref it)) (fun r s1=>∃ u,r = some u ∧
      wpAny (model P w) X.A (letOwnedTupleGo tg (.ref it) u) (fun _ s2=>∃ x H',Inv X pins σ H' s2∧RelV x u∧J.yld i H x H'∧tn (i + 1) s2.heap∧∀ b ∈ fp,H' b = none) E s1) E s
  done:∀ (X:Cx),X.prog = P→X.w = w→X.K = K→X.calm = true→∀ (i:Nat) (pins:List (Addr × Obj)) (s:Shared) (σ:St) (H:Hp) (E:Value→Shared→Prop),Inv X pins σ H s→(∀ b ∈ fp,mM X pins H b)→tn i s.heap→J.stop i H →
    wpAny (model P w) X.A (pyNext (.ref it)) (fun r s1=>r = none∧Inv X pins σ H s1) E s
  self:∀ (A:Around) (i:Nat) (s:Shared) (Q:Value→Shared→Prop) (E:Value→Shared→Prop),tn i s.heap→Q (.ref it) s→wpAny (model P w) A (pyIter (.ref it)) Q E s
abbrev TI:=St→Hp→(It→Hp→Prop)→Prop
def PIE (X:Cx) (pins:List (Addr × Obj)) (σ:St) (tg:Expr) (R:It→Hp→Prop) (itv:Value) (s2:Shared):Prop :=
  ∃ (it:Addr) (fp:List Addr) (tn:Nat→Heap→Prop) (J:It) (H':Hp),itv = .ref it∧Inv X pins σ H' s2∧mO X.prog X.w X.K tg J fp it tn∧tn 0 s2.heap∧(∀ b ∈ fp,mM X pins H' b)∧R J H'
def PI (X:Cx) (tg iter:Expr) (wi:TI):Prop :=
  ∀ (pins:List (Addr × Obj)) (s:Shared) (σ:St) (H:Hp) (R:It→Hp→Prop),Inv X pins σ H s→wi σ H R →
    wpAny (model X.prog X.w) X.A (eval iter X.env) (fun v s1=>wpAny (model X.prog X.w) X.A (pyIter v) (PIE X pins σ tg R) X.xe s1) X.xe s
theorem tF {M:Model} {A:Around} {E:Value→Shared→Prop} {s:Shared} {tg:Expr} {it:Addr} {u:Value} {o:Obj} {n:String} {vs:Array Value} {Q:Unit→Shared→Prop} (ho:s.heap.get? it = some o) (hc:o.cls = .type n) (hd:o.data = .fields vs)
    (hn:["enumerate","zip","dict_itemiterator","dict_reverseitemiterator","odict_iterator","itertools.zip_longest","itertools.pairwise"].contains n = false) (hQ:Q () s):wpAny M A (letOwnedTupleGo tg (.ref it) u) Q E s:=by
  unfold letOwnedTupleGo
  cases tg <;> first
    | exact wpAny_pure hQ
    | (cases u <;> first
        | exact wpAny_pure hQ
        | (refine wpAny_bind (wpAny_load ho ?_)
           rw [hc,hd]
           show wpAny M A (if (["enumerate","zip","dict_itemiterator","dict_reverseitemiterator","odict_iterator","itertools.zip_longest","itertools.pairwise"].contains n && vs[0]? == some (rawInt _)) = true then _ else _) Q E s
           rw [if_neg (by intro h; rw [hn,Bool.false_and] at h; cases h)]
           exact wpAny_pure hQ))
def Itl (K:PySem.W.Frag) (a:Addr):It :=
  ⟨fun i H=>∃ xs x,SqL K H a xs∧xs[i]? = some x,fun i H x H'=>H' = H∧∀ xs,SqL K H a xs→xs[i]? = some x,fun i H=>∃ xs,SqL K H a xs∧xs.length ≤ i⟩
def Itt (K:PySem.W.Frag) (a:Addr):It :=
  ⟨fun i H=>∃ xs x,SqT K H a xs∧xs[i]? = some x,fun i H x H'=>H' = H∧∀ xs,SqT K H a xs→xs[i]? = some x,fun i H=>∃ xs,SqT K H a xs∧xs.length ≤ i⟩
def Itr (lo:Int) (n:Nat):It:=⟨fun i _=>i < n,fun i H x H'=>H' = H∧x = .int (lo + i),fun i _=>n ≤ i⟩
theorem vj {P:Program} {w:World} {K:PySem.W.Frag} {tg:Expr} (a it:Addr):mO P w K tg (Itl K a) [it] it (fun i h=>h.IsListIter it a i) where
  mem:=by simp
  obj:=fun i h st b hb=>by
    have e:b = it:=by simpa using hb
    subst e
    obtain ⟨o,e,c,d⟩:=st
    exact ⟨o,e,fun v z=>by rw [d] at z; cases z⟩
  keep:=fun i h h' st k=>st.at fun o e=>k it (by simp) o e
  item:=by
    intro X hP hw hK hc i pins s σ H E I hf st hg
    subst hP hw hK
    obtain ⟨xs,x,hq,hx⟩:=hg
    obtain ⟨its,rv,p,hz⟩:=I.list hq
    obtain ⟨u,hu,ru⟩:=rv.get hx
    obtain ⟨f0,f1,f2,f3,f4,f5⟩:=hf it (by simp)
    refine wpAny_pyNext_list_item st p.isList (x:=u) (by simpa using hu) fun h' st' sb=>?_
    have I1:Inv X pins σ H { s with heap:=h' }:=I.turned (t':=s.toks) (fun b o hb e=>(sb.2 b hb).trans e) f0 f1 f3 f4 f5
    obtain ⟨o,e,c,d⟩:=id st'
    exact ⟨u,rfl,tF (s:={ s with heap:=h' }) e c d (by decide) ⟨x,H,I1,ru,⟨rfl,fun ys hy=>by rw [I.list_inj hy hq]; exact hx⟩,st',fun b hb=>(hf b hb).1⟩⟩
  done:=by
    intro X hP hw hK hc i pins s σ H E I hf st hg
    subst hP hw hK
    obtain ⟨xs,hq,hx⟩:=hg
    obtain ⟨its,rv,p,hz⟩:=I.list hq
    obtain ⟨f0,f1,f2,f3,f4,f5⟩:=hf it (by simp)
    have hl:=rv.length
    exact wpAny_pyNext_list_end (I.ok.hd hc) st p.isList (by simp; omega) fun h' eb=>⟨rfl,I.turned (t':=s.toks) (fun b o hb e=>eb b o hb e) f0 f1 f3 f4 f5⟩
  self:=fun _ _ _ _ _ st h=>wpAny_pyIter_listiter st h
theorem sL {P:Program} {w:World} {K:PySem.W.Frag} {tg:Expr} (a it:Addr):mO P w K tg (Itt K a) [it] it (fun i h=>h.IsTupleIter it a i) where
  mem:=by simp
  obj:=fun i h st b hb=>by
    have e:b = it:=by simpa using hb
    subst e
    obtain ⟨o,e,c,d⟩:=st
    exact ⟨o,e,fun v z=>by rw [d] at z; cases z⟩
  keep:=fun i h h' st k=>st.at fun o e=>k it (by simp) o e
  item:=by
    intro X hP hw hK hc i pins s σ H E I hf st hg
    subst hP hw hK
    obtain ⟨xs,x,hq,hx⟩:=hg
    obtain ⟨its,rv,p,hz⟩:=I.tuple hq
    obtain ⟨u,hu,ru⟩:=rv.get hx
    obtain ⟨f0,f1,f2,f3,f4,f5⟩:=hf it (by simp)
    refine wpAny_pyNext_tuple_item st (show s.heap.IsTuple a its.toArray from p) (x:=u) (by simpa using hu) fun h' st' sb=>?_
    have I1:Inv X pins σ H { s with heap:=h' }:=I.turned (t':=s.toks) (fun b o hb e=>(sb.2 b hb).trans e) f0 f1 f3 f4 f5
    obtain ⟨o,e,c,d⟩:=id st'
    exact ⟨u,rfl,tF (s:={ s with heap:=h' }) e c d (by decide) ⟨x,H,I1,ru,⟨rfl,fun ys hy=>by rw [I.tuple_inj hy hq]; exact hx⟩,st',fun b hb=>(hf b hb).1⟩⟩
  done:=by
    intro X hP hw hK hc i pins s σ H E I hf st hg
    subst hP hw hK
    obtain ⟨xs,hq,hx⟩:=hg
    obtain ⟨its,rv,p,hz⟩:=I.tuple hq
    obtain ⟨f0,f1,f2,f3,f4,f5⟩:=hf it (by simp)
    have hl:=rv.length
    exact wpAny_pyNext_tuple_end (I.ok.hd hc) st (show s.heap.IsTuple a its.toArray from p) (by simp; omega) fun h' eb=>⟨rfl,I.turned (t':=s.toks) (fun b o hb e=>eb b o hb e) f0 f1 f3 f4 f5⟩
  self:=fun _ _ _ _ _ st h=>wpAny_pyIter_tupleiter st h
theorem sJ {P:Program} {w:World} {K:PySem.W.Frag} {tg:Expr} (it:Addr) (lo:Int) (n:Nat):mO P w K tg (Itr lo n) [it] it (fun i h=>IsRangeIter h it (lo + (i:Nat) * 1) ((n:Int) - (i:Nat)) 1) where
  mem:=by simp
  obj:=fun i h st b hb=>by
    have e:b = it:=by simpa using hb
    subst e
    exact ⟨_,st,fun v z=>by
      have z':Data.fields _ = Data.cell v:=z
      cases z'⟩
  keep:=fun i h h' st k=>k it (by simp) _ st
  item:=by
    intro X hP hw hK hc i pins s σ H E I hf st hg
    subst hP hw hK
    obtain ⟨f0,f1,f2,f3,f4,f5⟩:=hf it (by simp)
    have W:=Walks.range (prog:=X.prog) (w:=X.w) (I.ok.hd hc) it lo 1 n
    refine W.item i s _ _ hg st fun v h' tk hv st' kk=>?_
    obtain ⟨t,rfl⟩:=hv
    have I1:Inv X pins σ H { s with heap:=h',toks:=tk }:=I.turned (fun b o hb e=>kk b o (by simpa using hb) e) f0 f1 f3 f4 f5
    refine ⟨_,rfl,tF (s:={ s with heap:=h',toks:=tk }) (n:="range_iterator") st' rfl rfl (by decide) ⟨.int (lo + i),H,I1,⟨t,?_⟩,⟨rfl,rfl⟩,st',fun b hb=>(hf b hb).1⟩⟩
    rw [Int.mul_one]
  done:=by
    intro X hP hw hK hc i pins s σ H E I hf st hg
    subst hP hw hK
    obtain ⟨f0,f1,f2,f3,f4,f5⟩:=hf it (by simp)
    exact wpAny_pyNext_range_end (I.ok.hd hc) st (by have:n ≤ i:=hg; omega) fun h' eb=>⟨rfl,I.turned (t':=s.toks) (fun b o hb e=>eb b o hb e) f0 f1 f3 f4 f5⟩
  self:=fun _ _ _ _ _ st h=>wpAny_pyIter_rangeiter st h
end L2
namespace L2
open PySem PySem.Spec PyProof.Rows
section
variable {X:Cx} {tg:Expr}
def qy (K:PySem.W.Frag) (tl:TE):TI:=fun σ H R=>tl σ H fun x H1=>∃ a,x = .ref a∧(∃ xs,SqL K H1 a xs)∧R (Itl K a) H1
def wC (K:PySem.W.Frag) (tl:TE):TI:=fun σ H R=>tl σ H fun x H1=>∃ a,x = .ref a∧(∃ xs,SqT K H1 a xs)∧R (Itt K a) H1
theorem eB {l:Expr} {tl:TE} (hl:PE X l tl):PI X tg l (qy X.K tl):=by
  intro pins s σ H R I h
  refine thn (hl pins s σ H _ I h) fun v s1 ⟨x,H1,I1,r1,q1⟩=>?_
  obtain ⟨a,e,⟨xs,hq⟩,q⟩:=q1
  subst e
  cases r1
  obtain ⟨its,rv,p,hz⟩:=I1.list hq
  refine wpAny_pyIter_list p.isList ?_
  refine ⟨s1.heap.objs.size,[s1.heap.objs.size],_,_,H1,rfl,I1.kept (t':=s1.toks) fun b o e=>Heap.get?_push_of_some _ e,vj a _,⟨_,Heap.get?_push_size _ rfl,rfl,rfl⟩,fun b hb=>?_,q⟩
  have e:b = s1.heap.objs.size:=by simpa using hb
  subst e
  exact I1.fpOk (Nat.le_refl _) (I1.hok.fresh (Nat.le_refl _))
theorem jg {l:Expr} {tl:TE} (hl:PE X l tl):PI X tg l (wC X.K tl):=by
  intro pins s σ H R I h
  refine thn (hl pins s σ H _ I h) fun v s1 ⟨x,H1,I1,r1,q1⟩=>?_
  obtain ⟨a,e,⟨xs,hq⟩,q⟩:=q1
  subst e
  cases r1
  obtain ⟨its,rv,p,hz⟩:=I1.tuple hq
  refine wpAny_pyIter_tuple (show s1.heap.IsTuple a its.toArray from p) ?_
  refine ⟨s1.heap.objs.size,[s1.heap.objs.size],_,_,H1,rfl,I1.kept (t':=s1.toks) fun b o e=>Heap.get?_push_of_some _ e,sL a _,⟨_,Heap.get?_push_size _ rfl,rfl,rfl⟩,fun b hb=>?_,q⟩
  have e:b = s1.heap.objs.size:=by simpa using hb
  subst e
  exact I1.fpOk (Nat.le_refl _) (I1.hok.fresh (Nat.le_refl _))
theorem xQ {pins:List (Addr × Obj)} {σ:St} {H:Hp} {s:Shared} {R:It→Hp→Prop} {E:Value→Shared→Prop} {lo hi:Int} {t u v:Tok} {tk:Nat} (I:Inv X pins σ H s) (h1:-(2 ^ 62) ≤ lo) (h2:lo < 2 ^ 62) (h3:-(2 ^ 62) ≤ hi) (h4:hi < 2 ^ 62)
    (q:R (Itr lo (hi - lo).toNat) H):wpAny (model X.prog X.w) X.A (pyIter (.ref s.heap.objs.size)) (PIE X pins σ tg R) E { s with heap:=s.heap.push { cls:=.type "range",data:=.fields #[.int lo t,.int hi u,.int 1 v] },toks:=tk }:=by
  refine wpAny_pyIter_range (IsRange.new ..) (small_one h1 h2 h3 h4) ?_
  have I1:Inv X pins σ H { s with heap:=s.heap.push { cls:=.type "range",data:=.fields #[.int lo t,.int hi u,.int 1 v] },toks:=tk }:=I.kept fun b o e=>Heap.get?_push_of_some _ e
  refine ⟨(s.heap.push { cls:=.type "range",data:=.fields #[.int lo t,.int hi u,.int 1 v] }).objs.size,[(s.heap.push { cls:=.type "range",data:=.fields #[.int lo t,.int hi u,.int 1 v] }).objs.size],_,_,H,rfl,
    I1.kept (t':=tk) fun b o e=>Heap.get?_push_of_some _ e,sJ _ lo (hi - lo).toNat,?_,fun b hb=>?_,q⟩
  · have e1:lo + ((0:Nat):Int) * 1 = lo:=by simp
    have e2:(((hi - lo).toNat:Nat):Int) - ((0:Nat):Int) = Builtin.Range.rangeSize lo hi 1:=by rw [rangeSize_one]; split <;> omega
    show IsRangeIter _ _ (lo + ((0:Nat):Int) * 1) ((((hi - lo).toNat:Nat):Int) - ((0:Nat):Int)) 1
    rw [e1,e2]
    exact Heap.get?_push_size _ rfl
  · have e:b = (s.heap.push { cls:=.type "range",data:=.fields #[.int lo t,.int hi u,.int 1 v] }).objs.size:=by simpa using hb
    subst e
    exact I1.fpOk (Nat.le_refl _) (I1.hok.fresh (Nat.le_refl _))
def zS (ta:TA):TI:=fun σ H R=>ta σ H fun vs H1=>∃ j:Int,vs = [.int j]∧-(2 ^ 62) ≤ j∧j < 2 ^ 62∧R (Itr 0 j.toNat) H1
theorem uP {a:Expr} {ta:TA} {p pos:Pos} (hg:Gl X "range") (hm:X.mg "range" = none) (ha:PA X [a] ta) (hs:starEach [a] X.env = [(false,eval a X.env)]:=by rfl):PI X tg (.Call (.Name "range" p) [a] [] pos) (zS ta):=by
  intro pins s σ H R I h
  refine Call_ (kg I hg hm boot_range (PyProof.Rows.callWith_type1 (thn (ha pos pins s σ H _ I h) fun us s1 ⟨vs,H1,I1,r1,q1⟩=>?_) hs rfl))
  obtain ⟨j,e,q1,q2,q⟩:=q1
  subst e
  cases r1 with
  | cons r rr =>
    cases rr
    obtain ⟨t,rfl⟩:=r
    exact call_range_1 (xQ I1 (by omega) (by omega) q1 q2 (by simpa using q))
def B7 (wi:TI) (g:TG) (tb:TS):TS:=fun D σ H=>wi σ H fun J H1=>∃ W:Nat→Nat→St→Hp→Prop,(∃ m,W 0 m σ H1)∧∀ i m σ H,W i m σ H →
  (J.stop i H∧D.nx σ H)∨(J.go i H∧∃ N:St→Hp→Prop,(∀ σ' H',N σ' H'→∃ m',m' < m∧W (i + 1) m' σ' H')∧∀ x H',J.yld i H x H'→g x σ H' fun σ2 H2=>tb { D with nx:=N,ct:=N,bk:=D.nx } σ2 H2)
def my (fp:List Addr) (h:Heap):List (Addr × Obj):=fp.filterMap fun b=>(h.get? b).map fun o=>(b,o)
theorem hU {fp:List Addr} {h:Heap} {b:Addr} {o:Obj} (hb:b ∈ fp) (e:h.get? b = some o):(b,o) ∈ my fp h:=List.mem_filterMap.mpr ⟨b,hb,by rw [e]; rfl⟩
theorem uK {fp:List Addr} {h:Heap} {p:Addr × Obj} (hp:p ∈ my fp h):p.1 ∈ fp∧h.get? p.1 = some p.2:=by
  obtain ⟨b,hb,e⟩:=List.mem_filterMap.mp hp
  cases q:h.get? b with
  | none=>rw [q] at e; cases e
  | some o =>
    rw [q] at e
    have e':(b,o) = p:=Option.some.inj e
    subst e'
    exact ⟨hb,q⟩
theorem Inv.pinned {pins:List (Addr × Obj)} {σ:St} {H:Hp} {s:Shared} {fp:List Addr} (I:Inv X pins σ H s) (hf:∀ b ∈ fp,mM X pins H b) (ho:∀ b ∈ fp,∃ o,s.heap.get? b = some o∧∀ v,o.data ≠ .cell v):Inv X (pins ++ my fp s.heap) σ H s :=
  I.pins_of fun p hp=>(List.mem_append.mp hp).elim (fun z=>I.pin p (List.mem_append_right _ z)) fun z=>by
    obtain ⟨hb,e⟩:=uK z
    obtain ⟨f0,f1,f2,_⟩:=hf p.1 hb
    obtain ⟨o,e',d⟩:=ho p.1 hb
    rw [e] at e'; cases e'
    exact ⟨e,f0,f1,f2,d⟩
theorem Inv.unpinned {pins pl:List (Addr × Obj)} {σ:St} {H:Hp} {s:Shared} (I:Inv X (pins ++ pl) σ H s):Inv X pins σ H s:=I.pins_of fun p hp=>I.pin p (List.mem_append_right _ (List.mem_append_left _ hp))
theorem jh {iter:Expr} {body:List Stmt} {wi:TI} {g:TG} {tb:TS} {pos:Pos} (hp:PassesOwn (model X.prog X.w) X.A X.env X.xe) (hc:X.calm = true) (hi:PI X tg iter wi) (hg:PG X tg g) (hb:PSs X body tb)
    (hs:∀ x,foldedSetIterable iter X.env x = pure x:=by intro _; rfl):PS X (.For tg iter body [] pos) (B7 wi g tb):=by
  intro pins s σ H D I h
  refine wpAny_For (thn (hi pins s σ H _ I h) fun v s1 h1=>thn h1 fun itv s2 h2=>?_) hs
  obtain ⟨it,fp,tn,J,H2,e,I2,T,st2,f2,W,⟨m0,w0⟩,turn⟩:=h2
  subst e
  have pI:∀ {H':Hp},(∀ b ∈ fp,H' b = none)→∀ b ∈ fp,mM X pins H' b:=fun hn b hb=>⟨hn b hb,(f2 b hb).2⟩
  refine codeAny_forLoop_any (fun n s'=>∃ i σ' H',Inv X pins σ' H' s'∧tn i s'.heap∧(∀ b ∈ fp,H' b = none)∧W i n σ' H') ?_ m0 ⟨0,σ,H2,I2,st2,fun b hb=>(f2 b hb).1,w0⟩
  rintro n s3 ⟨i,σ3,H3,I3,st3,fr3,w3⟩
  rcases turn i n σ3 H3 w3 with ⟨stop,qn⟩ | ⟨go,N,hN,step⟩
  · refine wpAny_passesOwn hp (thn (T.done X rfl rfl rfl hc i pins s3 σ3 H3 X.xe I3 (pI fr3) st3 stop) fun r s4 ⟨hr,I4⟩=>?_)
    subst hr
    exact wpAny_execs_nil ⟨σ3,H3,I4,qn⟩
  · refine wpAny_passesOwn hp (thn (T.item X rfl rfl rfl hc i pins s3 σ3 H3 X.xe I3 (pI fr3) st3 go) fun r s4 ⟨u,hr,h4⟩=>?_)
    subst hr
    refine wpAny_passesOwn hp (thn h4 fun _ s5 ⟨x,H5,I5,r5,y5,st5,fr5⟩=>?_)
    have I5':=I5.pinned (pI fr5) (T.obj _ _ st5)
    refine wpAny_passesOwn hp (thn (hg _ s5 σ3 H5 x u _ I5' r5 (step x H5 y5)) fun _ s6 ⟨σ6,H6,I6,q6⟩=>?_)
    refine wpAny_passesOwn hp (thn (hb _ s6 σ6 H6 _ I6 q6) fun f s7 q7=>?_)
    have again:∀ {σ7:St} {H7:Hp},Inv X (pins ++ my fp s5.heap) σ7 H7 s7→N σ7 H7→∃ m,m < n∧∃ i σ' H',Inv X pins σ' H' s7∧tn i s7.heap∧(∀ b ∈ fp,H' b = none)∧W i m σ' H':=fun {σ7 H7} I7 n7=>by
      obtain ⟨m',hm,w7⟩:=hN σ7 H7 n7
      refine ⟨m',hm,i + 1,σ7,H7,I7.unpinned,T.keep _ _ _ st5 fun b hb o e=>(I7.pin (b,o) (List.mem_append_right _ (List.mem_append_right _ (hU hb e)))).1,fun b hb=>?_,w7⟩
      obtain ⟨o,e,d⟩:=T.obj _ _ st5 b hb
      exact (I7.pin (b,o) (List.mem_append_right _ (List.mem_append_right _ (hU hb e)))).2.1
    cases f with
    | next=>obtain ⟨σ7,H7,I7,n7⟩:=q7; exact again I7 n7
    | cont=>obtain ⟨σ7,H7,I7,n7⟩:=q7; exact again I7 n7
    | brk=>obtain ⟨σ7,H7,I7,q7⟩:=q7; exact ⟨σ7,H7,I7.unpinned,q7⟩
    | ret v=>obtain ⟨x7,σ7,H7,I7,r7,q7⟩:=q7; exact ⟨x7,σ7,H7,I7.unpinned,r7,q7⟩
end
theorem jD {K:PySem.W.Frag} {a:Addr} {xs:List V} {g:TG} {tb:TS} {D:Ends} {σ:St} {H:Hp} (Pv:Nat→St→Hp→Prop) (h0:Pv 0 σ H) (hl:∀ i σ H,i ≤ xs.length→Pv i σ H→SqL K H a xs)
    (hs:∀ i x σ H,xs[i]? = some x→Pv i σ H→g x σ H fun σ2 H2=>tb { D with nx:=Pv (i + 1),ct:=Pv (i + 1),bk:=D.nx } σ2 H2) (hd:∀ σ H,Pv xs.length σ H→D.nx σ H) :
    ∃ W:Nat→Nat→St→Hp→Prop,(∃ m,W 0 m σ H)∧∀ i m σ H,W i m σ H →
      ((Itl K a).stop i H∧D.nx σ H)∨((Itl K a).go i H∧∃ N:St→Hp→Prop,(∀ σ' H',N σ' H'→∃ m',m' < m∧W (i + 1) m' σ' H')∧∀ x H',(Itl K a).yld i H x H'→g x σ H' fun σ2 H2=>tb { D with nx:=N,ct:=N,bk:=D.nx } σ2 H2):=by
  refine ⟨fun i m σ H=>m = xs.length - i∧i ≤ xs.length∧Pv i σ H,⟨xs.length,by simp,Nat.zero_le _,h0⟩,?_⟩
  rintro i m σ H ⟨rfl,hi,p⟩
  have q:=hl i σ H hi p
  by_cases hlt:i < xs.length
  · refine .inr ⟨⟨xs,xs[i],q,by simp [hlt]⟩,Pv (i + 1),fun σ' H' p'=>⟨xs.length - (i + 1),by omega,rfl,hlt,p'⟩,fun x H' y=>?_⟩
    obtain ⟨e,y⟩:=y
    subst e
    exact hs i x σ _ (y xs q) p
  · have e:i = xs.length:=by omega
    subst e
    exact .inl ⟨⟨xs,q,Nat.le_refl _⟩,hd σ H p⟩
theorem tE {K:PySem.W.Frag} {a:Addr} {xs:List V} {g:TG} {tb:TS} {D:Ends} {σ:St} {H:Hp} (Pv:Nat→St→Hp→Prop) (h0:Pv 0 σ H) (hl:∀ i σ H,i ≤ xs.length→Pv i σ H→SqT K H a xs)
    (hs:∀ i x σ H,xs[i]? = some x→Pv i σ H→g x σ H fun σ2 H2=>tb { D with nx:=Pv (i + 1),ct:=Pv (i + 1),bk:=D.nx } σ2 H2) (hd:∀ σ H,Pv xs.length σ H→D.nx σ H) :
    ∃ W:Nat→Nat→St→Hp→Prop,(∃ m,W 0 m σ H)∧∀ i m σ H,W i m σ H →
      ((Itt K a).stop i H∧D.nx σ H)∨((Itt K a).go i H∧∃ N:St→Hp→Prop,(∀ σ' H',N σ' H'→∃ m',m' < m∧W (i + 1) m' σ' H')∧∀ x H',(Itt K a).yld i H x H'→g x σ H' fun σ2 H2=>tb { D with nx:=N,ct:=N,bk:=D.nx } σ2 H2):=by
  refine ⟨fun i m σ H=>m = xs.length - i∧i ≤ xs.length∧Pv i σ H,⟨xs.length,by simp,Nat.zero_le _,h0⟩,?_⟩
  rintro i m σ H ⟨rfl,hi,p⟩
  have q:=hl i σ H hi p
  by_cases hlt:i < xs.length
  · refine .inr ⟨⟨xs,xs[i],q,by simp [hlt]⟩,Pv (i + 1),fun σ' H' p'=>⟨xs.length - (i + 1),by omega,rfl,hlt,p'⟩,fun x H' y=>?_⟩
    obtain ⟨e,y⟩:=y
    subst e
    exact hs i x σ _ (y xs q) p
  · have e:i = xs.length:=by omega
    subst e
    exact .inl ⟨⟨xs,q,Nat.le_refl _⟩,hd σ H p⟩
theorem rB {c:TT} {tb:TS} {D:Ends} {σ:St} {H:Hp} (Pv:St→Hp→Prop) (μ:St→Hp→Nat) (h0:Pv σ H)
    (hs:∀ σ H,Pv σ H→c σ H fun b H1=>if b = true then tb { D with nx:=fun σ' H'=>Pv σ' H'∧μ σ' H' < μ σ H,ct:=fun σ' H'=>Pv σ' H'∧μ σ' H' < μ σ H,bk:=D.nx } σ H1 else D.nx σ H1)
    (mono:∀ σ H Q Q',(∀ b H1,Q b H1→Q' b H1)→c σ H Q→c σ H Q'):yd c tb D σ H:=by
  refine ⟨fun m σ H=>m = μ σ H∧Pv σ H,⟨_,rfl,h0⟩,?_⟩
  rintro m σ H ⟨rfl,p⟩
  refine mono σ H _ _ (fun b H1 q=>?_) (hs σ H p)
  cases b with
  | true=>exact ⟨_,fun σ' H' ⟨p',l⟩=>⟨_,l,rfl,p'⟩,q⟩
  | false=>exact q
end L2
namespace L2
open PySem PySem.Spec PyProof.Rows
abbrev R2:=V→V→Hp→VK→Prop
def OpR (X:Cx) (f:Value→Value→Sem Value) (r:R2):Prop :=
  ∀ (pins:List (Addr × Obj)) (s:Shared) (σ:St) (H:Hp) (x y:V) (v u:Value) (Q:VK),Inv X pins σ H s→RelV x v→RelV y u→r x y H Q →
    wpAny (model X.prog X.w) X.A (f v u) (EP X pins σ Q) X.xe s
def UnR (X:Cx) (f:Value→Sem Value) (r:V→Hp→VK→Prop):Prop :=
  ∀ (pins:List (Addr × Obj)) (s:Shared) (σ:St) (H:Hp) (x:V) (v:Value) (Q:VK),Inv X pins σ H s→RelV x v→r x H Q →
    wpAny (model X.prog X.w) X.A (f v) (EP X pins σ Q) X.xe s
def gz (X:Cx) (f:Value) (r:List V→Hp→VK→Prop):Prop :=
  ∀ (pins:List (Addr × Obj)) (s:Shared) (σ:St) (H:Hp) (xs:List V) (us:List Value) (Q:VK),Inv X pins σ H s→Vals xs us→r xs H Q →
    wpAny (model X.prog X.w) X.A (call f us) (EP X pins σ Q) X.xe s
def Ce (X:Cx) (r:V→Hp→(Bool→Hp→Prop)→Prop):Prop :=
  ∀ (pins:List (Addr × Obj)) (s:Shared) (σ:St) (H:Hp) (x:V) (v:Value) (Q:Bool→Hp→Prop),Inv X pins σ H s→RelV x v→r x H Q →
    wpAny (model X.prog X.w) X.A (truthy v) (TP X pins σ Q) X.xe s
def tOp (r:R2) (ta tb:TE):TE:=fun σ H Q=>ta σ H fun x H1=>tb σ H1 fun y H2=>r x y H2 Q
def tUn (r:V→Hp→VK→Prop) (ta:TE):TE:=fun σ H Q=>ta σ H fun x H1=>r x H1 Q
def rI (C:Int→Int→Prop) (g:Int→Int→V):R2:=fun x y H Q=>∃ i j,x = .int i∧y = .int j∧C i j∧Q (g i j) H
def rI0 (g:Int→Int→V):R2:=fun x y H Q=>∃ i j,x = .int i∧y = .int j∧Q (g i j) H
def rU (g:Int→V):V→Hp→VK→Prop:=fun x H Q=>∃ i,x = .int i∧Q (g i) H
section
variable {X:Cx} {a b c:Expr} {ta tb tc:TE} {pos:Pos}
theorem AC (ha:PE X a ta) (hb:PE X b tb) {pins:List (Addr × Obj)} {s:Shared} {σ:St} {H:Hp} {R:V→V→Hp→Prop} (I:Inv X pins σ H s)
    (h:ta σ H fun x H1=>tb σ H1 fun y H2=>R x y H2) {Q:Value→Shared→Prop} {f:Value→Value→Sem Value}
    (hf:∀ v u s2 x y H2,Inv X pins σ H2 s2→RelV x v→RelV y u→R x y H2→wpAny (model X.prog X.w) X.A (f v u) Q X.xe s2) :
    wpAny (model X.prog X.w) X.A (eval a X.env) (fun v s₁=>wpAny (model X.prog X.w) X.A (eval b X.env) (fun u s₂=>wpAny (model X.prog X.w) X.A (f v u) Q X.xe s₂) X.xe s₁) X.xe s:=by
  refine thn (ha pins s σ H _ I h) fun v s1 ⟨x,H1,I1,r1,q1⟩=>?_
  refine thn (hb pins s1 σ H1 _ I1 q1) fun u s2 ⟨y,H2,I2,r2,q2⟩=>?_
  exact hf v u s2 x y H2 I2 r1 r2 q2
theorem bz {op:Operator} {r:R2} (ho:OpR X (binaryOp op) r) (ha:PE X a ta) (hb:PE X b tb):PE X (.BinOp a op b pos) (tOp r ta tb):=by
  intro pins s σ H Q I h
  exact wpAny_BinOp (AC ha hb I h fun v u s2 x y H2 I2 rx ry q=>ho pins s2 σ H2 x y v u Q I2 rx ry q)
theorem xu {op:UnaryOp} {r:V→Hp→VK→Prop} (ho:UnR X (unaryOp op) r) (ha:PE X a ta):PE X (.UnaryOp op a pos) (tUn r ta):=by
  intro pins s σ H Q I h
  exact UnaryOp_ (thn (ha pins s σ H _ I h) fun v s1 ⟨x,H1,I1,r1,q1⟩=>ho pins s1 σ H1 x v Q I1 r1 q1)
theorem opI {f:Value→Value→Sem Value} {C:Int→Int→Prop} {g:Int→Int→Int}
    (rule:∀ (i j:Int) (t u:Tok) (s:Shared) (Q:Value→Shared→Prop) (E:Value→Shared→Prop),C i j→Q (.int (g i j) s.toks) { s with toks:=s.toks + 1 }→wpAny (model X.prog X.w) X.A (f (.int i t) (.int j u)) Q E s) :
    OpR X f (rI C fun i j=>.int (g i j)):=by
  intro pins s σ H x y v u Q I rx ry h
  obtain ⟨i,j,rfl,rfl,hc,q⟩:=h
  obtain ⟨t,rfl⟩:=rx
  obtain ⟨t',rfl⟩:=ry
  exact rule i j t t' s _ _ hc ⟨.int (g i j),H,I.tok _,⟨_,rfl⟩,q⟩
theorem BV {f:Value→Value→Sem Value} {g:Int→Int→Int}
    (rule:∀ (i j:Int) (t u:Tok) (s:Shared) (Q:Value→Shared→Prop) (E:Value→Shared→Prop),Q (.int (g i j) s.toks) { s with toks:=s.toks + 1 }→wpAny (model X.prog X.w) X.A (f (.int i t) (.int j u)) Q E s) :
    OpR X f (rI0 fun i j=>.int (g i j)):=by
  intro pins s σ H x y v u Q I rx ry h
  obtain ⟨i,j,rfl,rfl,q⟩:=h
  obtain ⟨t,rfl⟩:=rx
  obtain ⟨t',rfl⟩:=ry
  exact rule i j t t' s _ _ ⟨.int (g i j),H,I.tok _,⟨_,rfl⟩,q⟩
theorem yY {f:Value→Value→Sem Value} {g:Int→Int→Bool}
    (rule:∀ (i j:Int) (t u:Tok) (s:Shared) (Q:Value→Shared→Prop) (E:Value→Shared→Prop),Q (.bool (g i j)) s→wpAny (model X.prog X.w) X.A (f (.int i t) (.int j u)) Q E s) :
    OpR X f (rI0 fun i j=>.bl (g i j)):=by
  intro pins s σ H x y v u Q I rx ry h
  obtain ⟨i,j,rfl,rfl,q⟩:=h
  obtain ⟨t,rfl⟩:=rx
  obtain ⟨t',rfl⟩:=ry
  exact rule i j t t' s _ _ ⟨.bl (g i j),H,I,rfl,q⟩
def Aj (i j:Int):Prop:=0 < j∧j < 1073741824
def Cc (i j:Int):Prop:=0 ≤ j∧j ≤ 1000000∧i.natAbs < 2 ^ 64
def CMul (i j:Int):Prop:=(-(2 ^ 64) < i∧i < 2 ^ 64)∨(-(2 ^ 64) < j∧j < 2 ^ 64)
theorem CMul.ok {i j:Int} (h:CMul i j):IntMulOk i j:=by
  rcases h with ⟨h1,h2⟩ | ⟨h1,h2⟩
  · exact .of_left (intBits_le_64 h1 h2)
  · exact .of_right (intBits_le_64 h1 h2)
theorem fO:OpR X (binaryOp .Add) (rI0 fun i j=>.int (i + j)):=BV fun _ _ _ _ _ _ _ q=>add_int q
theorem xn:OpR X (binaryOp .Sub) (rI0 fun i j=>.int (i - j)):=BV fun _ _ _ _ _ _ _ q=>sub_int q
theorem xl:OpR X (binaryOp .Mult) (rI CMul fun i j=>.int (i * j)):=opI fun _ _ _ _ _ _ _ hc q=>mul_int q hc.ok
theorem hV:OpR X (binaryOp .FloorDiv) (rI Aj fun i j=>.int (i / j)):=opI fun i j _ _ _ _ _ hc q=>by
  have h1:(0:Int) < j:=hc.1
  have h2:j < 1073741824:=hc.2
  exact floordiv_int (by omega) (by rw [Int.fdiv_eq_ediv_of_nonneg i (by omega)]; exact q) (.inl (PyProof.noPylong_small (by omega)))
theorem ef:OpR X (binaryOp .Mod) (rI (fun _ j=>0 < j) fun i j=>.int (i % j)):=opI fun i j _ _ _ _ _ hc q=>by
  have h1:(0:Int) < j:=hc
  exact mod_int' (by omega) (by rw [Int.fmod_eq_emod_of_nonneg i (by omega)]; exact q)
theorem o3:OpR X (binaryOp .Pow) (rI Cc fun i j=>.int (i ^ j.toNat)):=opI fun _ _ _ _ _ _ _ hc q=>pow_int_small hc.1 hc.2.1 hc.2.2 q
theorem unI {f:Value→Sem Value} {g:Int→Int}
    (rule:∀ (i:Int) (t:Tok) (s:Shared) (Q:Value→Shared→Prop) (E:Value→Shared→Prop),Q (.int (g i) s.toks) { s with toks:=s.toks + 1 }→wpAny (model X.prog X.w) X.A (f (.int i t)) Q E s) :
    UnR X f (rU fun i=>.int (g i)):=by
  intro pins s σ H x v Q I rx h
  obtain ⟨i,rfl,q⟩:=h
  obtain ⟨t,rfl⟩:=rx
  exact rule i t s _ _ ⟨.int (g i),H,I.tok _,⟨_,rfl⟩,q⟩
theorem sM:UnR X (unaryOp .USub) (rU fun i=>.int (-i)):=unI fun _ _ _ _ _ q=>neg_int q
end
def B3:V→V→Bool
  | .non,.non=>true | .non,.int _=>true | .int _,.non=>true | .non,.bl _=>true | .bl _,.non=>true | .non,.str _=>true | .str _,.non=>true
  | .int _,.int _=>true | .bl _,.bl _=>true | .str _,.str _=>true | .byt _,.byt _=>true
  | .int _,.str _=>true | .str _,.int _=>true | .bl _,.str _=>true | .str _,.bl _=>true
  | _,_=>false
def rEq:R2:=fun x y H Q=>B3 x y = true∧Q (.bl (decide (x = y))) H
def rNe:R2:=fun x y H Q=>B3 x y = true∧Q (.bl (!decide (x = y))) H
theorem sZ {i j:Int}:decide (V.int i = V.int j) = (i == j):=by
  rw [Bool.eq_iff_iff]
  simp
theorem wa {i j:Bool}:decide (V.bl i = V.bl j) = (i == j):=by
  rw [Bool.eq_iff_iff]
  simp
theorem tj {i j:Str}:decide (V.str i = V.str j) = (i == j):=by
  rw [Bool.eq_iff_iff]
  simp
theorem sY {i j:Array UInt8}:decide (V.byt i = V.byt j) = (i.toList == j.toList):=by
  rw [Bool.eq_iff_iff]
  cases i
  cases j
  simp
section
variable {X:Cx} {a b c:Expr} {ta tb tc:TE} {pos:Pos}
theorem bK {pins:List (Addr × Obj)} {σ:St} {H:Hp} {s:Shared} {Q:VK} {k k':Bool} (I:Inv X pins σ H s) (q:Q (.bl k) H) (e:k = k'):EP X pins σ Q (.bool k') s:=by
  subst e
  exact ⟨.bl k,H,I,rfl,q⟩
theorem bV:OpR X (compareOp .Eq) rEq:=by
  intro pins s σ H x y v u Q I rx ry h
  obtain ⟨hs,q⟩:=h
  cases x with
  | non =>
    cases rx
    cases y with
    | non=>cases ry; exact PySem.EqNone.eq_none_none (bK I q (by simp))
    | bl j=>cases ry; exact PySem.EqNone.eq_none_bool (bK I q (by simp))
    | int j=>obtain ⟨t',rfl⟩:=ry; exact PySem.EqNone.eq_none_int (bK I q (by simp))
    | str j=>obtain ⟨t',rfl⟩:=ry; exact PySem.EqNone.eq_none_str (bK I q (by simp))
    | _=>exact absurd (show false = true from hs) Bool.false_ne_true
  | bl i =>
    cases rx
    cases y with
    | non=>cases ry; exact PySem.EqNone.eq_bool_none (bK I q (by simp))
    | bl j=>cases ry; exact eq_bool (bK I q wa)
    | str j=>obtain ⟨t',rfl⟩:=ry; exact PySem.EqMixed.eq_bool_str (bK I q (by simp))
    | _=>exact absurd (show false = true from hs) Bool.false_ne_true
  | int i =>
    obtain ⟨t,rfl⟩:=rx
    cases y with
    | non=>cases ry; exact PySem.EqNone.eq_int_none (bK I q (by simp))
    | int j=>obtain ⟨t',rfl⟩:=ry; exact eq_int (bK I q sZ)
    | str j=>obtain ⟨t',rfl⟩:=ry; exact PySem.EqMixed.eq_int_str (bK I q (by simp))
    | _=>exact absurd (show false = true from hs) Bool.false_ne_true
  | str i =>
    obtain ⟨t,rfl⟩:=rx
    cases y with
    | non=>cases ry; exact PySem.EqNone.eq_str_none (bK I q (by simp))
    | bl j=>cases ry; exact PySem.EqMixed.eq_str_bool (bK I q (by simp))
    | int j=>obtain ⟨t',rfl⟩:=ry; exact PySem.EqMixed.eq_str_int (bK I q (by simp))
    | str j=>obtain ⟨t',rfl⟩:=ry; exact eq_str (bK I q tj)
    | _=>exact absurd (show false = true from hs) Bool.false_ne_true
  | byt i =>
    obtain ⟨t,rfl⟩:=rx
    cases y with
    | byt j=>obtain ⟨t',rfl⟩:=ry; exact PySem.W.eq_bytes (bK I q sY)
    | _=>exact absurd (show false = true from hs) Bool.false_ne_true
  | _=>cases y <;> exact absurd (show false = true from hs) Bool.false_ne_true
theorem gF:OpR X (compareOp .NotEq) rNe:=by
  intro pins s σ H x y v u Q I rx ry h
  obtain ⟨hs,q⟩:=h
  cases x with
  | non =>
    cases rx
    cases y with
    | non=>cases ry; exact PySem.EqNone.ne_none_none (bK I q (by simp))
    | bl j=>cases ry; exact PySem.EqNone.ne_none_bool (bK I q (by simp))
    | int j=>obtain ⟨t',rfl⟩:=ry; exact PySem.EqNone.ne_none_int (bK I q (by simp))
    | str j=>obtain ⟨t',rfl⟩:=ry; exact PySem.EqNone.ne_none_str (bK I q (by simp))
    | _=>exact absurd (show false = true from hs) Bool.false_ne_true
  | bl i =>
    cases rx
    cases y with
    | non=>cases ry; exact PySem.EqNone.ne_bool_none (bK I q (by simp))
    | bl j=>cases ry; exact ne_bool (bK I q (congrArg not wa))
    | str j=>obtain ⟨t',rfl⟩:=ry; exact PySem.EqMixed.ne_bool_str (bK I q (by simp))
    | _=>exact absurd (show false = true from hs) Bool.false_ne_true
  | int i =>
    obtain ⟨t,rfl⟩:=rx
    cases y with
    | non=>cases ry; exact PySem.EqNone.ne_int_none (bK I q (by simp))
    | int j=>obtain ⟨t',rfl⟩:=ry; exact ne_int (bK I q (congrArg not sZ))
    | str j=>obtain ⟨t',rfl⟩:=ry; exact PySem.EqMixed.ne_int_str (bK I q (by simp))
    | _=>exact absurd (show false = true from hs) Bool.false_ne_true
  | str i =>
    obtain ⟨t,rfl⟩:=rx
    cases y with
    | non=>cases ry; exact PySem.EqNone.ne_str_none (bK I q (by simp))
    | bl j=>cases ry; exact PySem.EqMixed.ne_str_bool (bK I q (by simp))
    | int j=>obtain ⟨t',rfl⟩:=ry; exact PySem.EqMixed.ne_str_int (bK I q (by simp))
    | str j=>obtain ⟨t',rfl⟩:=ry; exact ne_str (bK I q (congrArg not tj))
    | _=>exact absurd (show false = true from hs) Bool.false_ne_true
  | byt i =>
    obtain ⟨t,rfl⟩:=rx
    cases y with
    | byt j=>obtain ⟨t',rfl⟩:=ry; exact PySem.W.ne_bytes (bK I q (congrArg not sY))
    | _=>exact absurd (show false = true from hs) Bool.false_ne_true
  | _=>cases y <;> exact absurd (show false = true from hs) Bool.false_ne_true
theorem nH:OpR X (compareOp .Lt) (rI0 fun i j=>.bl (decide (i < j))):=yY fun _ _ _ _ _ _ _ q=>lt_int q
theorem ir:OpR X (compareOp .LtE) (rI0 fun i j=>.bl (decide (i ≤ j))):=yY fun _ _ _ _ _ _ _ q=>le_int q
theorem qR:OpR X (compareOp .Gt) (rI0 fun i j=>.bl (decide (j < i))):=yY fun _ _ _ _ _ _ _ q=>gt_int q
theorem xj:OpR X (compareOp .GtE) (rI0 fun i j=>.bl (decide (j ≤ i))):=yY fun _ _ _ _ _ _ _ q=>ge_int q
theorem AY:OpR X (compareOp .Is) (fun x y H Q=>y = .non∧Q (.bl (decide (x = .non))) H):=by
  intro pins s σ H x y v u Q I rx ry h
  obtain ⟨rfl,q⟩:=h
  cases ry
  refine is_none_gen (bK I q ?_)
  cases x <;> first
    | (cases rx; rfl)
    | (obtain ⟨t,rfl⟩:=rx; rfl)
theorem tS:OpR X (compareOp .IsNot) (fun x y H Q=>y = .non∧Q (.bl (!decide (x = .non))) H):=by
  intro pins s σ H x y v u Q I rx ry h
  obtain ⟨rfl,q⟩:=h
  cases ry
  refine isnot_none_gen (bK I q ?_)
  cases x <;> first
    | (cases rx; rfl)
    | (obtain ⟨t,rfl⟩:=rx; rfl)
theorem OpR.or {f:Value→Value→Sem Value} {r r':R2} (h:OpR X f r) (h':OpR X f r'):OpR X f (fun x y H Q=>r x y H Q∨r' x y H Q):=by
  intro pins s σ H x y v u Q I rx ry q
  rcases q with q | q
  · exact h pins s σ H x y v u Q I rx ry q
  · exact h' pins s σ H x y v u Q I rx ry q
theorem aU (b:Expr) {op:CmpOp} (h:op ≠ .In:=by decide) (h2:op ≠ .NotIn:=by decide):behindInMarks op b = false:=by
  have e1:(op == CmpOp.In) = false:=by cases op <;> first | rfl | exact absurd rfl h
  have e2:(op == CmpOp.NotIn) = false:=by cases op <;> first | rfl | exact absurd rfl h2
  cases b <;> simp [behindInMarks,e1,e2]
theorem cf {op:CmpOp} {r:R2} (ho:OpR X (compareOp op) r) (ha:PE X a ta) (hb:PE X b tb) (hm:behindInMarks op b = false):PE X (.Compare a [op] [b] pos) (tOp r ta tb):=by
  intro pins s σ H Q I h
  exact wpAny_Compare1 (AC ha hb I h fun v u s2 x y H2 I2 rx ry q=>ho pins s2 σ H2 x y v u Q I2 rx ry q) hm
def rn (t:TE):TT:=fun σ H Q=>t σ H fun x H'=>∃ k,x = .bl k∧Q k H'
theorem aP {op:CmpOp} {r:R2} (ho:OpR X (compareOp op) r) (ha:PE X a ta) (hb:PE X b tb) (hm:behindInMarks op b = false):PT X (.Compare a [op] [b] pos) (rn (tOp r ta tb)):=by
  intro pins s σ H Q I h
  refine wpAny_isTrue_Compare1 (thn (ha pins s σ H _ I h) fun v s1 ⟨x,H1,I1,r1,q1⟩=>thn (hb pins s1 σ H1 _ I1 q1) fun u s2 ⟨y,H2,I2,r2,q2⟩ =>
    thn (ho pins s2 σ H2 x y v u _ I2 r1 r2 q2) fun c s3 ⟨z,H3,I3,r3,k,e,q3⟩=>?_) hm
  subst e
  cases r3
  exact wpAny_truthy_bool ⟨H3,I3,q3⟩
def pK (r r':R2) (ta tb tc:TE):TE:=fun σ H Q=>ta σ H fun x H1=>tb σ H1 fun y H2=>r x y H2 fun z H3=>∃ k,z = .bl k ∧
  (if k = true then tc σ H3 fun w' H4=>r' y w' H4 Q else Q (.bl false) H3)
theorem qT {op op':CmpOp} {r r':R2} (ho:OpR X (compareOp op) r) (ho':OpR X (compareOp op') r') (ha:PE X a ta) (hb:PE X b tb) (hc:PE X c tc)
    (hm:lastMarks [op,op'] [b,c] = false:=by with_unfolding_all rfl):PE X (.Compare a [op,op'] [b,c] pos) (pK r r' ta tb tc):=by
  intro pins s σ H Q I h
  refine Compare_chain (thn (ha pins s σ H _ I h) fun v s1 ⟨x,H1,I1,r1,q1⟩=>chain_link (thn (hb pins s1 σ H1 _ I1 q1) fun u s2 ⟨y,H2,I2,r2,q2⟩ =>
    thn (ho pins s2 σ H2 x y v u _ I2 r1 r2 q2) fun d s3 ⟨z,H3,I3,r3,k,e,q3⟩=>?_)) hm
  subst e
  cases r3
  refine wpAny_truthy_bool ?_
  cases k with
  | false=>exact ite_ff ⟨.bl false,H3,I3,rfl,q3⟩
  | true=>exact ite_tt (chain_last (thn (hc pins s3 σ H3 _ I3 q3) fun w' s4 ⟨z',H4,I4,r4,q4⟩=>ho' pins s4 σ H4 y z' u w' Q I4 r2 r4 q4))
theorem mB {op op':CmpOp} {r r':R2} (ho:OpR X (compareOp op) r) (ho':OpR X (compareOp op') r') (ha:PE X a ta) (hb:PE X b tb) (hc:PE X c tc)
    (hm:lastMarks [op,op'] [b,c] = false:=by with_unfolding_all rfl):PT X (.Compare a [op,op'] [b,c] pos) (rn (pK r r' ta tb tc)):=by
  intro pins s σ H Q I h
  refine isTrue_chain (thn (ha pins s σ H _ I h) fun v s1 ⟨x,H1,I1,r1,q1⟩=>test_link (thn (hb pins s1 σ H1 _ I1 q1) fun u s2 ⟨y,H2,I2,r2,q2⟩ =>
    thn (ho pins s2 σ H2 x y v u _ I2 r1 r2 q2) fun d s3 ⟨z,H3,I3,r3,k,e,q3⟩=>?_)) hm
  subst e
  cases r3
  refine wpAny_truthy_bool ?_
  cases k with
  | false =>
    obtain ⟨k',e',q'⟩:=q3
    cases e'
    exact ite_ff ⟨H3,I3,q'⟩
  | true =>
    refine ite_tt (test_last (thn (hc pins s3 σ H3 _ I3 q3) fun w' s4 ⟨z',H4,I4,r4,q4⟩=>thn (ho' pins s4 σ H4 y z' u w' _ I4 r2 r4 q4) fun d' s5 ⟨z2,H5,I5,r5,k2,e2,q5⟩=>?_))
    subst e2
    cases r5
    exact wpAny_truthy_bool ⟨H5,I5,q5⟩
def vJ (K:PySem.W.Frag) (x:V) (H:Hp) (k:Bool):Prop :=
  match x with
  | .non=>k = false
  | .bl b=>k = b
  | .int i=>k = (i != 0)
  | .str y=>y.length ≤ sizeLine∧k = ((y.length:Int) != 0)
  | .byt y=>y.size ≤ sizeLine∧k = ((y.size:Int) != 0)
  | .ref p=>(∃ xs,SqL K H p xs∧k = !xs.isEmpty)∨(∃ xs,SqT K H p xs∧k = !xs.isEmpty)∨∃ kvs,H p = some (.dK kvs)∧k = !kvs.isEmpty
  | _=>False
theorem rS {κ:Type} {kvs:List (κ × V)} {vs:List (κ × Value)} (r:KV kvs vs):(!vs.isEmpty) = !kvs.isEmpty:=by
  cases r <;> rfl
theorem lU {xs:List V} {its:List Value} (r:Vals xs its):(!its.toArray.isEmpty) = !xs.isEmpty:=by
  cases r <;> simp
theorem jd:(sizeLine:Nat) < 2 ^ 63:=by rw [sizeLine_eq]; decide
theorem Bw:Ce X (fun x H Q=>∃ k,vJ X.K x H k∧Q k H):=by
  intro pins s σ H x v Q I rx h
  obtain ⟨k,e,q⟩:=h
  have hl:=jd
  have hs:sizeLine = 16777216:=sizeLine_eq
  cases x with
  | non =>
    cases rx
    have e':k = false:=e
    subst e'
    exact truthy_none ⟨H,I,q⟩
  | bl b =>
    cases rx
    have e':k = b:=e
    subst e'
    exact wpAny_truthy_bool ⟨H,I,q⟩
  | int i =>
    obtain ⟨t,rfl⟩:=rx
    have e':k = (i != 0):=e
    subst e'
    exact PySem.P.truthy_int ⟨H,I,q⟩
  | str y =>
    obtain ⟨t,rfl⟩:=rx
    obtain ⟨hy,e'⟩:y.length ≤ sizeLine∧k = ((y.length:Int) != 0):=e
    subst e'
    exact PySem.P.truthy_str (by omega) ⟨H,I.tok _,q⟩
  | byt y =>
    obtain ⟨t,rfl⟩:=rx
    obtain ⟨hy,e'⟩:y.size ≤ sizeLine∧k = ((y.size:Int) != 0):=e
    subst e'
    exact PySem.W.truthy_bytes (by omega) ⟨H,I.tok _,q⟩
  | ref p =>
    cases rx
    have e':(∃ xs,SqL X.K H p xs∧k = !xs.isEmpty)∨(∃ xs,SqT X.K H p xs∧k = !xs.isEmpty)∨∃ kvs,H p = some (.dK kvs)∧k = !kvs.isEmpty:=e
    rcases e' with ⟨xs,hx,e'⟩ | ⟨xs,hx,e'⟩ | ⟨kvs,hx,e'⟩
    · subst e'
      obtain ⟨its,r,pl,hz⟩:=I.list hx
      have hlen:=r.length
      exact wpAny_truthy_list pl.isList (by simp only [List.size_toArray]; omega) ⟨H,I.tok _,by rw [lU r]; exact q⟩
    · subst e'
      obtain ⟨its,r,pl,hz⟩:=I.tuple hx
      have hlen:=r.length
      exact truthy_tuple pl (by simp only [List.size_toArray]; omega) ⟨H,I.tok _,by rw [lU r]; exact q⟩
    · subst e'
      obtain ⟨hz,hS,vs,r,m⟩:kvs.length ≤ sizeLine∧(p == sysModules) = false∧∃ vs,KV kvs vs∧s.heap.DictOf (de X.prog X.w) p vs:=I.hok p _ hx
      have hlen:kvs.length = vs.length:=Paired.length r
      exact wpAny_truthy_dict hS m (by omega) ⟨H,I.tok _,by rw [rS r]; exact q⟩
  | _=>exact (show False from e).elim
theorem br (ha:PE X a ta) (he:∀ whole,isTrue a X.env whole = (do let v ← whole; standAt a.pos; holding [v] (truthy v))) :
    PT X a (fun σ H Q=>ta σ H fun x H'=>∃ k,vJ X.K x H' k∧Q k H'):=by
  intro pins s σ H Q I h
  exact isTrue_plain (thn (ha pins s σ H _ I h) fun v s1 ⟨x,H1,I1,r1,q1⟩=>Bw pins s1 σ H1 x v Q I1 r1 q1) (he _)
theorem gv {x:V} {us:List Value} (r:Vals [x] us):∃ u,us = [u]∧RelV x u:=by
  cases r with
  | cons r1 r2=>cases r2; exact ⟨_,rfl,r1⟩
theorem Ca {x y:V} {us:List Value} (r:Vals [x,y] us):∃ u w',us = [u,w']∧RelV x u∧RelV y w':=by
  cases r with
  | cons r1 r2 =>
    cases r2 with
    | cons r3 r4=>cases r4; exact ⟨_,_,rfl,r1,r3⟩
end
end L2
namespace L2
open PySem PySem.Spec PyProof.Rows
section
variable {prog:Program} {w:World} {A:Around} {E:Value→Shared→Prop} {s:Shared} {K:PySem.W.Frag} {x dx C f:Addr} {mA:Str→Option Value} {name:Str} {v:Value}
end
theorem RelO.some_of {v:V} {o:Option Value} (r:RelO (some v) o):∃ u,o = some u∧RelV v u:=by
  cases o with
  | none=>exact (show False from r).elim
  | some u=>exact ⟨u,rfl,r⟩
section
variable {P:Program} {w:World} {H H':Hp} {h h':Heap} {a C dx:Addr} {fs fs':List (Str × V)}
end
section
variable {X:Cx} {pins:List (Addr × Obj)} {σ:St} {H:Hp} {s:Shared} {a C dx:Addr} {fs:List (Str × V)} {f:Str} {v:V} {A:Around} {E:Value→Shared→Prop}
end
section
variable {X:Cx} {o e value:Expr} {f:Str} {pos pos' tpos:Pos} {ta tv:TE}
end
section
variable {X:Cx} {pins:List (Addr × Obj)} {σ:St} {H:Hp} {s:Shared} {A:Around} {E:Value→Shared→Prop} {Q:Value→Shared→Prop} {c:Value} {b:Bool}
end
end L2
namespace L2
open PySem PySem.Spec PyProof.Rows
structure Room (k:Nat) (A:Around):Prop where
  hd:A.handled = none
  dp:A.depth + 3 * k + 5 < recursionLimit
  un:A.units + 16 * k + 200 < cLine
theorem Room.mono {j k:Nat} {A:Around} (r:Room k A) (h:j ≤ k):Room j A:=⟨r.hd,by have:=r.dp; omega,by have:=r.un; omega⟩
theorem Room.deeper {k:Nat} {A:Around} (r:Room (k + 1) A) (env:Env):Room k (A.deeper env) :=
  ⟨r.hd,by have:=r.dp; show A.depth + 1 + 3 * k + 5 < _; omega,by have:=r.un; show A.units + 3 + 16 * k + 200 < _; omega⟩
theorem Room.depth {k:Nat} {A:Around} (r:Room k A):A.depth < recursionLimit:=by have:=r.dp; omega
theorem Room.units {k:Nat} {A:Around} (r:Room k A):A.units + 64 < cLine:=by have:=r.un; omega
def dt:TA:=fun _ H Q=>Q [] H
def bD (ta:TE) (tr:TA):TA:=fun σ H Q=>ta σ H fun x H1=>tr σ H1 fun xs H2=>Q (x :: xs) H2
section
variable {X:Cx} {e:Expr} {es:List Expr} {te:TE} {t:TA} {pos:Pos}
theorem ag:PA X [] dt:=fun _ _ _ _ H Q I h=>Calls.spliced_nil ⟨[],H,I,.nil,h⟩
theorem aV (ha:PE X e te) (hr:PA X es t) (hs:starEach (e :: es) X.env = (false,eval e X.env) :: starEach es X.env:=by rfl):PA X (e :: es) (bD te t):=by
  intro pos pins s σ H Q I h
  rw [hs]
  show wpAny _ _ (spliced ((false,eval e X.env) :: backTo pos (starEach es X.env))) _ _ s
  refine Calls.spliced_cons (thn (ha pins s σ H _ I h) fun u s1 ⟨x,H1,I1,r1,q1⟩=>?_)
  exact thn (hr pos pins s1 σ H1 _ I1 q1) fun us s2 ⟨xs,H2,I2,r2,q2⟩=>⟨x :: xs,H2,I2,.cons r1 r2,q2⟩
def Bt (t:TA):TE:=fun σ H Q=>t σ H fun xs H1=>xs.length ≤ sizeLine∧∀ p,H1 p = none→Q (.ref p) (upd H1 p (.tup xs))
def pL (t:TA):TE:=fun σ H Q=>t σ H fun xs H1=>xs.length ≤ sizeLine∧∀ p,H1 p = none→Q (.ref p) (upd H1 p (.lst xs))
theorem aT {x1} (h:PA X es t):PE X (.Tuple es x1 pos) (Bt t):=by
  intro pins s σ H Q I hq
  refine wpAny_Tuple_spliced (thn (h pos pins s σ H _ I hq) fun us s1 ⟨xs,H1,I1,r,z,q⟩=>⟨by rw [← r.length]; exact z,?_⟩)
  have hf:H1 s1.heap.objs.size = none:=I1.hok.fresh (Nat.le_refl _)
  refine ⟨.ref s1.heap.objs.size,upd H1 s1.heap.objs.size (.tup xs),I1.laid (t':=s1.toks) (fun b u e=>Heap.get?_push_of_some _ e) (Nat.le_refl _) ?_,rfl,q _ hf⟩
  exact ⟨z,us,r,⟨_,Heap.get?_push_size _ rfl,rfl,_,rfl⟩⟩
theorem bB (h:PA X es t):PE X (.List es pos) (pL t):=by
  intro pins s σ H Q I hq
  refine wpAny_List_spliced (thn (h pos pins s σ H _ I hq) fun us s1 ⟨xs,H1,I1,r,z,q⟩=>⟨by rw [← r.length]; exact z,?_⟩)
  have hf:H1 s1.heap.objs.size = none:=I1.hok.fresh (Nat.le_refl _)
  refine ⟨.ref s1.heap.objs.size,upd H1 s1.heap.objs.size (.lst xs),I1.laid (t':=s1.toks) (fun b u e=>Heap.get?_push_of_some _ e) (Nat.le_refl _) ?_,rfl,q _ hf⟩
  exact ⟨z,us,0,r,Heap.get?_push_size _ rfl⟩
end
abbrev Sp:=List V→Hp→VK→XK→Prop
abbrev CXT:=List Env→Hp→Shared→XK→Value→Shared→Prop
structure ug (P:Program) (w:World) (K:PySem.W.Frag) (mg:Str→Option Value) (base:Heap) (A:Around) (outer:List Env) (s:Shared) (H:Hp):Prop where
  frames:A.frames = some outer
  mod:Mod K mg base
  bs:∀ b o,base.get? b = some o→s.heap.get? b = some o∧H b = none
  bsz:base.objs.size ≤ s.heap.objs.size
  funs:s.heap.FunFrames base outer
  frf:∀ b ∈ frs outer,H b = none
  hok:HOk P w H s.heap
  bare:AllBare s.gens
def CE (outer:List Env) (P:Program) (w:World) (H:Hp) (s:Shared) (Q:VK) (u:Value) (s':Shared):Prop :=
  ∃ v H',s'.os = s.os∧AllBare s'.gens∧Un (frs outer) [] H H' s.heap s'.heap∧HOk P w H' s'.heap∧RelV v u∧Q v H'
def CR (CX:CXT) (outer:List Env) (P:Program) (w:World) (H:Hp) (s:Shared) (Q:VK) (E:XK) (r:Result) (s':Shared):Prop :=
  match r with
  | .ok (.ret u)=>CE outer P w H s Q u s'
  | .ok _=>False
  | .error e=>CX outer H s E e s'
structure FnOk (P:Program) (w:World) (K:PySem.W.Frag) (mg:Str→Option Value) (base:Heap) (CX:CXT) (k:Nat) (f:Addr) (fd:FuncData) (ps:List Str) (sp:Sp):Prop where
  len:∀ vs H Q E,sp vs H Q E→vs.length = ps.length
  run:∀ (A:Around) (outer:List Env) (s:Shared) (H:Hp) (args:Args) (us:List Value) (vs:List V) (Q:VK) (E:XK),Room k A→ug P w K mg base A outer s H→BindsTo s fd args (ps.zip us)→Vals vs us→sp vs H Q E →
    codeAny (model P w) A (.call (.ref f) args) (CR CX outer P w H s Q E) s
theorem FnOk.mono {P:Program} {w:World} {K:PySem.W.Frag} {mg:Str→Option Value} {base:Heap} {CX:CXT} {j k:Nat} {f:Addr} {fd:FuncData} {ps:List Str} {sp:Sp} (F:FnOk P w K mg base CX j f fd ps sp) (h:j ≤ k) :
    FnOk P w K mg base CX k f fd ps sp:=⟨F.len,fun A outer s H args us vs Q E hr=>F.run A outer s H args us vs Q E (hr.mono h)⟩
section
variable {X:Cx} {pins:List (Addr × Obj)} {σ:St} {H:Hp} {s s':Shared}
theorem Inv.env0 (I:Inv X pins σ H s):ug X.prog X.w X.K X.mg X.base X.A X.stack s H :=
  ⟨I.ok.frames,I.ok.mod,I.bs,Nat.le_trans I.ok.bsz I.sz,I.stack,I.stkFree,I.hok,I.bare⟩
theorem Inv.after {Q:VK} {u:Value} (I:Inv X pins σ H s) (h:CE X.stack X.prog X.w H s Q u s'):EP X pins σ Q u s':=by
  obtain ⟨v,H',os,bare,un,hok,r,q⟩:=h
  obtain ⟨hh,g,d,t,os'⟩:=s'
  obtain rfl:os' = s.os:=os
  exact ⟨v,H',I.call (h':=hh) (g':=g) (d':=d) (t':=t) (ch:=[]) un hok bare (fun b z=>absurd z (by simp)),r,q⟩
end
def fB (sp:Sp) (dvs:List V) (E:XK) (t:TA):TE:=fun σ H Q=>t σ H fun vs H1=>sp (vs ++ dvs) H1 Q E
def Binds (K:PySem.W.Frag) (fd:FuncData) (ps:List Str) (ds:List Value):Prop :=
  ∀ (s:Shared) (us:List Value),K.In s.heap→(us ++ ds).length = ps.length→BindsTo s fd ⟨us,[]⟩ (ps.zip (us ++ ds))
theorem Binds.all {K:PySem.W.Frag} {fd:FuncData} {ps:List Str} (h:∀ us:List Value,us.length = ps.length→bindArgs fd ⟨us,[]⟩ = pure (ps.zip us)):Binds K fd ps []:=fun s us _ hl=>by
  rw [List.append_nil] at hl ⊢
  exact .of_eq (h us hl)
def jV (CX:CXT) (X:Cx) (E:XK):Prop:=∀ (pins:List (Addr × Obj)) (σ:St) (H:Hp) (s:Shared) (e:Value) (s':Shared),Inv X pins σ H s→CX X.stack H s E e s'→X.xe e s'
section
variable {X:Cx} {CX:CXT} {k:Nat} {f C:Addr} {fd:FuncData} {ps:List Str} {sp:Sp} {dvs:List V} {ds:List Value} {E:XK} {x m:Str} {p pos apos:Pos} {e o:Expr} {es:List Expr} {ta:TE} {t:TA}
theorem xY {pins:List (Addr × Obj)} {σ:St} {H:Hp} {s:Shared} {Q:VK} {us:List Value} {vs:List V} (F:FnOk X.prog X.w X.K X.mg X.base CX k f fd ps sp) (hr:Room k X.A) (hb:Binds X.K fd ps ds) (hd:Vals dvs ds) (hx:jV CX X E)
    (I:Inv X pins σ H s) (r:Vals vs us) (h:sp (vs ++ dvs) H Q E):wpAny (model X.prog X.w) X.A (call (.ref f) us) (EP X pins σ Q) X.xe s:=by
  have r2:Vals (vs ++ dvs) (us ++ ds):=r.append hd
  have hl:(us ++ ds).length = ps.length:=by rw [← r2.length]; exact F.len _ _ _ _ h
  refine wpAny_call (codeAny_mono (F.run X.A X.stack s H ⟨us,[]⟩ (us ++ ds) (vs ++ dvs) Q E hr I.env0 (hb s us I.kIn hl) r2 h) fun r s' hq=>?_)
  cases r with
  | error e=>exact hx pins σ H s e s' I hq
  | ok fl =>
    cases fl with
    | ret u=>exact I.after hq
    | next=>exact False.elim hq
    | brk=>exact False.elim hq
    | cont=>exact False.elim hq
theorem aF (F:FnOk X.prog X.w X.K X.mg X.base CX k f fd ps sp) (hr:Room k X.A) (hg:Gl X x) (hm:X.mg x = some (.ref f)) (hk:PySem.W.keepIn X.K (.ref f) = true) (hb:Binds X.K fd ps ds) (hd:Vals dvs ds) (hx:jV CX X E)
    (ha:PA X (e :: es) t) (hdb:(x == ("__debug__":Str)) = false:=by decide) (he:starEach (e :: es) X.env = (false,eval e X.env) :: starEach es X.env:=by rfl) (hpl:(backTo pos (starEach es X.env)).any (·.1) = false:=by rfl) :
    PE X (.Call (.Name x p) (e :: es) [] pos) (fB sp dvs E t):=by
  intro pins s σ H Q I h
  refine wpAny_Call_Name_kw (hE I hg hm ?_ hdb)
  refine PySem.W.callWith_K (h₀:=X.base) I.ok.mod.kin hk (thn (ha pos pins s σ H _ I h) fun us s1 ⟨vs,H1,I1,r,q⟩=>⟨I1.kIn,?_⟩) he hpl
  exact xY F hr hb hd hx I1 r q
theorem xo (F:FnOk X.prog X.w X.K X.mg X.base CX k f fd ps sp) (hr:Room k X.A) (hg:Gl X x) (hm:X.mg x = some (.ref f)) (hk:PySem.W.keepIn X.K (.ref f) = true) (hb:Binds X.K fd ps ds) (hd:Vals dvs ds) (hx:jV CX X E)
    (hdb:(x == ("__debug__":Str)) = false:=by decide):PE X (.Call (.Name x p) [] [] pos) (fB sp dvs E dt):=by
  intro pins s σ H Q I h
  refine wpAny_Call_Name_kw (hE I hg hm ?_ hdb)
  exact PySem.W.callWith_K0 I.kIn hk (xY (us:=[]) F hr hb hd hx I .nil h)
end
section
variable {X:Cx} {CX:CXT} {k:Nat} {f C:Addr} {fd:FuncData} {ps ks:List Str} {sp:Sp} {E:XK} {x m:Str} {p pos apos kpos:Pos} {e o:Expr} {es:List Expr} {kws:List Keyword} {te ta:TE} {t tk:TA} {nm:Option Str}
variable {g:List Value→List Value→List Value} {gV:List V→List V→List V}
end
structure ba (N P:List Str) (sc:Scope):Prop where
  kind:sc.kind = .function
  co:sc.isCoroutine = false
  gen:sc.isGenerator = false
  nd:N.Nodup
  pre:N.take P.length = P
  par:∀ x ∈ P,sc.names.lookup x = some .local∨sc.names.lookup x = some .cell
  nofree:∀ y ∈ sc.names,y.2 ≠ .free
theorem ng {kindOf:Str→Option NameKind} {x:Str}:∀ {binds:List (Str × Value)} {m:Str→Option Value},(∀ v,(x,v) ∉ binds)→bindL kindOf binds m x = m x
  | [],_,_=>rfl
  | (n,v) :: r,m,h=>by
    unfold bindL
    rw [ng fun w hw=>h w (List.mem_cons_of_mem _ hw)]
    split
    · have:x ≠ n:=by rintro rfl; exact h v List.mem_cons_self
      simp [this]
    · rfl
theorem m9 {kindOf:Str→Option NameKind} {x:Str}:∀ {binds:List (Str × Value)} {m:Str→Option Value},(∀ v,(x,v) ∉ binds)→bindC kindOf binds m x = m x
  | [],_,_=>rfl
  | (n,v) :: r,m,h=>by
    unfold bindC
    rw [m9 fun w hw=>h w (List.mem_cons_of_mem _ hw)]
    split
    · rfl
    · have:x ≠ n:=by rintro rfl; exact h v List.mem_cons_self
      simp [this]
theorem nc {kindOf:Str→Option NameKind} {x:Str} {v:Value}:∀ {P:List Str} {vs:List Value} {i:Nat} {m:Str→Option Value},P.Nodup→P[i]? = some x→vs[i]? = some v→kindOf x = some .local →
    bindL kindOf (P.zip vs) m x = some v
  | [],_,_,_,_,h,_,_=>by simp at h
  | _ :: _,[],_,_,_,_,h,_=>by simp at h
  | p :: P,w :: vs,0,m,nd,h1,h2,hk=>by
    simp at h1 h2; subst h1; subst h2
    show bindL kindOf ((p,w) :: P.zip vs) m p = _
    unfold bindL
    rw [ng fun v hv=>(List.nodup_cons.mp nd).1 (List.of_mem_zip hv).1,if_pos hk]
    simp
  | p :: P,w :: vs,i + 1,m,nd,h1,h2,hk=>by
    show bindL kindOf ((p,w) :: P.zip vs) m x = _
    unfold bindL
    exact nc (i:=i) (List.nodup_cons.mp nd).2 (by simpa using h1) (by simpa using h2) hk
theorem m8 {kindOf:Str→Option NameKind} {x:Str} {v:Value}:∀ {P:List Str} {vs:List Value} {i:Nat} {m:Str→Option Value},P.Nodup→P[i]? = some x→vs[i]? = some v→kindOf x ≠ some .local →
    bindC kindOf (P.zip vs) m x = some v
  | [],_,_,_,_,h,_,_=>by simp at h
  | _ :: _,[],_,_,_,_,h,_=>by simp at h
  | p :: P,w :: vs,0,m,nd,h1,h2,hk=>by
    simp at h1 h2; subst h1; subst h2
    show bindC kindOf ((p,w) :: P.zip vs) m p = _
    unfold bindC
    rw [m9 fun v hv=>(List.nodup_cons.mp nd).1 (List.of_mem_zip hv).1,if_neg hk]
    simp
  | p :: P,w :: vs,i + 1,m,nd,h1,h2,hk=>by
    show bindC kindOf ((p,w) :: P.zip vs) m x = _
    unfold bindC
    exact m8 (i:=i) (List.nodup_cons.mp nd).2 (by simpa using h1) (by simpa using h2) hk
def cX (N:List Str) (vs:List V):St:=vs.map some ++ List.replicate (N.length - vs.length) none
def jx (CX:CXT) (P:Program) (w:World) (K:PySem.W.Frag) (mg:Str→Option Value) (base:Heap) (N:List Str) (qual:Str) (scope:Scope) (f:Addr) (cd:Value) (A:Around) (outer:List Env) (s:Shared) (H:Hp) (E:XK):Cx where
  prog:=P
  w:=w
  K:=K
  mg:=mg
  base:=base
  A:=A.deeper (envOfC qual scope s.heap.objs.size f cd)
  N:=N
  s₀:=s
  H₀:=H
  env:=envOfC qual scope s.heap.objs.size f cd
  outer:=outer
  stack:=envOfC qual scope s.heap.objs.size f cd :: outer
  ex:=[]
  calm:=true
  fn:=fun _=>true
  pn:=[]
  xe:=fun e s'=>wpAny (model P w) (A.deeper (envOfC qual scope s.heap.objs.size f cd)) (leaving (envOfC qual scope s.heap.objs.size f cd) e) (fun _ s''=>CX outer H s E e s'') (fun e' s''=>CX outer H s E e' s'') s'
theorem pV {sc:Scope} {n:Nat} {x:Str} (h:sc.names.lookup x = some .cell):∃ c,(cellsFrom n sc.names []).lookup x = some c:=by
  have q:=PySem.W.cellsFrom_some sc.names n [] (.inl h)
  exact Option.isSome_iff_exists.mp q
theorem nD {CX:CXT} {P:Program} {w:World} {K:PySem.W.Frag} {mg:Str→Option Value} {base:Heap} {N ps:List Str} {qual:Str} {scope:Scope} {f:Addr} {cd:Value} {A:Around} {outer:List Env} {s s1:Shared} {H:Hp} {E:XK} {us:List Value} {vs:List V}
    (S:ba N ps scope) (hd:A.handled = none) (e0:ug P w K mg base A outer s H) (hl:vs.length = ps.length) (r:Vals vs us)
    (x:InCallC s s.heap.objs.size (bindL (envOfC qual scope s.heap.objs.size f cd).kindOf (ps.zip us) fun _=>none) (cellsFrom (s.heap.objs.size + 1) scope.names []) (bindC (envOfC qual scope s.heap.objs.size f cd).kindOf (ps.zip us) fun _=>none) s1) :
    Inv (jx CX P w K mg base N qual scope f cd A outer s H E) [] (cX N vs) H s1:=by
  have hpl:ps.length ≤ N.length:=by have:=congrArg List.length S.pre; rw [List.length_take] at this; omega
  obtain ⟨h1,tk,rfl,hk⟩:=x.done
  have noA:∀ b:Addr,b ∉ (jx CX P w K mg base N qual scope f cd A outer s H E).ex:=fun b z=>absurd (show b ∈ ([]:List Addr) from z) (by simp)
  refine ⟨⟨e0.mod,S.kind,rfl,rfl,Nat.le_refl _,fun y z c h1 h2=>?_,fun y hy=>?_,fun y c _ h=>?_,fun _=>hd,Around.frames_deeper e0.frames,.inr ⟨rfl,rfl⟩,fun b z=>absurd z (noA b),e0.bs,e0.bsz,fun b _ _=>noA b,fun b z=>absurd z (noA b),e0.funs,e0.frf⟩,
    rfl,e0.bare,Un.kept hk,⟨_,x.toInCall.ns,fun i y v h1 h2 h3=>?_⟩,fun y c h=>⟨_,x.cell y c h⟩,e0.hok.fresh (Nat.le_refl _),fun y c h=>?_,fun p hp=>absurd (show p ∈ ([]:List (Addr × Obj)) from hp) (by simp),e0.hok.kept hk,?_⟩
  · exact name_of_addr x.apart (PySem.mem_of_lookup h1) (PySem.mem_of_lookup h2)
  · have hy:scope.names.lookup y = some .cell∨scope.names.lookup y = some .free:=hy
    rcases hy with hy | hy
    · exact pV hy
    · exact absurd rfl (S.nofree _ (PySem.mem_of_lookup hy))
  · exact Nat.le_of_lt (x.above y c (PySem.mem_of_lookup h))
  · have hi:i < vs.length:=by
      unfold cX at h2
      by_cases hi:i < vs.length
      · exact hi
      · rw [List.getElem?_append_right (by simpa using hi)] at h2
        rw [List.getElem?_replicate] at h2
        split at h2 <;> cases h2
    have ha:vs[i]? = some v:=by
      unfold cX at h2
      rw [List.getElem?_append_left (by simpa using hi),List.getElem?_map] at h2
      cases e:vs[i]? with
      | none=>rw [e] at h2; cases h2
      | some a=>rw [e] at h2; cases h2; rfl
    obtain ⟨u,hu,rv⟩:=r.get ha
    have hp:ps[i]? = some y:=by
      rw [← S.pre,List.getElem?_take_of_lt (by omega)]; exact h1
    have ndP:ps.Nodup:=by rw [← S.pre]; exact S.nd.sublist (List.take_sublist _ _)
    refine ⟨u,rv,?_⟩
    rcases S.par y (List.mem_of_getElem? hp) with k | k
    · exact .inl ⟨k,nc ndP hp hu k⟩
    · obtain ⟨c,e⟩:=pV (n:=s.heap.objs.size + 1) k
      refine .inr ⟨.inl k,c,e,?_⟩
      have q:=x.cell y c e
      rw [m8 ndP hp hu (by show scope.names.lookup y ≠ _; rw [k]; decide)] at q
      exact q
  · exact e0.hok.fresh (Nat.le_of_lt (x.above y c (PySem.mem_of_lookup h)))
  · unfold cX
    show _ = N.length
    rw [List.length_append,List.length_map,List.length_replicate]
    omega
theorem zR {CX:CXT} {P:Program} {w:World} {K:PySem.W.Frag} {mg:Str→Option Value} {base:Heap} {k:Nat} {f:Addr} {name qual:Str} {params:Arguments} {body:List Stmt} {scope:Scope} {dV kV doc pm cdv ct oc:Value} {an od:Option Addr}
    {osl:Array (Option Value)} {N ps:List Str} {sp:Sp} (lk:K.lookup f = some ⟨oc,od,.func (PySem.W.fnOf name qual params body scope dV kV doc pm an cdv ct),osl⟩) (hcd:PySem.W.codeIn K cdv qual = true) (S:ba N ps scope)
    (len:∀ vs H Q E,sp vs H Q E→vs.length = ps.length)
    (hbody:∀ (A:Around) (outer:List Env) (s:Shared) (H:Hp) (vs:List V) (Q:VK) (E:XK),Room k (A.deeper (envOfC qual scope s.heap.objs.size f cdv))→sp vs H Q E →
      ∃ t,PSs (jx CX P w K mg base N qual scope f cdv A outer s H E) body t∧t { nx:=fun _ H'=>Q .non H',rt:=Q } (cX N vs) H) :
    FnOk P w K mg base CX (k + 1) f (PySem.W.fnOf name qual params body scope dV kV doc pm an cdv ct) ps sp:=by
  refine ⟨len,fun A outer s H args us vs Q E hr e0 hb r hsp=>?_⟩
  have hl:=len _ _ _ _ hsp
  have KX:K.In s.heap:=e0.mod.kin.keeps fun b o e=>(e0.bs b o e).1
  have lim:s.heap.NoLimit:=e0.mod.nolimit.keeps fun b o e=>(e0.bs b o e).1
  have hkind:∀ y ∈ ps.zip us,scope.names.lookup y.1 = some .local∨(scope.names.lookup y.1 = some .cell∧((cellsFrom (s.heap.objs.size + 1) scope.names []).lookup y.1).isSome = true):=fun ⟨n,v⟩ hy=>by
    rcases S.par n (List.of_mem_zip hy).1 with q | q
    · exact .inl q
    · exact .inr ⟨q,PySem.W.cellsFrom_some _ _ _ (.inl q)⟩
  refine codeAny_call_function hr.depth (KX _ _ lk) rfl S.co S.gen rfl (PySem.W.codeRec_of KX hcd) (hb _ _ _ _ ?_)
  refine wpAny_newFunctionEnv_cells S.kind hkind fun env he s1 x=>?_
  subst he
  refine ⟨lim.keeps x.toInCall.keep,codeAny_func ?_⟩
  obtain ⟨t,ht,hq⟩:=hbody A outer s H vs Q E (hr.deeper _) hsp
  have I:Inv (jx CX P w K mg base N qual scope f cdv A outer s H E) [] (cX N vs) H s1:=nD S hr.hd e0 hl r x
  refine wpAny_mono (ht [] s1 (cX N vs) H _ I hq) (fun fl s' hs=>?_) fun e s' hs=>hs
  have fin:∀ {σ':St} {H':Hp} {v:V} {u:Value},Inv (jx CX P w K mg base N qual scope f cdv A outer s H E) [] σ' H' s'→RelV v u→Q v H'→CE outer P w H s Q u s' :=
    fun {σ' H' v u} J rv q=>⟨v,H',J.os,J.bare,J.base,J.hok,rv,q⟩
  cases fl with
  | ret u =>
    obtain ⟨v,σ',H',J,rv,q⟩:=hs
    exact fin J rv q
  | next =>
    obtain ⟨σ',H',J,q⟩:=hs
    exact fin (v:=V.non) (u:=Value.none) J rfl q
  | brk =>
    obtain ⟨_,_,_,q⟩:=hs
    exact False.elim q
  | cont =>
    obtain ⟨_,_,_,q⟩:=hs
    exact False.elim q
end L2
namespace L2
open PySem PySem.Spec PyProof.Rows
section
variable {X:Cx} {x:Str} {p pos:Pos} {e:Expr} {es:List Expr} {t:TA} {id T:String} {r:List V→Hp→VK→Prop}
def tCB (r:List V→Hp→VK→Prop) (t:TA):TE:=fun σ H Q=>t σ H fun vs H1=>r vs H1 Q
theorem aH (hc:gz X (.builtin id) r) (hg:Gl X x) (hm:X.mg x = none) (hv:bootBuiltins x = some (.builtin id)) (ha:PA X (e :: es) t) (hn:x ≠ "__name__":=by decide) (hdb:(x == ("__debug__":Str)) = false:=by decide)
    (he:starEach (e :: es) X.env = (false,eval e X.env) :: starEach es X.env:=by rfl) (hpl:(backTo pos (starEach es X.env)).any (·.1) = false:=by rfl):PE X (.Call (.Name x p) (e :: es) [] pos) (tCB r t):=by
  intro pins s σ H Q I h
  refine wpAny_Call_Name_kw (kg I hg hm hv ?_ hn hdb)
  exact PyProof.Rows.callWith_builtin1 (thn (ha pos pins s σ H _ I h) fun us s1 ⟨vs,H1,I1,r1,q1⟩=>hc pins s1 σ H1 vs us Q I1 r1 q1) he hpl
theorem cM (hc:gz X (.type T) r) (hg:Gl X x) (hm:X.mg x = none) (hv:bootBuiltins x = some (.type T)) (ha:PA X (e :: es) t) (hn:x ≠ "__name__":=by decide) (hdb:(x == ("__debug__":Str)) = false:=by decide)
    (he:starEach (e :: es) X.env = (false,eval e X.env) :: starEach es X.env:=by rfl) (hpl:(backTo pos (starEach es X.env)).any (·.1) = false:=by rfl):PE X (.Call (.Name x p) (e :: es) [] pos) (tCB r t):=by
  intro pins s σ H Q I h
  refine wpAny_Call_Name_kw (kg I hg hm hv ?_ hn hdb)
  exact PyProof.Rows.callWith_type1 (thn (ha pos pins s σ H _ I h) fun us s1 ⟨vs,H1,I1,r1,q1⟩=>hc pins s1 σ H1 vs us Q I1 r1 q1) he hpl
end
end L2
namespace HT
open PySem PyProof.Rows
section
open PySem.SeqAt
open PySem.AutoSeq1 (wpAny_loadPart')
open PySem.MeetsSeq PySem.MeetsSeq2 PySem.MeetsSeq3
end
section
variable {prog:Program} {w:World} {A:Around} {E:Value→Shared→Prop} {s:Shared}
theorem cat_tup {t b:Addr} {vs ws:List Value} {Q:Value→Shared→Prop} (ht:IsTup s.heap t vs.toArray) (hb:IsTup s.heap b ws.toArray) (hv:vs ≠ [])
    (h1:ws = []→Q (.ref t) s) (h2:ws ≠ []→Q (.ref s.heap.objs.size) { s with heap:=s.heap.push { cls:=.type "tuple",data:=.seq (vs ++ ws).toArray } })
    (hsz:vs.length + ws.length ≤ sizeLine):wpAny (model prog w) A (binaryOp .Add (.ref t) (.ref b)) Q E s:=by
  obtain ⟨⟨cls,dd,data,sl⟩,ho,hc,n,hd⟩:=id ht
  obtain ⟨⟨cls2,dd2,data2,sl2⟩,ho2,hc2,n2,hd2⟩:=id hb
  simp only at hc hd hc2 hd2
  subst hc hd hc2 hd2
  have e:vs.toArray ++ ws.toArray = (vs ++ ws).toArray:=by simp
  by_cases hw:ws = []
  · exact concat_meets ⟨_,ho,rfl⟩ ⟨_,ho2,rfl⟩ noFill_tuple_add seq_tuple_add PySem.F.slot_tuple_add PySem.F.entry_tuple_add (PySem.F.args_tuple_add_2 _ _)
      (tuple_addW1 t b vs.toArray ws.toArray n n2 dd dd2 sl sl2 (by simpa using hv) (by simp [hw])) ⟨ho,ho2,h1 hw⟩
  · refine concat_meets ⟨_,ho,rfl⟩ ⟨_,ho2,rfl⟩ noFill_tuple_add seq_tuple_add PySem.F.slot_tuple_add PySem.F.entry_tuple_add (PySem.F.args_tuple_add_2 _ _)
      (tuple_addW2 t b vs.toArray ws.toArray n n2 dd dd2 sl sl2 (by simpa using hv) (by simpa using hw) (by rw [List.size_toArray,List.size_toArray]; exact hsz)) ⟨ho,ho2,?_⟩
    rw [e]
    exact h2 hw
def sIx (n d:Nat):Option Int→Nat
  | none=>d
  | some v=>if v < 0 then (v + (n:Int)).toNat else min v.toNat n
theorem sIx_none (n d:Nat):sIx n d none = d:=rfl
theorem sIx_nat (n d k:Nat):sIx n d (some (k:Int)) = min k n:=by
  show (if (k:Int) < 0 then ((k:Int) + (n:Int)).toNat else min (k:Int).toNat n) = min k n
  rw [if_neg (by omega),Int.toNat_natCast]
theorem Bk (n d:Nat) (hd:d ≤ n) (o:Option Int):sIx n d o ≤ n:=by
  cases o with
  | none=>exact hd
  | some v =>
    show (if v < 0 then (v + (n:Int)).toNat else min v.toNat n) ≤ n
    by_cases hv:v < 0
    · rw [if_pos hv]; omega
    · rw [if_neg hv]; exact Nat.min_le_right _ _
theorem sW (v:Int) (n d:Nat):(if v < 0 then max (v + (n:Int)) 0 else min v (n:Int)) = ((sIx n d (some v):Nat):Int):=by
  show (if v < 0 then max (v + (n:Int)) 0 else min v (n:Int)) = (((if v < 0 then (v + (n:Int)).toNat else min v.toNat n):Nat):Int)
  by_cases hv:v < 0
  · simp only [if_pos hv]; omega
  · simp only [if_neg hv]; omega
theorem rH (lo hi:Option Int) (n:Nat):Builtin.Slice.sliceAdjust lo hi 1 (n:Int) = (((sIx n 0 lo:Nat):Int),((sIx n n hi:Nat):Int)):=by
  have h1:¬ ((1:Int) < 0):=by omega
  unfold Builtin.Slice.sliceAdjust
  simp only [h1,if_false]
  refine Prod.ext ?_ ?_
  · cases lo with
    | none=>rfl
    | some v=>exact sW v n 0
  · cases hi with
    | none=>rfl
    | some v=>exact sW v n n
theorem sr (i j:Nat):Builtin.Slice.slicePlaces (i:Int) (j:Int) 1 = j - i:=by
  unfold Builtin.Slice.slicePlaces
  have h1:(1:Int) > 0:=by omega
  simp only [h1,if_true,Int.ediv_one]
  split <;> omega
theorem mF {v:Value} {o:Option Int} {Q:Option Int→Shared→Prop} (p:IsPart v o) (h:Q o s):wpAny (model prog w) A (Builtin.Slice.slicePartIndex v) Q E s:=by
  cases p with
  | none=>exact slicePart_none h
  | int i t=>exact slicePart_int h
theorem sliceApplied_gen {sl:Addr} {vl vu:Value} {lo hi:Option Int} {n:Nat} {Q:Int × Int × Nat→Shared→Prop} (hs:s.heap.IsSliceOf sl vl vu .none) (pl:IsPart vl lo) (pu:IsPart vu hi)
    (h:Q (((sIx n 0 lo:Nat):Int),1,sIx n n hi - sIx n 0 lo) s):wpAny (model prog w) A (Builtin.Slice.sliceApplied (.ref sl) (pure (n:Int))) Q E s:=by
  obtain ⟨os,hos,hcs,hds⟩:=id hs
  unfold Builtin.Slice.sliceApplied Builtin.Slice.sliceFields
  refine wpAny_bind (wpAny_bind (wpAny_field hos hds (x:=vl) rfl (wpAny_bind (wpAny_field hos hds (x:=vu) rfl (wpAny_bind (wpAny_field hos hds (x:=.none) rfl (wpAny_pure ?_)))))))
  refine wpAny_bind (slicePart_none ?_)
  show wpAny _ _ (if ((1:Int) == 0) = true then _ else _) _ _ s
  rw [if_neg (by decide)]
  refine wpAny_bind (mF pl (wpAny_bind (mF pu (wpAny_bind (wpAny_pure ?_)))))
  show wpAny _ _ (match Builtin.Slice.sliceAdjust lo hi 1 (n:Int) with | (lo,hi)=>pure (lo,(1:Int),Builtin.Slice.slicePlaces lo hi 1)) _ _ s
  rw [rH lo hi n]
  show wpAny _ _ (pure (((sIx n 0 lo:Nat):Int),(1:Int),Builtin.Slice.slicePlaces ((sIx n 0 lo:Nat):Int) ((sIx n n hi:Nat):Int) 1)) _ _ s
  rw [sr]
  exact wpAny_pure h
theorem xy (xs:Array Value) (i k:Nat):((List.range k).filterMap fun (m:Nat)=>xs[((i:Int) + (m:Int) * 1).toNat]?).toArray = ((xs.toList.drop i).take k).toArray:=by
  have e:(fun (m:Nat)=>xs[((i:Int) + (m:Int) * 1).toNat]?) = fun m=>xs[i + m]?:=by
    funext m
    have:((i:Int) + (m:Int) * 1).toNat = i + m:=by omega
    rw [this]
  rw [e]
  have:=pick_run xs i k
  rw [List.filterMap_map] at this
  have e2:((fun x=>xs[x]?) ∘ fun x=>i + x) = fun m=>xs[i + m]?:=rfl
  rw [e2] at this
  rw [this]
theorem getItem_tuple_cut {t sl:Addr} {items:Array Value} {vl vu:Value} {lo hi:Option Int} {Q:Value→Shared→Prop} (ht:IsTup s.heap t items) (hs:s.heap.IsSliceOf sl vl vu .none) (pl:IsPart vl lo) (pu:IsPart vu hi)
    (hw:¬ (sIx items.size 0 lo = 0∧sIx items.size items.size hi = items.size))
    (h:Q (.ref s.heap.objs.size) { s with heap:=s.heap.push { cls:=.type "tuple",data:=.seq ((items.toList.drop (sIx items.size 0 lo)).take (sIx items.size items.size hi - sIx items.size 0 lo)).toArray } })
    (hsz:items.size ≤ sizeLine):wpAny (model prog w) A (getItem (.ref t) (.ref sl)) Q E s:=by
  have htake:sizeOk (.seq ((items.toList.drop (sIx items.size 0 lo)).take (sIx items.size items.size hi - sIx items.size 0 lo)).toArray):=by
    show ((items.toList.drop (sIx items.size 0 lo)).take (sIx items.size items.size hi - sIx items.size 0 lo)).toArray.size ≤ sizeLine
    rw [List.size_toArray,List.length_take,List.length_drop,Array.length_toList]
    omega
  have hj:sIx items.size items.size hi ≤ items.size:=Bk _ _ (Nat.le_refl _) hi
  obtain ⟨os,hos,hcs,hds⟩:=id hs
  have hTs:s.TypeIs (.ref sl) "slice":=⟨os,hos,hcs⟩
  unfold getItem
  try with_reducible refine wpAny_holding ?_
  first | refine wpAny_bind (wpAny_pure ?_) | skip
  refine wpAny_bind (wpAny_sequenceKey ht.typeIs (by decide) ?_)
  refine wpAny_bind (wpAny_callSpecial?_slot (name:=Str.ofString "__getitem__") ht.typeIs PyProof.Rows.slot_tuple_getitem
    (wpAny_call_entry PyProof.Rows.slot_tuple_getitem ht.typeIs entry_tuple_getitem ?_ (args_tuple_getitem _ _)))
  show wpAny _ _ (Builtin.Tuple.tupleItemsOf (.ref t) >>= _) _ _ s
  refine wpAny_bind (tupleItemsOf_ ht ?_)
  refine wpAny_bind (wpAny_typeOf hTs ?_)
  rw [if_pos (by decide)]
  refine wpAny_bind (sliceApplied_gen hs pl pu ?_)
  have hno:¬ ((((sIx items.size 0 lo:Nat):Int) == 0 && (1:Int) == 1 && (sIx items.size items.size hi - sIx items.size 0 lo) == items.size) = true):=by
    intro q
    rw [Bool.and_eq_true,Bool.and_eq_true] at q
    have q1:((sIx items.size 0 lo:Nat):Int) = 0:=eq_of_beq q.1.1
    have q2:sIx items.size items.size hi - sIx items.size 0 lo = items.size:=eq_of_beq q.2
    exact hw ⟨by omega,by omega⟩
  show wpAny _ _ (if (((sIx items.size 0 lo:Nat):Int) == 0 && (1:Int) == 1 && (sIx items.size items.size hi - sIx items.size 0 lo) == items.size) = true then _ else _) _ _ s
  rw [if_neg hno,xy]
  first
    | exact wpAny_bind (m:=Builtin.Tuple.tupleExact _) (wpAny_newObj_type (wpAny_pure ⟨_,rfl,wpAny_pure h⟩) htake)
    | exact wpAny_bind (m:=Builtin.Tuple.tupleExact _) (wpAny_newObj_type (wpAny_bind (wpAny_pure (wpAny_pure ⟨_,rfl,wpAny_pure h⟩))) htake)
    | exact wpAny_bind (wpAny_bind (m:=Builtin.Tuple.tupleExact _) (wpAny_newObj_type (wpAny_pure (wpAny_pure ⟨_,rfl,wpAny_pure h⟩)) htake))
    | exact wpAny_bind (wpAny_bind (m:=Builtin.Tuple.tupleExact _) (wpAny_newObj_type (wpAny_pure ⟨_,rfl,wpAny_pure h⟩) htake))
end
end HT
namespace L2
open PySem PySem.Spec PyProof.Rows
abbrev TO:=St→Hp→(Option Int→Hp→Prop)→Prop
def PO (X:Cx) (e:Option Expr) (t:TO):Prop :=
  ∀ (pins:List (Addr × Obj)) (s:Shared) (σ:St) (H:Hp) (Q:Option Int→Hp→Prop),Inv X pins σ H s→t σ H Q →
    wpAny (model X.prog X.w) X.A (evalPart e X.env) (fun u s'=>∃ o H',Inv X pins σ H' s'∧IsPart u o∧Q o H') X.xe s
def iU:TO:=fun _ H Q=>Q none H
def jS (t:TE):TO:=fun σ H Q=>t σ H fun x H1=>∃ i,x = .int i∧Q (some i) H1
section
variable {X:Cx} {e:Expr} {te:TE} {lo hi:Option Expr} {tl th:TO} {pos p2:Pos}
theorem fZ:PO X none iU:=by
  intro pins s σ H Q I h
  rw [evalPart_none]
  exact wpAny_pure ⟨none,H,I,.none,h⟩
theorem eE (h:PE X e te):PO X (some e) (jS te):=by
  intro pins s σ H Q I hw
  rw [evalPart_some]
  refine thn (h pins s σ H _ I hw) fun u s1 ⟨x,H1,I1,r1,q1⟩=>?_
  obtain ⟨i,rfl,q⟩:=q1
  obtain ⟨t,rfl⟩:=r1
  exact ⟨some i,H1,I1,.int i t,q⟩
def SlR (X:Cx) (r:V→Option Int→Option Int→Hp→VK→Prop):Prop :=
  ∀ (pins:List (Addr × Obj)) (s:Shared) (σ:St) (H:Hp) (x:V) (v vl vu:Value) (lo hi:Option Int) (sl:Addr) (Q:VK),Inv X pins σ H s→RelV x v→s.heap.IsSliceOf sl vl vu .none→IsPart vl lo→IsPart vu hi→r x lo hi H Q →
    ∃ T id,typeLookup (.type T) "__getitem__" = pure (some (.builtin id))∧s.TypeIs v T∧wpAny (model X.prog X.w) X.A (getItem v (.ref sl)) (EP X pins σ Q) X.xe s
def tSl (r:V→Option Int→Option Int→Hp→VK→Prop) (te:TE) (tl th:TO):TE:=fun σ H Q=>te σ H fun x H1=>tl σ H1 fun l H2=>th σ H2 fun u H3=>r x l u H3 Q
theorem eA {r:V→Option Int→Option Int→Hp→VK→Prop} (hr:SlR X r) (he:PE X e te) (hl:PO X lo tl) (hu:PO X hi th):PE X (.Subscript e (.Slice lo hi none p2) pos) (tSl r te tl th):=by
  intro pins s σ H Q I h
  refine Subscript_ (thn (he pins s σ H _ I h) fun v s1 ⟨x,H1,I1,r1,q1⟩=>?_)
  refine wpAny_Slice (thn (hl pins s1 σ H1 _ I1 q1) fun vl s2 ⟨l,H2,I2,pl,q2⟩=>thn (hu pins s2 σ H2 _ I2 q2) fun vu s3 ⟨u,H3,I3,pu,q3⟩=>?_)
  rw [evalPart_none]
  refine wpAny_pure ?_
  have I4:Inv X pins σ H3 { s3 with heap:=s3.heap.push { cls:=.type "slice",data:=.fields #[vl,vu,.none] } }:=I3.kept (t':=s3.toks) fun b ob q=>Heap.get?_push_of_some _ q
  obtain ⟨T,id,hT,ht,hg⟩:=hr pins { s3 with heap:=s3.heap.push { cls:=.type "slice",data:=.fields #[vl,vu,.none] } } σ H3 x v vl vu l u s3.heap.objs.size Q I4 r1 (Heap.IsSliceOf.new ..) pl pu q3
  show wpAny (model X.prog X.w) X.A (subscriptTail e (.Slice lo hi none p2) v (.ref s3.heap.objs.size)) (EP X pins σ Q) X.xe { s3 with heap:=s3.heap.push { cls:=.type "slice",data:=.fields #[vl,vu,.none] } }
  exact tail_any (ops:=[.ref s3.heap.objs.size,v]) ht hT hg (by with_unfolding_all rfl)
def iX (xs:List V) (lo hi:Option Int):List V:=(xs.drop (HT.sIx xs.length 0 lo)).take (HT.sIx xs.length xs.length hi - HT.sIx xs.length 0 lo)
theorem pZ (xs:List V) (lo hi:Option Int):(iX xs lo hi).length ≤ xs.length:=by
  unfold iX
  rw [List.length_take,List.length_drop]
  omega
def A7 (K:PySem.W.Frag):V→Option Int→Option Int→Hp→VK→Prop:=fun x lo hi H Q=>∃ a xs,x = .ref a∧SqT K H a xs ∧
  ¬ (HT.sIx xs.length 0 lo = 0∧HT.sIx xs.length xs.length hi = xs.length)∧∀ p,H p = none→Q (.ref p) (upd H p (.tup (iX xs lo hi)))
theorem ji:SlR X (A7 X.K):=by
  intro pins s σ H x v vl vu lo hi sl Q I rx hs pl pu h
  obtain ⟨a,xs,rfl,hx,hw,q⟩:=h
  cases rx
  obtain ⟨its,r,ht,hz⟩:=I.tuple hx
  have hlen:its.toArray.size = xs.length:=by rw [List.size_toArray]; exact r.length.symm
  refine ⟨"tuple",_,PyProof.Rows.slot_tuple_getitem.lookup,ht.typeIs,?_⟩
  refine HT.getItem_tuple_cut ht hs pl pu (by rw [hlen]; exact hw) ?_ (by rw [hlen]; exact hz)
  rw [hlen]
  refine ⟨.ref s.heap.objs.size,_,I.laid (t':=s.toks) (o:=.tup (iX xs lo hi)) (fun b ob q=>Heap.get?_push_of_some _ q) (Nat.le_refl _) ?_,rfl,q _ (I.hok.fresh (Nat.le_refl _))⟩
  exact ⟨Nat.le_trans (pZ xs lo hi) hz,_,(r.drop (HT.sIx xs.length 0 lo)).take (HT.sIx xs.length xs.length hi - HT.sIx xs.length 0 lo),IsTup.new _ _⟩
def zZ (K:PySem.W.Frag):R2:=fun x y H Q=>∃ a b xs ys,x = .ref a∧y = .ref b∧SqT K H a xs∧SqT K H b ys∧xs ≠ []∧xs.length + ys.length ≤ sizeLine ∧
  (ys = []→Q (.ref a) H)∧(ys ≠ []→∀ p,H p = none→Q (.ref p) (upd H p (.tup (xs ++ ys))))
theorem Vals.nil_iff {xs:List V} {us:List Value} (r:Vals xs us):us = []↔xs = []:=by
  cases r with
  | nil=>simp
  | cons _ _=>simp
theorem tQ:OpR X (binaryOp .Add) (zZ X.K):=by
  intro pins s σ H x y v u Q I rx ry h
  obtain ⟨a,b,xs,ys,rfl,rfl,ha,hb,hx,hz,q1,q2⟩:=h
  cases rx
  cases ry
  obtain ⟨its,r1,p1,_⟩:=I.tuple ha
  obtain ⟨its2,r2,p2,_⟩:=I.tuple hb
  refine HT.cat_tup p1 p2 (fun z=>hx (r1.nil_iff.mp z)) (fun z=>⟨.ref a,H,I,rfl,q1 (r2.nil_iff.mp z)⟩) (fun z=>?_) (by rw [← r1.length,← r2.length]; exact hz)
  refine ⟨.ref s.heap.objs.size,_,I.laid (t':=s.toks) (o:=.tup (xs ++ ys)) (fun b ob q=>Heap.get?_push_of_some _ q) (Nat.le_refl _) ?_,rfl,q2 (fun w=>z (r2.nil_iff.mpr w)) _ (I.hok.fresh (Nat.le_refl _))⟩
  exact ⟨by rw [List.length_append]; exact hz,_,r1.append r2,IsTup.new _ _⟩
end
end L2
namespace L2
open PySem PySem.Spec PyProof.Rows
def ixN (n:Nat) (i:Int):Option Nat:=if 0 ≤ i then (if i < n then some i.toNat else none) else if -(n:Int) ≤ i then some (i + n).toNat else none
def atI {α:Type} (xs:List α) (i:Int):Option α:=(ixN xs.length i).bind fun j=>xs[j]?
theorem tM {n:Nat} {i:Int} {j:Nat} (h:ixN n i = some j):seqIndex? i n = some j∧j < n∧-(n:Int) ≤ i∧i < n:=by
  unfold ixN at h
  by_cases h0:0 ≤ i
  · rw [if_pos h0] at h
    by_cases h1:i < n
    · rw [if_pos h1] at h
      have e:i.toNat = j:=Option.some.inj h
      exact ⟨by rw [seqIndex_of h0 h1,e],by omega,by omega,h1⟩
    · rw [if_neg h1] at h; cases h
  · rw [if_neg h0] at h
    by_cases h1:-(n:Int) ≤ i
    · rw [if_pos h1] at h
      have e:(i + n).toNat = j:=Option.some.inj h
      exact ⟨by rw [seqIndex_neg (by omega) h1,e],by omega,h1,by omega⟩
    · rw [if_neg h1] at h; cases h
theorem sS {α:Type} {xs:List α} {i:Int} {v:α} (h:atI xs i = some v):∃ j,seqIndex? i xs.length = some j∧xs[j]? = some v∧j < xs.length∧-(xs.length:Int) ≤ i∧i < xs.length:=by
  unfold atI at h
  cases e:ixN xs.length i with
  | none=>rw [e] at h; cases h
  | some j =>
    rw [e] at h
    obtain ⟨h1,h2,h3,h4⟩:=tM e
    exact ⟨j,h1,h,h2,h3,h4⟩
theorem fD {α:Type} {xs:List α} {j:Nat} {v:α} (h:xs[j]? = some v):atI xs (j:Int) = some v:=by
  have hj:j < xs.length:=(List.getElem?_eq_some_iff.mp h).1
  have e:ixN xs.length (j:Int) = some j:=by
    unfold ixN
    rw [if_pos (by omega),if_pos (by omega)]; simp
  unfold atI; rw [e]; exact h
def yr (b:Expr):Prop:=∀ o i,subscripted b false o i = operate [o,i] (getItem o i)
def IxR (X:Cx) (r:R2):Prop :=
  ∀ (value slice:Expr) (pins:List (Addr × Obj)) (s:Shared) (σ:St) (H:Hp) (x y:V) (v u:Value) (Q:VK),Inv X pins σ H s→RelV x v→RelV y u→r x y H Q →
    subscripted slice false v u = operate [v,u] (getItem v u)→wpAny (model X.prog X.w) X.A (subscriptTail value slice v u) (EP X pins σ Q) X.xe s
def MtR (X:Cx) (id:String) (r:V→List V→Hp→VK→Prop):Prop :=
  ∀ (pins:List (Addr × Obj)) (s:Shared) (σ:St) (H:Hp) (x:V) (xs:List V) (v:Value) (us:List Value) (Q:VK),Inv X pins σ H s→RelV x v→Vals xs us→r x xs H Q →
    wpAny (model X.prog X.w) X.A (call (.builtin id) (v :: us)) (EP X pins σ Q) X.xe s
section
variable {X:Cx} {a b:Expr} {ta tb:TE} {pos:Pos}
theorem aG {r:R2} (hr:IxR X r) (ha:PE X a ta) (hb:PE X b tb) (hs:yr b):PE X (.Subscript a b pos) (tOp r ta tb):=by
  intro pins s σ H Q I h
  exact Subscript_ (AC ha hb I h fun v u s2 x y H2 I2 rx ry q=>hr a b pins s2 σ H2 x y v u Q I2 rx ry q (hs _ _))
def zm (K:PySem.W.Frag):R2:=fun x y H Q=>∃ p xs i v,x = .ref p∧y = .int i∧SqL K H p xs∧atI xs i = some v∧Q v H
def m5 (K:PySem.W.Frag):R2:=fun x y H Q=>∃ p xs i v,x = .ref p∧y = .int i∧SqT K H p xs∧atI xs i = some v∧Q v H
theorem bE:IxR X (zm X.K):=by
  intro value slice pins s σ H x y v u Q I rx ry h hs
  obtain ⟨p,xs,i,z,rfl,rfl,hq,he,q⟩:=h
  cases rx
  obtain ⟨t,rfl⟩:=ry
  obtain ⟨its,r,pl,hz⟩:=I.list hq
  obtain ⟨j,h1,h2,h3,h4,h5⟩:=sS he
  obtain ⟨w,ew,rw'⟩:=r.get h2
  have hl:=r.length
  have hn:=jd
  have fin:EP X pins σ Q w s:=⟨z,H,I,rw',q⟩
  by_cases h0:0 ≤ i
  · have hj:i.toNat = j:=by
      rw [seqIndex_of h0 h5] at h1
      exact Option.some.inj h1
    exact item_listR pl.isList h0 (by omega) (by rw [hj]; simpa using ew) fin hs
  · have hj:(i + (its.toArray.size:Int)).toNat = j:=by
      rw [seqIndex_neg (by omega) h4] at h1
      rw [List.size_toArray,← hl]
      exact Option.some.inj h1
    exact subscriptTail_builtinR (x:=w) pl.isList.typeIs slot_list_getitem.lookup
      (wpAny_getItem_list_neg (Q:=fun r s'=>r = w∧EP X pins σ Q r s') pl.isList (by omega) (by rw [List.size_toArray] <;> omega) (by omega) (by rw [hj]; simpa using ew) ⟨rfl,fin⟩) hs
theorem aE:IxR X (m5 X.K):=by
  intro value slice pins s σ H x y v u Q I rx ry h hs
  obtain ⟨p,xs,i,z,rfl,rfl,hq,he,q⟩:=h
  cases rx
  obtain ⟨t,rfl⟩:=ry
  obtain ⟨its,r,pl,hz⟩:=I.tuple hq
  obtain ⟨j,h1,h2,h3,h4,h5⟩:=sS he
  obtain ⟨w,ew,rw'⟩:=r.get h2
  have hl:=r.length
  have hn:=jd
  have fin:EP X pins σ Q w s:=⟨z,H,I,rw',q⟩
  exact subscriptTail_builtinR (x:=w) pl.typeIs slot_tuple_getitem.lookup
    (getItem_tuple (j:=j) (Q:=fun r s'=>r = w∧EP X pins σ Q r s') pl (by omega) (by omega) (by rw [List.size_toArray,← hl]; exact h1) (by simpa using ew) ⟨rfl,fin⟩) hs
theorem rX (its:List Value) (n j:Nat) (u:Value):Obj.mapSeq (·.setIfInBounds j u) { cls:=.type "list",data:=.seq its.toArray n } = { cls:=.type "list",data:=.seq (its.set j u).toArray n }:=by
  simp [Obj.mapSeq]
theorem Inv.lst {pins:List (Addr × Obj)} {σ:St} {H:Hp} {s:Shared} {p:Addr} {xs:List V} (I:Inv X pins σ H s) (h:H p = some (.lst xs)) :
    ∃ (its:List Value) (n:Nat),Vals xs its∧s.heap.get? p = some { cls:=.type "list",data:=.seq its.toArray n }∧xs.length ≤ sizeLine:=by
  obtain ⟨z,its,n,r,e⟩:=I.hok p _ h
  exact ⟨its,n,r,e,z⟩
theorem Inv.lstUpd {pins:List (Addr × Obj)} {σ:St} {H:Hp} {s:Shared} {p:Addr} {xs ys:List V} {its its':List Value} {n n':Nat} {f:Obj→Obj} (I:Inv X pins σ H s) (h:H p = some (.lst xs))
    (ho:s.heap.get? p = some { cls:=.type "list",data:=.seq its.toArray n }) (hf:f { cls:=.type "list",data:=.seq its.toArray n } = { cls:=.type "list",data:=.seq its'.toArray n' }) (r:Vals ys its') (hz:ys.length ≤ sizeLine) (t:Nat) :
    Inv X pins σ (upd H p (.lst ys)) { s with heap:=s.heap.update p f,toks:=t }:=by
  have e:(s.heap.update p f).get? p = some { cls:=.type "list",data:=.seq its'.toArray n' }:=by
    rw [Heap.get?_update_self f ho (by rw [hf] <;> rfl),hf]
  refine I.write (x:=p) (e:=p) (by rw [h]; trivial) (.inl rfl) (fun b u hb q=>(Heap.get?_update_other _ _ (Ne.symm hb)).trans q) ⟨_,e⟩ ?_
  exact ⟨hz,its',n',r,e⟩
def BY:V→V→V→Hp→(Hp→Prop)→Prop:=fun o i v H Q=>∃ p xs k j,o = .ref p∧i = .int k∧H p = some (.lst xs)∧ixN xs.length k = some j∧Q (upd H p (.lst (xs.set j v)))
theorem jQ:Ak X BY:=by
  intro pins s σ H o i v ov iv u Q I ro ri rv h
  obtain ⟨p,xs,k,j,rfl,rfl,hp,hj,q⟩:=h
  cases ro
  obtain ⟨t,rfl⟩:=ri
  obtain ⟨its,n,r,ho,hz⟩:=I.lst hp
  obtain ⟨h1,h2,h3,h4⟩:=tM hj
  have hl:=r.length
  have hn:=jd
  have I':Inv X pins σ (upd H p (.lst (xs.set j v))) { s with heap:=s.heap.update p (Obj.mapSeq (·.setIfInBounds j u)) } :=
    I.lstUpd hp ho (rX its n j u) (r.set rv j) (by rw [List.length_set]; exact hz) s.toks
  by_cases h0:0 ≤ k
  · have hk:k.toNat = j:=by
      rw [seqIndex_of h0 h4] at h1
      exact Option.some.inj h1
    exact PySem.W.ki_setAt ho h0 (by omega) (by rw [List.size_toArray,← hl]; exact h4) (by rw [hk]; exact ⟨_,I',q⟩)
  · have hk:(k + (its.toArray.size:Int)).toNat = j:=by
      rw [seqIndex_neg (by omega) h3] at h1
      rw [List.size_toArray,← hl]
      exact Option.some.inj h1
    exact PySem.W.ki_setBack ho (by omega) (by rw [List.size_toArray,← hl]; exact h3) (by omega) (by rw [hk]; exact ⟨_,I',q⟩)
def jC:V→Bool
  | .non=>true
  | .bl _=>true
  | .int _=>true
  | .str _=>true
  | _=>false
def eqV:V→V→Bool
  | .non,.non=>true
  | .bl a,.bl b=>a == b
  | .bl a,.int b=>(if a then 1 else 0) == b
  | .int a,.bl b=>a == (if b then 1 else 0)
  | .int a,.int b=>a == b
  | .str a,.str b=>a == b
  | _,_=>false
theorem AH {A:Around} {s:Shared} {y x:V} {u v:Value} (ry:RelV y u) (rx:RelV x v) (fy:jC y = true) (fx:jC x = true):SeqAt.EqAt A s u v (eqV y x):=by
  cases y with
  | non =>
    cases ry
    cases x with
    | non=>cases rx; exact SeqAt.EqAt.same _
    | bl b=>cases rx; exact SeqAt.EqAt.none_bool b
    | int b=>obtain ⟨t,rfl⟩:=rx; exact SeqAt.EqAt.none_int b t
    | str b=>obtain ⟨t,rfl⟩:=rx; exact SeqAt.EqAt.none_str b t
    | _=>exact absurd (show false = true from fx) Bool.false_ne_true
  | bl a =>
    cases ry
    cases x with
    | non=>cases rx; exact SeqAt.EqAt.bool_none a
    | bl b=>cases rx; exact SeqAt.EqAt.bool_bool a b
    | int b=>obtain ⟨t,rfl⟩:=rx; exact SeqAt.EqAt.bool_int a b t
    | str b=>obtain ⟨t,rfl⟩:=rx; exact SeqAt.EqAt.bool_str a b t
    | _=>exact absurd (show false = true from fx) Bool.false_ne_true
  | int a =>
    obtain ⟨t',rfl⟩:=ry
    cases x with
    | non=>cases rx; exact SeqAt.EqAt.int_none a t'
    | bl b=>cases rx; exact SeqAt.EqAt.int_bool a t' b
    | int b=>obtain ⟨t,rfl⟩:=rx; exact SeqAt.EqAt.int_int a t' b t
    | str b=>obtain ⟨t,rfl⟩:=rx; exact SeqAt.EqAt.int_str a t' b t
    | _=>exact absurd (show false = true from fx) Bool.false_ne_true
  | str a =>
    obtain ⟨t',rfl⟩:=ry
    cases x with
    | non=>cases rx; exact SeqAt.EqAt.str_none a t'
    | bl b=>cases rx; exact SeqAt.EqAt.str_bool a t' b
    | int b=>obtain ⟨t,rfl⟩:=rx; exact SeqAt.EqAt.str_int a t' b t
    | str b=>obtain ⟨t,rfl⟩:=rx; exact SeqAt.EqAt.str_str a t' b t
    | _=>exact absurd (show false = true from fx) Bool.false_ne_true
  | _=>exact absurd (show false = true from fy) Bool.false_ne_true
def eqU (x:V) (u:Value):Bool:=match u with
  | .none=>eqV .non x
  | .bool b=>eqV (.bl b) x
  | .int i _=>eqV (.int i) x
  | .str z _=>eqV (.str z) x
  | _=>false
theorem wk {x y:V} {u:Value} (r:RelV y u) (f:jC y = true):eqU x u = eqV y x:=by
  cases y with
  | non=>cases r; rfl
  | bl b=>cases r; rfl
  | int i=>obtain ⟨t,rfl⟩:=r; rfl
  | str z=>obtain ⟨t,rfl⟩:=r; rfl
  | _=>exact absurd (show false = true from f) Bool.false_ne_true
theorem jt {x:V}:∀ {xs:List V} {us:List Value},Vals xs us→xs.all jC = true→us.any (eqU x) = xs.any fun y=>eqV y x
  | _,_,.nil,_=>rfl
  | y :: xs,u :: us,.cons r t,f=>by
    rw [List.all_cons,Bool.and_eq_true] at f
    rw [List.any_cons,List.any_cons,wk r f.1,jt t f.2]
theorem iD {A:Around} {s:Shared} {x:V} {v:Value} (rx:RelV x v) (fx:jC x = true):∀ {xs:List V} {us:List Value},Vals xs us→xs.all jC = true→∀ u ∈ us,SeqAt.EqAt A s u v (eqU x u)
  | _,_,.nil,_=>fun u hu=>by cases hu
  | y :: xs,u :: us,.cons r t,f=>fun u' hu=>by
    rw [List.all_cons,Bool.and_eq_true] at f
    rcases List.mem_cons.mp hu with rfl | hu
    · rw [wk r f.1]; exact AH r rx f.1 fx
    · exact iD rx fx t f.2 u' hu
def inV (x:V) (xs:List V):Bool:=xs.any fun y=>eqV y x
def rIn (K:PySem.W.Frag) (neg:Bool):R2:=fun x y H Q=>∃ p xs,y = .ref p∧(SqL K H p xs∨SqT K H p xs)∧jC x = true∧xs.all jC = true∧Q (.bl (if neg then !inV x xs else inV x xs)) H
theorem uM:OpR X (compareOp .In) (rIn X.K false):=by
  intro pins s σ H x y v u Q I rx ry h
  obtain ⟨p,xs,rfl,hq,fx,fs,q⟩:=h
  cases ry
  rcases hq with hq | hq
  · obtain ⟨its,r,pl,hz⟩:=I.list hq
    refine SeqAt.in_listAt (eqU x) pl.isList (fun w hw=>iD rx fx r fs w (by simpa using hw)) ⟨.bl _,H,I,rfl,?_⟩
    rw [show its.toArray.any (eqU x) = its.any (eqU x) by simp,jt r fs]
    exact q
  · obtain ⟨its,r,pl,hz⟩:=I.tuple hq
    refine SeqAt.in_tupleAt (eqU x) pl (fun w hw=>iD rx fx r fs w (by simpa using hw)) ⟨.bl _,H,I,rfl,?_⟩
    rw [show its.toArray.any (eqU x) = its.any (eqU x) by simp,jt r fs]
    exact q
theorem oZ:OpR X (compareOp .NotIn) (rIn X.K true):=by
  intro pins s σ H x y v u Q I rx ry h
  obtain ⟨p,xs,rfl,hq,fx,fs,q⟩:=h
  cases ry
  rcases hq with hq | hq
  · obtain ⟨its,r,pl,hz⟩:=I.list hq
    refine SeqAt.notIn_listAt (eqU x) pl.isList (fun w hw=>iD rx fx r fs w (by simpa using hw)) ⟨.bl _,H,I,rfl,?_⟩
    rw [show its.toArray.any (eqU x) = its.any (eqU x) by simp,jt r fs]
    exact q
  · obtain ⟨its,r,pl,hz⟩:=I.tuple hq
    refine SeqAt.notIn_tupleAt (eqU x) pl (fun w hw=>iD rx fx r fs w (by simpa using hw)) ⟨.bl _,H,I,rfl,?_⟩
    rw [show its.toArray.any (eqU x) = its.any (eqU x) by simp,jt r fs]
    exact q
theorem aR:gz X (.builtin "len") (fun xs H Q=>∃ p ys,xs = [.ref p]∧(SqL X.K H p ys∨SqT X.K H p ys)∧Q (.int ys.length) H):=by
  intro pins s σ H xs us Q I r h
  obtain ⟨p,ys,rfl,hq,q⟩:=h
  obtain ⟨u,rfl,rx⟩:=gv r
  cases rx
  have hn:=jd
  rcases hq with hq | hq
  · obtain ⟨its,r',pl,hz⟩:=I.list hq
    have hlen:=r'.length
    exact Calls.call_len_list pl.isList (by simp only [List.size_toArray] <;> omega) ⟨.int ys.length,H,I.tok _,⟨s.toks + 1,by rw [List.size_toArray,hlen]⟩,q⟩
  · obtain ⟨its,r',pl,hz⟩:=I.tuple hq
    have hlen:=r'.length
    exact len_tuple pl (by simp only [List.size_toArray] <;> omega) ⟨.int ys.length,H,I.tok _,⟨s.toks + 1,by rw [List.size_toArray,hlen]⟩,q⟩
theorem oo:gz X (.builtin "len") (fun xs H Q=>∃ z,xs = [.str z]∧z.length ≤ sizeLine∧Q (.int z.length) H):=by
  intro pins s σ H xs us Q I r h
  obtain ⟨z,rfl,hz,q⟩:=h
  obtain ⟨u,rfl,t,rfl⟩:=gv r
  have hn:=jd
  exact len_str (by omega) ⟨.int z.length,H,I.tok _,⟨_,rfl⟩,q⟩
theorem oq:gz X (.type "list") (fun xs H Q=>∃ p ys,xs = [.ref p]∧(SqL X.K H p ys∨SqT X.K H p ys)∧∀ l,H l = none→Q (.ref l) (upd H l (.lst ys))):=by
  intro pins s σ H xs us Q I r h
  obtain ⟨p,ys,rfl,hq,q⟩:=h
  obtain ⟨u,rfl,rx⟩:=gv r
  cases rx
  have fin:∀ (its:List Value),Vals ys its→ys.length ≤ sizeLine→∀ (h':Heap) (c':Nat),(∀ b o',s.heap.get? b = some o'→h'.get? b = some o') →
      h'.get? s.heap.objs.size = some { cls:=.type "list",dict:=none,data:=.seq its.toArray c',slots:=#[] }→EP X pins σ Q (.ref s.heap.objs.size) { s with heap:=h' }:=fun its r' hz h' c' kp e =>
    ⟨.ref s.heap.objs.size,_,I.laid (t':=s.toks) kp (Nat.le_refl _) (show ObjOk X.prog X.w _ h' _ (.lst ys) from ⟨hz,its,c',r',e⟩),rfl,q _ (I.hok.fresh (Nat.le_refl _))⟩
  rcases hq with hq | hq
  · obtain ⟨its,r',pl,hz⟩:=I.list hq
    have hlen:=r'.length
    obtain ⟨o,ho,hc,n,hd⟩:=pl.isList
    exact call_list_seq p (.inl rfl) ho hc hd (fun h' c' kp e=>fin its r' hz h' c' kp e) (by simp only [List.size_toArray] <;> omega)
  · obtain ⟨its,r',pl,hz⟩:=I.tuple hq
    have hlen:=r'.length
    obtain ⟨o,ho,hc,n,hd⟩:=pl
    exact call_list_seq p (.inr rfl) ho hc hd (fun h' c' kp e=>fin its r' hz h' c' kp e) (by simp only [List.size_toArray] <;> omega)
theorem cI:gz X (.type "tuple") (fun xs H Q=>∃ p ys,xs = [.ref p]∧((SqL X.K H p ys∧∀ l,H l = none→Q (.ref l) (upd H l (.tup ys)))∨(SqT X.K H p ys∧Q (.ref p) H))):=by
  intro pins s σ H xs us Q I r h
  obtain ⟨p,ys,rfl,h⟩:=h
  obtain ⟨u,rfl,rx⟩:=gv r
  cases rx
  rcases h with ⟨hq,q⟩ | ⟨hq,q⟩
  · obtain ⟨its,r',pl,hz⟩:=I.list hq
    have hlen:=r'.length
    refine call_tuple_list pl.isList (fun h' kp=>?_) (by simp only [List.size_toArray] <;> omega)
    have I1:Inv X pins σ H { s with heap:=h' }:=I.kept (t':=s.toks) kp
    have I2:Inv X pins σ (upd H h'.objs.size (.tup ys)) { s with heap:=h'.push { cls:=.type "tuple",data:=.seq its.toArray } } :=
      I1.laid (t':=s.toks) (fun b o e=>Heap.get?_push_of_some _ e) (Nat.le_refl _) (show ObjOk X.prog X.w _ _ _ (.tup ys) from ⟨hz,its,r',IsTup.new _ _⟩)
    exact ⟨.ref h'.objs.size,_,I2,rfl,q _ (I1.hok.fresh (Nat.le_refl _))⟩
  · obtain ⟨its,r',pl,hz⟩:=I.tuple hq
    exact call_tuple_same pl ⟨.ref p,H,I,rfl,q⟩
def tyV (K:PySem.W.Frag) (T:String) (x:V) (H:Hp):Prop:=match x with
  | .str _=>T = "str"
  | .int _=>T = "int"
  | .ref p=>(T = "list"∧∃ xs,SqL K H p xs)∨(T = "tuple"∧∃ o,K.lookup p = some o∧o.cls = .type "tuple"∧o.dict = none) ∨
      (T = "dict"∧((∃ kvs,H p = some (.dK kvs))∨∃ kvs,H p = some (.dT kvs)))∨(T = "set"∧∃ S n,H p = some (.set S n))
  | _=>False
theorem yh {pins:List (Addr × Obj)} {σ:St} {H:Hp} {s:Shared} {T:String} {x:V} {v:Value} (I:Inv X pins σ H s) (r:RelV x v) (ty:tyV X.K T x H) :
    s.TypeIs v T∧∀ a,v = .ref a→∃ ob,s.heap.get? a = some ob∧ob.dict = none:=by
  cases x with
  | str z =>
    obtain ⟨t,rfl⟩:=r
    cases (show T = "str" from ty)
    exact ⟨typeIs_str s z t,fun _ e=>nomatch e⟩
  | int i =>
    obtain ⟨t,rfl⟩:=r
    cases (show T = "int" from ty)
    exact ⟨typeIs_int s i t,fun _ e=>nomatch e⟩
  | ref p =>
    cases r
    rcases ty with ⟨rfl,xs,hq⟩ | ⟨rfl,o,hk,hc,hd⟩ | ⟨rfl,hk⟩ | ⟨rfl,S,n,hk⟩
    · obtain ⟨its,_,pl,_⟩:=I.list hq
      refine ⟨pl.isList.typeIs,fun a e=>?_⟩
      cases e
      obtain ⟨o,n,e,c,hd,_⟩:=pl
      exact ⟨o,e,hd⟩
    · refine ⟨⟨o,I.kIn p o hk,hc⟩,fun a e=>?_⟩
      cases e
      exact ⟨o,I.kIn _ o hk,hd⟩
    · have z:∃ o,s.heap.get? p = some o∧o.ExactDict:=by
        rcases hk with ⟨kvs,hk⟩ | ⟨kvs,hk⟩
        · obtain ⟨_,_,_,_,o,_,_,e,ex,_⟩:=I.hok p _ hk
          exact ⟨o,e,ex⟩
        · obtain ⟨_,_,_,_,o,_,_,e,ex,_⟩:=I.hok p _ hk
          exact ⟨o,e,ex⟩
      obtain ⟨o,e,ex⟩:=z
      refine ⟨⟨o,e,ex.1⟩,fun a e2=>?_⟩
      cases e2
      exact ⟨o,e,ex.2.1⟩
    · obtain ⟨o,_,_,_,e,ex,_⟩:=I.hok p _ hk
      refine ⟨⟨o,e,ex.1⟩,fun a e2=>?_⟩
      cases e2
      exact ⟨o,e,ex.2.1⟩
  | _=>exact False.elim ty
def CH (K:PySem.W.Frag) (T:String) (r:V→List V→Hp→VK→Prop) (to:TE):TE:=fun σ H Q=>to σ H fun x H1=>tyV K T x H1∧r x [] H1 Q
def tBM (K:PySem.W.Frag) (T:String) (r:V→List V→Hp→VK→Prop) (to:TE) (t:TA):TE:=fun σ H Q=>to σ H fun x H1=>tyV K T x H1∧t σ H1 fun xs H2=>r x xs H2 Q
variable {o e:Expr} {es:List Expr} {to:TE} {t:TA} {name:Str} {apos cpos:Pos} {T id:String} {r:V→List V→Hp→VK→Prop}
theorem A1 (pa:PlainAttrs T) (slot:Slot T name id) (hty:typeOf (.builtin id) = pure (.type "method_descriptor")) (hm:MtR X id r) (ho:PE X o to)
    (hbase:attributeBase o name X.env (eval o X.env) = eval o X.env:=by rfl) (hline:(apos.endLine == cpos.line) = true:=by rfl):PE X (.Call (.Attribute o name apos) [] [] cpos) (CH X.K T r to):=by
  intro pins s σ H Q I h
  refine wpAny_Call_method0_late hbase hline (thn (ho pins s σ H _ I h) fun v s1 ⟨x,H1,I1,r1,ty,q1⟩=>?_)
  obtain ⟨h1,h2⟩:=yh I1 r1 ty
  exact ⟨T,id,pa,slot,hty,h1,h2,Calls.callWith_builtin rfl (PySem.evalArgs_none (hm pins s1 σ H1 x [] v [] Q I1 r1 .nil q1))⟩
theorem cV (pa:PlainAttrs T) (slot:Slot T name id) (hty:typeOf (.builtin id) = pure (.type "method_descriptor")) (hm:MtR X id r) (ho:PE X o to) (ha:PA X (e :: es) t)
    (hbase:attributeBase o name X.env (eval o X.env) = eval o X.env:=by rfl)
    (hfew:((backTo cpos (starEach (e :: es) X.env)).all (fun x=>!x.1) && (backToKw cpos (keywordEach [] X.env)).all (fun x=>x.1.isSome)
      && decide ((e :: es).length + ([]:List Keyword).length + (if ([]:List Keyword).isEmpty then 0 else 1) < 30)) = true:=by rfl)
    (hline:(apos.endLine == cpos.line) = true:=by rfl) (hs:starEach (e :: es) X.env = (false,eval e X.env) :: starEach es X.env:=by rfl) (hplain:(backTo cpos (starEach es X.env)).any (·.1) = false:=by rfl) :
    PE X (.Call (.Attribute o name apos) (e :: es) [] cpos) (tBM X.K T r to t):=by
  intro pins s σ H Q I h
  refine wpAny_Call_method_late hbase hfew hline rfl (thn (ho pins s σ H _ I h) fun v s1 ⟨x,H1,I1,r1,ty,q1⟩=>?_)
  obtain ⟨h1,h2⟩:=yh I1 r1 ty
  refine ⟨T,id,pa,slot,hty,h1,h2,?_⟩
  have hA:=ha cpos pins s1 σ H1 _ I1 q1
  rw [hs] at hA ⊢
  refine Calls.callWith_builtin (by show (false || (backTo cpos (starEach es X.env)).any (·.1)) = false; rw [hplain] <;> rfl) (Calls.evalArgs_plain ?_)
  exact thn hA fun us s2 ⟨vs,H2,I2,r2,q2⟩=>hm pins s2 σ H2 x vs v us Q I2 r1 r2 q2
end
end L2
namespace L2
open PySem PySem.Spec PyProof.Rows
def MtM (X:Cx) (id:String) (r:V→List V→Hp→VK→Prop):Prop :=
  ∀ (pins:List (Addr × Obj)) (s:Shared) (σ:St) (H:Hp) (x:V) (xs:List V) (v:Value) (us:List Value) (Q:VK),Inv X pins σ H s→RelV x v→Vals xs us→r x xs H Q →
    wpAny (model X.prog X.w) X.A (call (.builtin id) (v :: us)) (EP X pins σ Q) X.xe s
theorem Vals.one:∀ {x:V} {us:List Value},Vals [x] us→∃ u,us = [u]∧RelV x u
  | _,_,.cons r .nil=>⟨_,rfl,r⟩
theorem Vals.zero:∀ {us:List Value},Vals [] us→us = []
  | _,.nil=>rfl
theorem Vals.dropLast {xs:List V} {us:List Value} (h:Vals xs us):Vals xs.dropLast us.dropLast:=by
  induction h with
  | nil=>exact .nil
  | cons r t ih =>
    cases t with
    | nil=>exact .nil
    | cons q t'=>exact .cons r ih
theorem Vals.reverse {xs:List V} {us:List Value} (h:Vals xs us):Vals xs.reverse us.reverse:=by
  induction h with
  | nil=>exact .nil
  | cons r t ih=>rw [List.reverse_cons,List.reverse_cons]; exact Vals.append ih (.cons r .nil)
theorem rM {α:Type} (l:List α):l.eraseIdx (l.length - 1) = l.dropLast:=by
  induction l with
  | nil=>rfl
  | cons a r ih =>
    cases r with
    | nil=>rfl
    | cons b r =>
      have e:(a :: b :: r).length - 1 = ((b :: r).length - 1) + 1:=by
        have h1:(a :: b :: r).length = r.length + 2:=rfl
        have h2:(b :: r).length = r.length + 1:=rfl
        omega
      rw [e,List.eraseIdx_cons_succ,ih]
      all_goals rfl
section
variable {X:Cx} {pins:List (Addr × Obj)} {σ:St} {H:Hp} {s:Shared} {l b:Addr} {xs ys zs:List V}
theorem Inv.lset {its its':List Value} {n:Nat} {f:Array Value→Array Value} {t':Nat} (I:Inv X pins σ H s) (hH:H l = some (.lst xs))
    (e:s.heap.get? l = some { cls:=.type "list",data:=.seq its.toArray n }) (hf:f its.toArray = its'.toArray) (hv:Vals ys its') (hz:ys.length ≤ sizeLine) :
    Inv X pins σ (upd H l (.lst ys)) { s with heap:=s.heap.update l (Obj.mapSeq f),toks:=t' }:=by
  have q:=PySem.IsL.update e f
  rw [hf] at q
  refine I.write (x:=l) (e:=l) (by rw [hH]; exact trivial) (.inl rfl) (fun b' u hb hu=>(Heap.get?_update_other s.heap (Obj.mapSeq f) (Ne.symm hb)).trans hu) ⟨_,q⟩ ?_
  exact ⟨hz,its',_,hv,q⟩
theorem Inv.lnew {its:List Value} {t':Nat} (I:Inv X pins σ H s) (hv:Vals ys its) (hz:ys.length ≤ sizeLine) :
    Inv X pins σ (upd H s.heap.objs.size (.lst ys)) { s with heap:=s.heap.push { cls:=.type "list",data:=.seq its.toArray },toks:=t' } :=
  I.laid (fun _ _ q=>Heap.get?_push_of_some _ q) (Nat.le_refl _) ⟨hz,its,0,hv,Heap.get?_push_size _ rfl⟩
theorem Inv.fresh (I:Inv X pins σ H s):H s.heap.objs.size = none:=I.hok.fresh (Nat.le_refl _)
theorem Inv.lstM (I:Inv X pins σ H s) (hH:H l = some (.lst xs)):xs.length ≤ sizeLine∧∃ (its:List Value) (n:Nat),Vals xs its∧xs.length = its.length∧s.heap.get? l = some { cls:=.type "list",data:=.seq its.toArray n }:=by
  obtain ⟨z,its,n,r,e⟩:=I.hok l _ hH
  exact ⟨z,its,n,r,r.length,e⟩
theorem xf {n:Nat} (h:n ≤ sizeLine):Builtin.List.listTooLong n = false:=by
  unfold Builtin.List.listTooLong
  exact decide_eq_false (by omega)
end
section
variable {X:Cx}
def o7:V→List V→Hp→VK→Prop:=fun x vs H Q=>∃ l xs y,x = .ref l∧vs = [y]∧H l = some (.lst xs)∧xs.length < sizeLine∧Q .non (upd H l (.lst (xs ++ [y])))
theorem bR:MtM X "list.append" o7:=by
  intro pins s σ H x vs v us Q I rx rv h
  obtain ⟨l,xs,y,rfl,rfl,hH,hz,q⟩:=h
  cases rx
  obtain ⟨u,rfl,ru⟩:=rv.one
  obtain ⟨z,its,n,r,hl,e⟩:=I.lstM hH
  refine call_meets F.slot_list_append ⟨_,e,rfl⟩ F.entry_list_append (F.args_list_append_2 _ _) (PySem.list_append l its.toArray n u (by rw [List.size_toArray]; omega)) ⟨e,?_⟩
  refine ⟨.non,_,I.lset (its':=its ++ [u]) hH e (by simp) (r.append (.cons ru .nil)) ?_,rfl,q⟩
  rw [List.length_append,List.length_singleton]
  omega
def o8:V→List V→Hp→VK→Prop:=fun x vs H Q=>∃ l b xs zs,x = .ref l∧vs = [.ref b]∧H l = some (.lst xs)∧H b = some (.lst zs)∧xs.length + zs.length ≤ sizeLine∧Q .non (upd H l (.lst (xs ++ zs)))
theorem d9:MtM X "list.extend" o8:=by
  intro pins s σ H x vs v us Q I rx rv h
  obtain ⟨l,b,xs,zs,rfl,rfl,hH,hB,hz,q⟩:=h
  cases rx
  obtain ⟨u,rfl,ru⟩:=rv.one
  cases ru
  obtain ⟨z,its,n,r,hl,e⟩:=I.lstM hH
  obtain ⟨z2,its2,n2,r2,hl2,e2⟩:=I.lstM hB
  have hsz:its.toArray.size + its2.toArray.size ≤ sizeLine:=by rw [List.size_toArray,List.size_toArray]; omega
  have hlong:¬ (!its.toArray.isEmpty && Builtin.List.listTooLong (its.toArray.size + its2.toArray.size)) = true:=by
    rw [xf hsz,Bool.and_false]
    exact Bool.false_ne_true
  refine call_meets F.slot_list_extend ⟨_,e,rfl⟩ F.entry_list_extend (F.args_list_extend_2 _ _)
    (AutoSeq1.list_extend_list_list_0 l its.toArray n b its2.toArray n2 hlong (by rw [List.size_toArray]; omega) (by omega)) ⟨e,e2,?_⟩
  refine ⟨.non,_,I.lset (its':=its ++ its2) hH e (by simp) (r.append r2) ?_,rfl,q⟩
  rw [List.length_append]
  omega
def CC:V→List V→Hp→VK→Prop:=fun x vs H Q=>∃ l xs y,x = .ref l∧vs = []∧H l = some (.lst xs)∧xs[xs.length - 1]? = some y∧Q y (upd H l (.lst xs.dropLast))
theorem AW:MtM X "list.pop" CC:=by
  intro pins s σ H x vs v us Q I rx rv h
  obtain ⟨l,xs,y,rfl,rfl,hH,hy,q⟩:=h
  cases rx
  have hus:=rv.zero
  subst hus
  obtain ⟨z,its,n,r,hl,e⟩:=I.lstM hH
  obtain ⟨u,hu,ru⟩:=r.get hy
  have hy':its.toArray[its.toArray.size - 1]? = some u:=by
    show its.toArray[its.length - 1]? = some u
    rw [← Array.getElem?_toList,← hl]
    exact hu
  refine call_meets F.slot_list_pop ⟨_,e,rfl⟩ F.entry_list_pop (F.args_list_pop_1 _) (MeetsSeq.list_pop_last l its.toArray n u hy' (by rw [List.size_toArray]; omega)) ⟨e,?_⟩
  refine ⟨y,_,I.lset (its':=its.dropLast) hH e ?_ r.dropLast ?_,ru,q⟩
  · show its.toArray.eraseIdxIfInBounds (its.toArray.size - 1) = its.dropLast.toArray
    rw [List.size_toArray,List.eraseIdxIfInBounds_toArray,rM]
  · rw [List.length_dropLast]
    omega
end
section
variable {prog:Program} {w:World} {A:Around} {E:Value→Shared→Prop} {s:Shared}
set_option maxRecDepth 100000 in
end
section
variable {X:Cx}
end
end L2
namespace L2
open PySem PySem.Spec PyProof.Rows
section
variable {κ:Type} [DecidableEq κ]
def jn (kvs:List (κ × V)) (k:κ):Option V:=(kvs.find? fun kv=>decide (kv.1 = k)).map (·.2)
def qV (kvs:List (κ × V)) (k:κ) (v:V):List (κ × V) :=
  if (kvs.any fun kv=>decide (kv.1 = k)) = true then kvs.map (fun kv=>if kv.1 = k then (kv.1,v) else kv) else kvs ++ [(k,v)]
theorem rq {p:κ × V} {r:List (κ × V)} {k:κ} (e:p.1 = k):jn (p :: r) k = some p.2:=by simp [jn,List.find?_cons,e]
theorem rp {p:κ × V} {r:List (κ × V)} {k:κ} (e:¬ p.1 = k):jn (p :: r) k = jn r k:=by simp [jn,List.find?_cons,e]
theorem qD (kvs:List (κ × V)) (k:κ) (v:V):(qV kvs k v).length ≤ kvs.length + 1:=by
  unfold qV
  split
  · rw [List.length_map]; omega
  · rw [List.length_append,List.length_cons,List.length_nil]; omega
theorem KV.val {kvs:List (κ × V)} {vs:List (κ × Value)} (r:KV kvs vs) (k:κ):RelO (jn kvs k) (valueAt vs k):=by
  unfold KV at r
  induction r with
  | nil=>exact True.intro
  | @cons p q ps qs h t ih =>
    obtain ⟨h1,h2⟩:=h
    by_cases e:p.1 = k
    · have e':q.1 = k:=h1.symm.trans e
      have b:valueAt (q :: qs) k = some q.2:=by simp [valueAt,List.find?_cons,e']
      rw [rq e,b]; exact h2
    · have e':¬ q.1 = k:=fun z=>e (h1.trans z)
      have b:valueAt (q :: qs) k = valueAt qs k:=by simp [valueAt,List.find?_cons,e']
      rw [rp e,b]; exact ih
theorem KV.any {kvs:List (κ × V)} {vs:List (κ × Value)} (r:KV kvs vs) (k:κ):(kvs.any fun kv=>decide (kv.1 = k)) = vs.any fun kv=>decide (kv.1 = k):=by
  unfold KV at r
  induction r with
  | nil=>rfl
  | cons h t ih=>rw [List.any_cons,List.any_cons,ih,h.1]
theorem KV.repl {kvs:List (κ × V)} {vs:List (κ × Value)} (r:KV kvs vs) (k:κ) {y:V} {u:Value} (ry:RelV y u) :
    KV (kvs.map fun kv=>if kv.1 = k then (kv.1,y) else kv) (vs.map fun kv=>if kv.1 = k then (kv.1,u) else kv):=by
  unfold KV at r ⊢
  induction r with
  | nil=>exact .nil
  | @cons p q ps qs h t ih =>
    rw [List.map_cons,List.map_cons]
    refine .cons ?_ ih
    obtain ⟨h1,h2⟩:=h
    by_cases e:p.1 = k
    · rw [if_pos e,if_pos (h1.symm.trans e)]; exact ⟨h1,ry⟩
    · rw [if_neg e,if_neg (fun z=>e (h1.trans z))]; exact ⟨h1,h2⟩
theorem KV.put {kvs:List (κ × V)} {vs:List (κ × Value)} (r:KV kvs vs) (k:κ) {y:V} {u:Value} (ry:RelV y u):KV (qV kvs k y) (stored vs k u):=by
  unfold qV stored
  rw [r.any k]
  by_cases e:(vs.any fun kv=>decide (kv.1 = k)) = true
  · rw [if_pos e,if_pos e]; exact r.repl k ry
  · rw [if_neg e,if_neg e]; exact Paired.snoc r ⟨rfl,ry⟩
end
theorem wG {P:Program} {w:World} {k:Key} {u:Value} (r:RelV (kV k) u):(de P w).is k u = true:=by
  cases k with
  | inl i=>obtain ⟨t,e⟩:=(show ∃ t,u = Value.int i t from r); subst e; exact qG P w i t
  | inr x=>obtain ⟨t,e⟩:=(show ∃ t,u = Value.str x t from r); subst e; exact qH P w x t
theorem nE {P:Program} {w:World}:∀ {ks:List Key} {us:List Value},Vals (ks.map kV) us→ItemsAre (de P w) ks us
  | [],_,r=>by rw [List.map_nil] at r; cases r; exact .nil
  | k :: ks,_,r=>by
    rw [List.map_cons] at r
    cases r with
    | cons h t=>exact .cons (wG h) (nE t)
abbrev KT (H:Hp):List (List Key × V)→List (List Key × Addr × Value)→Prop:=Paired fun p q=>p.1 = q.1∧H q.2.1 = some (.tup (p.1.map kV))∧RelV p.2 q.2.2
theorem KT.val {H:Hp} {kvs:List (List Key × V)} {xs:List (List Key × Addr × Value)} (r:KT H kvs xs) (k:List Key):RelO (jn kvs k) ((atKey xs k).map (·.2)):=by
  induction r with
  | nil=>exact True.intro
  | @cons p q ps qs h t ih =>
    obtain ⟨h1,_,h2⟩:=h
    by_cases e:p.1 = k
    · have e':q.1 = k:=h1.symm.trans e
      have b:atKey (q :: qs) k = some q.2:=by simp [atKey,List.find?_cons,e']
      rw [rq e,b]; exact h2
    · have e':¬ q.1 = k:=fun z=>e (h1.trans z)
      have b:atKey (q :: qs) k = atKey qs k:=by simp [atKey,List.find?_cons,e']
      rw [rp e,b]; exact ih
section
variable {P:Program} {w:World} {H:Hp} {h:Heap} {a:Addr}
theorem Ab {u:HO} (ok:HOk P w H h) (e:Rd H a u):ObjOk P w H h a u:=e.ok ok
theorem wd {kvs:List (Key × V)} (ok:HOk P w H h) (e:Rd H a (.dK kvs)):kvs.length ≤ sizeLine∧(a == sysModules) = false∧∃ vs,KV kvs vs∧h.DictOf (de P w) a vs :=
  show ObjOk P w H h a (.dK kvs) from Ab ok e
theorem BD {kvs:List (Key × V)} (ok:HOk P w H h) (e:H a = some (.dK kvs)):kvs.length ≤ sizeLine∧(a == sysModules) = false∧∃ vs,KV kvs vs∧h.DictOf (de P w) a vs:=wd ok (.inl e)
theorem wI {ks:List Key} (ok:HOk P w H h) (e:H a = some (.tup (ks.map kV))):(tupleKind (de P w)).is h ks a:=by
  obtain ⟨_,its,r,o,h1,h2,n,h3⟩:=(show ObjOk P w H h a (.tup (ks.map kV)) from ok a _ e)
  exact ⟨o,its.toArray,n,h1,h2,h3,by simpa using nE r⟩
theorem zQ {kvs:List (List Key × V)} (ok:HOk P w H h) (e:Rd H a (.dT kvs)):kvs.length ≤ sizeLine∧(a == sysModules) = false ∧
    ∃ xs,KT H kvs xs∧h.DictOfH (tupleKind (de P w)) a xs:=by
  obtain ⟨z,y,xs,r,o,es,ep,h1,h2,h3,h4,h5⟩:=(show ObjOk P w H h a (.dT kvs) from Ab ok e)
  refine ⟨z,y,xs,r,o,es,ep,h1,h2,h3,h4,fun x hx=>?_,h5⟩
  have all:∀ {l:List (List Key × V)} {m:List (List Key × Addr × Value)},KT H l m→∀ x ∈ m,(tupleKind (de P w)).is h x.1 x.2.1:=by
    intro l m q
    induction q with
    | nil=>intro x hx; exact nomatch hx
    | @cons p q ps qs hq t ih =>
      intro x hx
      rcases List.mem_cons.mp hx with e | hx
      · subst e
        exact wI ok (by rw [← hq.1]; exact hq.2.1)
      · exact ih x hx
  exact all r x hx
end
def DGet (H:Hp) (a:Addr) (y:V) (r:Option V):Prop :=
  (∃ kvs k,Rd H a (.dK kvs)∧y = kV k∧r = jn kvs k)∨∃ kvs k b,Rd H a (.dT kvs)∧y = .ref b∧H b = some (.tup (k.map kV))∧r = jn kvs k
theorem DGet.k {H:Hp} {a:Addr} {kvs:List (Key × V)} {k:Key} (e:H a = some (.dK kvs)):DGet H a (kV k) (jn kvs k):=.inl ⟨kvs,k,.inl e,rfl,rfl⟩
section
variable {X:Cx} {pins:List (Addr × Obj)} {σ:St} {H:Hp} {s:Shared} {a:Addr} {y v:V} {u r:Value} {o:Option V} {A:Around} {E:Value→Shared→Prop}
theorem Inv.big (I:Inv X pins σ H s):sysModules < s.heap.objs.size:=by
  have h:mainGlobals < s.heap.objs.size:=(I.mod.glob.keeps I.bk).lt
  exact Nat.lt_trans (by decide) h
theorem uy {Q:Value→Shared→Prop} (hu:A.units + 1 < cLine) (I:Inv X pins σ H s) (g:DGet H a y (some v)) (ry:RelV y u) (h:∀ w' s',Inv X pins σ H s'→RelV v w'→Q w' s') :
    wpAny (model X.prog X.w) A (getItem (.ref a) u) Q E s:=by
  rcases g with ⟨kvs,k,e,ey,l⟩ | ⟨kvs,k,b,e,ey,eb,l⟩
  · subst ey
    obtain ⟨z,hd,vs,rel,dd⟩:=wd I.hok e
    obtain ⟨w',hw,rw'⟩:=RelO.some_of (v:=v) (o:=valueAt vs k) (by rw [l]; exact rel.val k)
    exact wpAny_getItem_of (wG ry) dd.mapOf hw (h w' _ (I.tok _) rw')
  · subst ey
    cases (show u = Value.ref b from ry)
    obtain ⟨z,hd,xs,rel,dd⟩:=zQ I.hok e
    obtain ⟨w',hw,rw'⟩:=RelO.some_of (v:=v) (o:=(atKey xs k).map (·.2)) (by rw [l]; exact rel.val k)
    obtain ⟨p,hp,hp2⟩:=Option.map_eq_some_iff.mp hw
    refine wpAny_getItem_heap (tupleKind_room_in1 hu) (wI I.hok eb) dd hp ?_
    rw [hp2]
    exact h w' _ (I.tok _) rw'
theorem yy {h':Heap} {t':Nat} {ob:HO} (I:Inv X pins σ H s) (mu:Mut (H a)) (hs:Heap.SameBut a s.heap h') (he:∃ q,h'.get? a = some q) (new:ObjOk X.prog X.w (upd H a ob) h' a ob) :
    Inv X pins σ (upd H a ob) { s with heap:=h',toks:=t' } :=
  I.write (x:=a) (e:=a) mu (.inl rfl) (fun b q hb z=>(hs.2 b hb).trans z) he new
theorem AG {P:Program} {w:World} {H':Hp} {h':Heap} {kvs:List (Key × V)} {vs:List (Key × Value)} (z:kvs.length ≤ sizeLine) (hd:(a == sysModules) = false) (rel:KV kvs vs) (dd:h'.DictOf (de P w) a vs) :
    ObjOk P w H' h' a (.dK kvs):=⟨z,hd,vs,rel,dd⟩
end
section
variable {X:Cx} {pins:List (Addr × Obj)} {σ:St} {H:Hp} {s:Shared} {a:Addr} {kvs:List (Key × V)} {k:Key} {u:Value} {A:Around} {E:Value→Shared→Prop}
end
def By (i:Expr):Prop:=∀ ov iv,subscripted i false ov iv = operate [ov,iv] (getItem ov iv)
theorem zH {prog:Program} {w:World} {A:Around} {E:Value→Shared→Prop} {s:Shared} {env:Env} {value slice:Expr} {pos:Pos} {T id:String} {Q:Value→Shared→Prop}
    (hl:typeLookup (.type T) "__getitem__" = pure (some (.builtin id))) (hs:By slice)
    (h:wpAny (model prog w) A (eval value env) (fun o s₁=>wpAny (model prog w) A (eval slice env) (fun i s₂=>s₂.TypeIs o T∧wpAny (model prog w) A (getItem o i) Q E s₂) E s₁) E s) :
    wpAny (model prog w) A (eval (.Subscript value slice pos) env) Q E s:=by
  refine Subscript_ (wpAny_mono h (fun o s₁ h₁=>wpAny_mono h₁ (fun i s₂ h₂=>?_) fun _ _ x=>x) fun _ _ x=>x)
  obtain ⟨hT,h₂⟩:=h₂
  unfold subscriptTail
  refine wpAny_bind ?_
  rw [getitemInPython_of_ne hT.not_modules]
  refine wpAny_bind (wpAny_specialOf hT hl ?_)
  have fin:wpAny (model prog w) A (subscripted slice false o i) (fun r s₃=>wpAny (model prog w) A (letTemporaryGo value o r >>= fun _=>pure r) Q E s₃) E s₂:=by
    rw [hs o i]
    exact wpAny_operating (wpAny_mono h₂ (fun r s₃ h₃=>wpAny_bind (wpAny_letTemporaryGo (wpAny_pure h₃))) fun _ _ x=>x)
  first
    | exact wpAny_pure (wpAny_bind fin)
    | exact wpAny_bind (wpAny_pure (wpAny_bind fin))
    | exact wpAny_bind fin
theorem qg {X:Cx} {pins:List (Addr × Obj)} {σ:St} {H:Hp} {s:Shared} {a:Addr} {y:V} {o:Option V} (I:Inv X pins σ H s) (g:DGet H a y o):s.TypeIs (.ref a) "dict":=by
  rcases g with ⟨kvs,k,e,_,_⟩ | ⟨kvs,k,b,e,_,_,_⟩
  · obtain ⟨_,_,vs,_,dd⟩:=wd I.hok e
    exact dd.typeIs
  · obtain ⟨_,_,xs,_,dd⟩:=zQ I.hok e
    exact dd.typeIs
def Af (td ty:TE):TE:=fun σ H Q=>td σ H fun x H1=>ty σ H1 fun y H2=>∃ a v,x = .ref a∧DGet H2 a y (some v)∧Q v H2
section
variable {X:Cx} {o i e value:Expr} {pos pos' tpos:Pos} {td ty tv:TE}
theorem kX (hu:X.A.units + 1 < cLine) (ho:PE X o td) (hi:PE X i ty) (hs:By i):PE X (.Subscript o i pos) (Af td ty):=by
  intro pins s σ H Q I h
  refine zH PySem.F.slot_dict_getitem.lookup hs (thn (ho pins s σ H _ I h) fun u s1 ⟨x,H1,I1,rx,q1⟩=>thn (hi pins s1 σ H1 _ I1 q1) fun iv s2 ⟨y,H2,I2,ry,a,v,ex,g,q2⟩=>?_)
  subst ex
  obtain rfl:u = Value.ref a:=rx
  exact ⟨qg I2 g,uy hu I2 g ry fun w' s3 I3 rw'=>⟨v,H2,I3,rw',q2⟩⟩
end
theorem wb {P:Program} {w:World} {H:Hp} (h:Heap) (hb:sysModules < h.objs.size):ObjOk P w H (h.push { cls:=.type "dict",data:=.dict #[] }) h.objs.size (.dK []) :=
  ⟨Nat.zero_le _,beq_eq_false_iff_ne.mpr (Ne.symm (Nat.ne_of_lt hb)),[],.nil,Heap.DictOf.new h⟩
section
variable {X:Cx} {pos:Pos}
end
def sF:List (TE × TE)→St→Hp→(List (V × V)→Hp→Prop)→Prop
  | [],_,H,Q=>Q [] H
  | (tk,tv) :: r,σ,H,Q=>tk σ H fun x H1=>tv σ H1 fun y H2=>sF r σ H2 fun ps H3=>Q ((x,y) :: ps) H3
abbrev VV:List (V × V)→List (Value × Value)→Prop:=Paired fun p q=>RelV p.1 q.1∧RelV p.2 q.2
def PPs (X:Cx) (pos:Pos) (keys:List (Option Expr)) (values:List Expr) (trs:List (TE × TE)):Prop :=
  ∀ (pins:List (Addr × Obj)) (s:Shared) (σ:St) (H:Hp) (Q:List (V × V)→Hp→Prop),Inv X pins σ H s→sF trs σ H Q →
    wpAny (model X.prog X.w) X.A (evalPairs (pairTrees keys values X.env pos)) (fun vs s'=>∃ ps H',Inv X pins σ H' s'∧VV ps vs∧Q ps H') X.xe s
theorem zk {X:Cx} {pos:Pos}:PPs X pos [] [] []:=fun pins s σ H Q I h=>pairTrees_nil_walk ⟨[],H,I,.nil,h⟩
theorem mz {X:Cx} {pos:Pos} {k v:Expr} {ks:List (Option Expr)} {vs:List Expr} {tk tv:TE} {trs:List (TE × TE)} (hk:PE X k tk) (hv:PE X v tv) (hr:PPs X pos ks vs trs) :
    PPs X pos (some k :: ks) (v :: vs) ((tk,tv) :: trs):=fun pins s σ H Q I h =>
  pairTrees_cons_walk (thn (hk pins s σ H _ I h) fun u s1 ⟨x,H1,I1,rx,q1⟩=>thn (hv pins s1 σ H1 _ I1 q1) fun w2 s2 ⟨y,H2,I2,ry,q2⟩ =>
    thn (hr pins s2 σ H2 _ I2 q2) fun ws s3 ⟨ps,H3,I3,rel,q3⟩=>⟨(x,y) :: ps,H3,I3,.cons ⟨rx,ry⟩ rel,q3⟩)
def ki (kvs more:List (Key × V)):List (Key × V):=more.foldl (fun acc kv=>qV acc kv.1 kv.2) kvs
theorem KV.merge:∀ {more:List (Key × V)} {rs:List (Key × Value)} {kvs:List (Key × V)} {vs:List (Key × Value)},KV more rs→KV kvs vs→KV (ki kvs more) (merged vs rs):=by
  intro more rs kvs vs r
  unfold KV at r
  induction r generalizing kvs vs with
  | nil=>intro q; exact q
  | @cons p q ps qs h t ih =>
    intro r0
    have e:KV (qV kvs p.1 p.2) (stored vs q.1 q.2):=by
      have:=r0.put p.1 h.2
      rw [← h.1]; exact this
    exact ih e
theorem i3:∀ (more kvs:List (Key × V)),(ki kvs more).length ≤ kvs.length + more.length
  | [],kvs=>by show kvs.length ≤ kvs.length + 0; omega
  | p :: r,kvs=>by
    have h1:=i3 r (qV kvs p.1 p.2)
    have h2:=qD kvs p.1 p.2
    show (ki (qV kvs p.1 p.2) r).length ≤ _
    rw [List.length_cons]; omega
theorem lH {P:Program} {w:World}:∀ {kvs:List (Key × V)} {ws:List (Value × Value)},VV (kvs.map fun kv=>(kV kv.1,kv.2)) ws→∃ rs,Carries (de P w) ws rs∧KV kvs rs
  | [],_,r=>by rw [List.map_nil] at r; cases r; exact ⟨[],True.intro,.nil⟩
  | p :: kvs,_,r=>by
    rw [List.map_cons] at r
    cases r with
    | @cons a b as bs h t =>
      obtain ⟨rs,c,q⟩:=lH (P:=P) (w:=w) t
      obtain ⟨b1,b2⟩:=b
      exact ⟨(p.1,b2) :: rs,⟨wG h.1,rfl,c⟩,.cons ⟨rfl,h.2⟩ q⟩
def B6 (trs:List (TE × TE)):TE:=fun σ H Q=>∀ p,H p = none→sF trs σ (upd H p (.dK [])) fun ps H2=>H2 p = some (.dK [])∧∃ kvs:List (Key × V),ps = kvs.map (fun kv=>(kV kv.1,kv.2))∧kvs.length ≤ 15∧Q (.ref p) (upd H2 p (.dK (ki [] kvs)))
theorem y0 {X:Cx} {pos:Pos} {keys:List (Option Expr)} {values:List Expr} {trs:List (TE × TE)} (h:PPs X pos keys values trs) (hall:keys.all (·.isSome) = true) (hl:keys.length = values.length) (h0:keys ≠ [])
    (h15:keys.length ≤ 15):PE X (.Dict keys values pos) (B6 trs):=by
  intro pins s σ H Q I q
  have hn:=I.hok.fresh (Nat.le_refl s.heap.objs.size)
  have I1:=I.laid (a:=s.heap.objs.size) (o:=.dK []) (h':=s.heap.push { cls:=.type "dict",data:=.dict #[] }) (t':=s.toks) (fun _ _ q=>Heap.get?_push_of_some _ q) (Nat.le_refl _) (wb s.heap I.big)
  refine wpAny_Dict_walk (knd:=de X.prog X.w) hall hl h0 h15 (thn (h pins _ σ _ _ I1 (q _ hn)) fun ws s2 ⟨ps,H2,I2,rel,e,kvs,ep,lk,q2⟩=>?_)
  subst ep
  obtain ⟨rs,c,rk⟩:=lH (P:=X.prog) (w:=X.w) rel
  obtain ⟨z,hd,vs0,r0,dd⟩:=BD I2.hok e
  cases r0
  refine ⟨rs,c,dd,fun h' dd' hs=>⟨.ref s.heap.objs.size,_,?_,rfl,q2⟩⟩
  have hz:(ki [] kvs).length ≤ sizeLine:=by
    have h1:=i3 kvs []
    rw [List.length_nil] at h1
    rw [sizeLine_eq]; omega
  have he:∃ q,h'.get? s.heap.objs.size = some q:=let ⟨q,_,_,hq,_⟩:=dd'; ⟨q,hq⟩
  exact yy I2 (by rw [e]; exact True.intro) hs he (AG hz hd (rk.merge .nil) dd')
structure M2 (X:Cx) (o:Expr) (m:Str) (apos:Pos) (e f:Expr) (cpos:Pos):Prop where
  base:attributeBase o m X.env (eval o X.env) = eval o X.env
  few:((backTo cpos (starEach [e,f] X.env)).all (fun x=>!x.1) && (backToKw cpos (keywordEach [] X.env)).all (fun x=>x.1.isSome)
    && decide (([e,f]:List Expr).length + ([]:List Keyword).length + (if ([]:List Keyword).isEmpty then 0 else 1) < 30)) = true
  line:(apos.endLine == cpos.line) = true
  trees:backTo cpos (starEach [e,f] X.env) = [(false,eval e X.env),(false,eval f X.env)]
section
variable {X:Cx} {pins:List (Addr × Obj)} {σ:St} {H:Hp} {s:Shared} {a:Addr} {y d:V} {u r:Value} {o:Option V} {A:Around} {E:Value→Shared→Prop}
end
section
variable {X:Cx} {o e f:Expr} {apos cpos:Pos} {td ty tx:TE}
end
section
variable {X:Cx} {pins:List (Addr × Obj)} {σ:St} {H:Hp} {s:Shared} {a:Addr} {kvs:List (Key × V)} {A:Around} {E:Value→Shared→Prop}
end
section
variable {X:Cx} {pins:List (Addr × Obj)} {σ:St} {H:Hp} {s:Shared} {a:Addr} {y:V} {u:Value} {A:Around} {E:Value→Shared→Prop}
end
end L2
namespace Att
open PySem PySem.W PySem.Calls PyProof.Rows
theorem kQ {P:Params} {h:Heap}:∀ (ns:List Int) (vs:List Value),WellAll P h vs (ns.map WData.int)→IntsAre vs ns:=by
  intro ns
  induction ns with
  | nil =>
    intro vs w
    rw [List.map_nil] at w
    cases w
    exact .nil
  | cons n ns ih =>
    intro vs w
    rw [List.map_cons] at w
    cases w with
    | cons a b =>
      cases a
      exact .cons _ _ (ih _ b)
theorem u0 {l:OpenLaw} {n:Nat} (hn:l.most = some n) {P:Params} {h:Heap} {args:List WData} {vals:List Value}
    (hpre:l.row.toRowW.claim.pre args = true) (hwl:WellAll P h vals args) :
    ∃ a vs ns,vals = [Value.ref a]∧args = [WData.list (ns.map WData.int)]∧h.get? a = some { cls:=.type "list",data:=.seq vs.toArray }∧IntsAre vs ns∧ns.length ≤ n:=by
  have hsh:WShape.hasAll [] args [.list .int] = true:=(pre_splitW hpre).1
  have hc:l.pre.holds [] { args:=args } = true:=(pre_splitW hpre).2
  obtain ⟨d,r,rfl,h1,h2⟩:=hasAllW_cons hsh
  obtain rfl:=hasAllW_nil h2
  obtain ⟨xs,rfl,h3⟩:=hasW_list h1
  obtain ⟨ns,rfl⟩:=items_int h3
  have hlen:ns.length ≤ n:=by
    unfold OpenLaw.pre at hc
    have h4:(WTm.not (.lt (.lit (.int (n:Int))) (.len (.arg 0)))).holds [] { args:=[.list (ns.map .int)] } = true:=by
      have h4:=(holds_andW hc).1
      rw [hn] at h4
      exact h4
    have h5:=condW_of h4 (w_not (w_lt w_lit (w_len_list (w_arg rfl))))
    rw [List.length_map] at h5
    refine Nat.le_of_not_lt fun q=>?_
    have q':(n:Int) < ((ns.length:Nat):Int):=by omega
    first
      | (rw [decide_eq_true q'] at h5; exact absurd h5 (by decide))
      | (simp at h5; omega)
  cases hwl with
  | cons w1 w2 =>
    cases w2
    cases w1 with
    | list ho hall=>exact ⟨_,_,ns,rfl,rfl,ho,kQ ns _ hall,hlen⟩
theorem uQ (l:OpenLaw) (args:List WData):l.row.toRowW.claim.post args (.bool true) args = true :=
  postW_of (r:=l.row.toRowW) (X:=(true == true))
    (show WShape.has [] (.bool true) .bool = true by first | rfl | decide | simp [WShape.has,WShape.arms,WShape.armsAll])
    (show (WTm.eq .res (.lit (.bool true))).value [] { args:=args,res:=some (.bool true),after:=args } = some (.bool (true == true)) from w_eq_bool (w_res rfl) w_lit) rfl
theorem attach_call {l:OpenLaw} {n:Nat} {q:Program} {loose:List Str} {XP:(Str→Option Value)→Heap→Prop} {YP:World→Heap→Prop} {d:DefRec}
    (hn:l.most = some n) (hdf:d.params.defaults = [])
    (call:∀ (w:World) (s₀ s₁:Shared) (mg mb:Str→Option Value) (fa:Addr) (o:Obj) (pm cd doc:Value) (a:Addr) (vs:List Value) (ns:List Int),
      Ground q loose [] XP w s₀ mg mb s₁.heap→YP w s₁.heap →
      s₁.heap.get? fa = some o→o.data = .func (docDef d.name d.params d.body d.scope pm cd doc)→s₁.heap.CodeRec cd d.name→mg d.name = some (.ref fa) →
      s₁.heap.get? a = some { cls:=.type "list",data:=.seq vs.toArray }→IntsAre vs ns→ns.length ≤ n→s₁.gens = #[] →
      codeAny (model l.prog w) callerA (.call (.ref fa) ⟨[.ref a],[]⟩) (fun r s'=>r = .ok (.ret (.bool true))∧OldK s₁.heap s'.heap∧s'.os = s₁.os∧AllBare s'.gens) s₁) :
    WalkO q loose XP YP l.row.toRowW d [] (fun f vs=>PySem.call f vs):=by
  intro w s₀ s₁ mg mb G Y fa o pm cd doc dV kV ho hd hcd hD hmg hg args vals as hpre hlay hrd hwl hlo
  obtain rfl:dV = .none:=Dflts.none hD hdf
  obtain rfl:kV = .none:=Dflts.noKw hD
  obtain ⟨a,vs,ns,rfl,rfl,hobj,hints,hlen⟩:=u0 hn hpre hwl
  refine enter_call (codeAny_mono (call w s₀ s₁ mg mb fa o pm cd doc a vs ns G Y ho (fd_plain hd) hcd hmg hobj hints hlen hg) fun r s' hq=>?_)
  obtain ⟨rfl,h2,h3,h4⟩:=hq
  exact ⟨.inl ⟨.bool true,.bool true,[],rfl,fun _=>rfl,.bool true,uQ l _,fun _=>⟨List.Pairwise.nil,fun _ hm=>(nomatch hm)⟩⟩,h2,h3,h4⟩
section
variable {prog:Program} {w:World} {A:Around} {E:Value→Shared→Prop} {s:Shared} {K:Frag}
end
end Att
namespace L2
open PySem PySem.Spec PyProof.Rows
theorem nV:∀ {vs:List Value} {ns:List Int},IntsAre vs ns→Vals (ns.map V.int) vs
  | _,_,.nil=>.nil
  | _,_,.cons n t h=>.cons ⟨t,rfl⟩ (nV h)
def yq (H:Hp):Prop:=∀ b,H b = none∨∃ o xs,H b = some (.frz o (.lst xs))
theorem wL {P:Program} {w:World} {K:PySem.W.Frag} {mg mb:Str→Option Value} {CX:CXT} {k:Nat} {fa a:Addr} {fd:FuncData} {x:Str} {sp:Sp} {s₁:Shared} {vs:List Value} {ns:List Int}
    (KX:K.In s₁.heap) (hns:s₁.heap.Ns mainGlobals mg) (hb:s₁.heap.Ns builtinsNs mb) (hbb:∀ x:Str,x ≠ "__name__"→mb x = bootBuiltins x) (hlim:s₁.heap.NoLimit) (hg:s₁.gens = #[])
    (ha:s₁.heap.get? a = some { cls:=.type "list",data:=.seq vs.toArray }) (hi:IntsAre vs ns) (hl:ns.length ≤ sizeLine) (hr:Room k callerA)
    (F:∀ base:Heap,K.In base→base.Ns mainGlobals mg→FnOk P w K mg base CX k fa fd [x] sp) (hbind:∀ (s:Shared) (u:Value),BindsTo s fd ⟨[u],[]⟩ [(x,u)])
    (hsp:∀ H:Hp,yq H→SqL K H a (ns.map V.int)→sp [.ref a] H (fun v _=>v = .bl true) fun _ _ _=>False)
    (hCX:∀ H e s',CX [] H s₁ (fun _ _ _=>False) e s'→False) :
    codeAny (model P w) callerA (.call (.ref fa) ⟨[.ref a],[]⟩) (fun r s'=>r = .ok (.ret (.bool true))∧OldK s₁.heap s'.heap∧s'.os = s₁.os∧AllBare s'.gens) s₁:=by
  have rv:=nV hi
  have lenV:=hi.length
  have core:∀ H:Hp,yq H→SqL K H a (ns.map V.int)→HOk P w H s₁.heap→(∀ b,H b ≠ none→b = a)→(H a ≠ none→K.lookup a = none) →
      codeAny (model P w) callerA (.call (.ref fa) ⟨[.ref a],[]⟩) (fun r s'=>r = .ok (.ret (.bool true))∧OldK s₁.heap s'.heap∧s'.os = s₁.os∧AllBare s'.gens) s₁:=by
    intro H hO hS hok hA hK
    have base_of:∀ {b:Addr} {o:Obj},s₁.heap.get? b = some o→H b = none→(oF s₁.heap H).get? b = some o:=fun e n=>wA e n
    have noA:∀ {b:Addr} {o:Obj} {es:Array DictEntry} {ep:Nat},s₁.heap.get? b = some o→o.data = .dict es ep→H b = none:=fun {b o es ep} e d=>by
      cases q:H b with
      | none=>rfl
      | some u =>
        have e':b = a:=hA b (by rw [q]; simp)
        subst e'
        rw [ha] at e; cases e
        have d':Data.seq vs.toArray _ = Data.dict es ep:=d
        cases d'
    have nsK:∀ {b:Addr} {m:Str→Option Value},s₁.heap.Ns b m→(oF s₁.heap H).Ns b m:=fun {b m} ⟨o,es,ep,e,d,r⟩=>⟨o,es,ep,base_of e (noA e d),d,r⟩
    have hKb:K.In (oF s₁.heap H):=fun b o e=>base_of (KX b o e) (by
      cases q:H b with
      | none=>rfl
      | some u =>
        have e':b = a:=hA b (by rw [q]; simp)
        subst e'
        rw [hK (by rw [q]; simp)] at e; cases e)
    have hM:Mod K mg (oF s₁.heap H):=⟨hKb,nsK hns,⟨mb,nsK hb,hbb⟩,let ⟨mc,h1,h2⟩:=hlim; ⟨mc,nsK h1,h2⟩⟩
    have e0:ug P w K mg (oF s₁.heap H) callerA [] s₁ H:=⟨rfl,hM,fun b o e=>yV e,Nat.le_of_eq (uA _ _),trivial,fun b hb=>absurd (show b ∈ ([]:List Addr) from hb) (by simp),hok,.of_eq hg⟩
    refine codeAny_mono ((F _ hKb (nsK hns)).run callerA [] s₁ H ⟨[.ref a],[]⟩ [.ref a] [.ref a] _ _ hr e0 (hbind s₁ (.ref a)) (.cons rfl .nil) (hsp H hO hS)) fun r s' h=>?_
    cases r with
    | error e=>exact (hCX H e s' h).elim
    | ok fl =>
      cases fl with
      | next=>exact False.elim h
      | brk=>exact False.elim h
      | cont=>exact False.elim h
      | ret u =>
        obtain ⟨v,H',os,bare,un,hok',r',q⟩:=h
        have q':v = .bl true:=q
        subst q'
        obtain rfl:u = Value.bool true:=r'
        refine ⟨rfl,OldK.of_keep fun b o e=>?_,os,bare⟩
        cases q:H b with
        | none=>exact un.keep b o e q (by intro z; exact absurd (show b ∈ ([]:List Addr) from z) (by simp)) (by simp)
        | some u =>
          rcases hO b with z | ⟨ob,xs,z⟩
          · rw [q] at z; cases z
          · have z2:=un.frzs b ob _ z
            obtain ⟨e1,_⟩:=hok b _ z
            obtain ⟨e2,_⟩:=hok' b _ z2
            rw [e] at e1; cases e1
            exact e2
  cases hk:K.lookup a with
  | some o =>
    have e:=KX a o hk
    rw [ha] at e
    cases e
    refine core (fun _=>none) (fun _=>.inl rfl) (.inr ⟨_,vs.toArray,_,hk,rfl,rfl,rfl,by rw [List.size_toArray,lenV]; exact hl,by simpa using rv⟩) (fun b u z=>by have z':(none:Option HO) = some u:=z; cases z') (fun b z=>absurd rfl z) fun z=>absurd rfl z
  | none =>
    refine core (fun b=>if b = a then some (.frz { cls:=.type "list",data:=.seq vs.toArray } (.lst (ns.map V.int))) else none) (fun b=>?_) (.inl (.inr ⟨{ cls:=.type "list",data:=.seq vs.toArray },if_pos rfl⟩)) (fun b u z=>?_) (fun b z=>?_) fun _=>hk
    · by_cases hb:b = a
      · exact .inr ⟨_,_,if_pos hb⟩
      · exact .inl (if_neg hb)
    · by_cases hb:b = a
      · have z':=(if_pos hb).symm.trans z
        cases z'
        subst hb
        exact ⟨ha,by rw [List.length_map]; exact hl,vs,_,rv,ha⟩
      · have z':=(if_neg hb).symm.trans z
        cases z'
    · by_cases hb:b = a
      · exact hb
      · exact absurd (if_neg hb) z
end L2
namespace L2
open PySem PySem.Spec PyProof.Rows
theorem walk_of {l:PySem.W.OpenLaw} {n k:Nat} {q:Program} {loose:List Str} {XP:(Str→Option Value)→Heap→Prop} {YP:World→Heap→Prop} {d:DefRec} {K:Params→PySem.W.Frag} {CX:World→CXT} {sp:World→Sp} {x:Str}
    (hn:l.most = some n) (hn2:n ≤ sizeLine) (hdf:d.params.defaults = []) (hr:Room k callerA)
    (hY:∀ (w:World) (h:Heap),YP w h→(K w.params).In h)
    (F:∀ (w:World) (mg:Str→Option Value) (fa:Addr) (h:Heap),(K w.params).In h→h.Ns mainGlobals mg→mg d.name = some (.ref fa) →
      ∃ fd:FuncData,(∀ (s:Shared) (u:Value),BindsTo s fd ⟨[u],[]⟩ [(x,u)]) ∧
        ∀ base:Heap,(K w.params).In base→base.Ns mainGlobals mg→FnOk l.prog w (K w.params) mg base (CX w) k fa fd [x] (sp w))
    (hsp:∀ (w:World) (H:Hp) (a:Addr) (ns:List Int),ns.length ≤ n→yq H→SqL (K w.params) H a (ns.map V.int)→sp w [.ref a] H (fun v _=>v = .bl true) fun _ _ _=>False)
    (hCX:∀ (w:World) (H:Hp) (s:Shared) (e:Value) (s':Shared),CX w [] H s (fun _ _ _=>False) e s'→False) :
    PySem.W.WalkO q loose XP YP l.row.toRowW d [] (fun f vs=>PySem.call f vs):=by
  refine Att.attach_call hn hdf fun w s₀ s₁ mg mb fa o pm cd doc a vs ns G Y ho hd hcd hmg hobj hints hlen hg=>?_
  have KX:=hY w _ Y
  obtain ⟨fd,hb,hF⟩:=F w mg fa _ KX G.T.g hmg
  exact wL KX G.T.g G.T.b G.T.builtins G.T.nolimit hg hobj hints (Nat.le_trans hlen hn2) hr hF hb (fun H hO hS=>hsp w H a ns hlen hO hS) fun H e s'=>hCX w H s₁ e s'
end L2
namespace L2
open PySem PySem.Spec PyProof.Rows
def jy (s:Stmt):Arguments:=match s with
  | .FunctionDef _ a _ _ _ _ _ _ _ _=>a
  | _=>{ posonlyargs:=[],args:=[],vararg:=none,kwonlyargs:=[],kw_defaults:=[],kwarg:=none,defaults:=[] }
def fV (s:Stmt):List Stmt:=match s with
  | .FunctionDef _ _ b _ _ _ _ _ _ _=>b
  | _=>[]
def aB (s:Stmt):Scope:=match s with
  | .FunctionDef _ _ _ _ _ _ sc _ _ _=>sc
  | _=>{ kind:=.function,names:=[],isGenerator:=false,isCoroutine:=false }
abbrev CX0:CXT:=fun _ _ _ _ _ _=>False
abbrev E0:XK:=fun _ _ _=>False
theorem aZ {X:Cx}:jV CX0 X E0:=fun _ _ _ _ _ _ _ h=>h.elim
structure Fun (K:PySem.W.Frag) (x qual:Str) (st:Stmt) (f:Addr) (fd:FuncData):Prop where
  ex:∃ (oc:Value) (od:Option Addr) (kV doc pm:Value) (an:Option Addr) (cdv ct:Value) (osl:Array (Option Value)),
    fd = PySem.W.fnOf x qual (jy st) (fV st) (aB st) .none kV doc pm an cdv ct∧K.lookup f = some ⟨oc,od,.func fd,osl⟩∧PySem.W.codeIn K cdv qual = true
  kp:PySem.W.keepIn K (.ref f) = true
section
variable {P:Program} {w:World} {K:PySem.W.Frag} {mg:Str→Option Value} {base:Heap}
theorem Fun.ok {x qual:Str} {st:Stmt} {f:Addr} {fd:FuncData} {N ps:List Str} {k:Nat} {sp:Sp} (F:Fun K x qual st f fd) (S:ba N ps (aB st)) (len:∀ vs H Q E,sp vs H Q E→vs.length = ps.length)
    (hbody:∀ (cdv:Value) (A:Around) (outer:List Env) (s:Shared) (H:Hp) (vs:List V) (Q:VK) (E:XK),Room k (A.deeper (envOfC qual (aB st) s.heap.objs.size f cdv))→sp vs H Q E →
      ∃ t,PSs (jx CX0 P w K mg base N qual (aB st) f cdv A outer s H E).nox (fV st) t∧t { nx:=fun _ H'=>Q .non H',rt:=Q } (cX N vs) H):FnOk P w K mg base CX0 (k + 1) f fd ps sp:=by
  obtain ⟨oc,od,kV,doc,pm,an,cdv,ct,osl,rfl,lk,hcd⟩:=F.ex
  refine zR lk hcd S len fun A outer s H vs Q E hr hsp=>?_
  obtain ⟨t,h,q⟩:=hbody cdv A outer s H vs Q E hr hsp
  exact ⟨t,h.nox,q⟩
theorem Fun.binds {x qual:Str} {st:Stmt} {f:Addr} {fd:FuncData} {ps:List Str} (F:Fun K x qual st f fd)
    (h:∀ (kV doc pm:Value) (an:Option Addr) (cdv ct:Value) (us:List Value),us.length = ps.length→bindArgs (PySem.W.fnOf x qual (jy st) (fV st) (aB st) .none kV doc pm an cdv ct) ⟨us,[]⟩ = pure (ps.zip us)):Binds K fd ps []:=by
  obtain ⟨oc,od,kV,doc,pm,an,cdv,ct,osl,rfl,lk,hcd⟩:=F.ex
  exact .all (h kV doc pm an cdv ct)
theorem bw {x qual:Str} {st:Stmt} {f:Addr} {oc:Value} {od an:Option Addr} {osl:Array (Option Value)} {kV doc pm cdv ct:Value} (l:K.lookup f = some ⟨oc,od,.func (PySem.W.fnOf x qual (jy st) (fV st) (aB st) .none kV doc pm an cdv ct),osl⟩)
    (c:PySem.W.codeIn K cdv qual = true) (k:PySem.W.keepIn K (.ref f) = true):Fun K x qual st f (PySem.W.fnOf x qual (jy st) (fV st) (aB st) .none kV doc pm an cdv ct):=⟨⟨oc,od,kV,doc,pm,an,cdv,ct,osl,rfl,l,c⟩,k⟩
end
theorem tJ {A:Around} {k:Nat} (hr:Room k A):A.units + 1 < cLine:=Nat.lt_of_le_of_lt (Nat.add_le_add_left (by decide:1 ≤ 64) _) hr.units
theorem bJ {n:Nat} (h:n ≤ 1000):n < sizeLine:=Nat.lt_of_le_of_lt h (by decide)
section
variable {X:Cx}
theorem pv (i:Nat) {x:Str} {pos:Pos} (hN:X.N[i]? = some x:=by rfl) (hv:Vis X.env.scope x:=by first | exact Or.inl rfl | exact Or.inr (Or.inl rfl) | exact Or.inr (Or.inr rfl)) (hd:(x == ("__debug__":Str)) = false:=by decide)
    (hcd:(x == ("__classdict__":Str)) = false:=by decide):PE X (.Name x pos) (dJ i):=A3 hN hv hd hcd
end
theorem kR {A B:Prop} (h:B):if false = true then A else B:=by
  rw [if_neg Bool.false_ne_true]
  exact h
theorem jH {A B:Prop} (h:A):if true = true then A else B:=by
  rw [if_pos rfl]
  exact h
theorem mV {c A B:Prop} [Decidable c] (h1:c→A) (h2:¬ c→B):if c then A else B:=by
  by_cases h:c
  · rw [if_pos h]
    exact h1 h
  · rw [if_neg h]
    exact h2 h
def Same (H H':Hp):Prop:=∀ b o,H b = some o→H' b = some o
theorem Same.refl (H:Hp):Same H H:=fun _ _ h=>h
theorem Same.trans {H H1 H2:Hp} (a:Same H H1) (b:Same H1 H2):Same H H2:=fun c o h=>b c o (a c o h)
theorem Same.free {H H':Hp} (e:Same H H') {l:Addr} (h:H' l = Option.none):H l = Option.none:=by
  cases q:H l with
  | none=>rfl
  | some o =>
    rw [e l o q] at h
    cases h
theorem Same.seq {K:PySem.W.Frag} {H H':Hp} {a:Addr} {xs:List V} (e:Same H H') (h:SqL K H a xs):SqL K H' a xs:=by
  rcases h with (h | ⟨o,h⟩) | h
  · exact .inl (.inl (e _ _ h))
  · exact .inl (.inr ⟨o,e _ _ h⟩)
  · exact .inr h
section
variable {κ:Type} [DecidableEq κ]
end
end L2
end
section
namespace L2
open PySem PySem.Spec PyProof.Rows
def rk (env:Env) (x:Str) (k:NameKind):NameKind :=
  if (k == NameKind.free && env.scope.kind == .function && env.kindOf x == some .cell) = true then .cell else k
theorem pq (sc:Scope) (env:Env) (x:Str):(relabel sc env).names.lookup x = (sc.names.lookup x).map (rk env x):=by
  have all:∀ l:List (Str × NameKind),(l.map fun (n,k)=>if (k == NameKind.free && env.scope.kind == .function && env.kindOf n == some .cell) then (n,NameKind.cell) else (n,k)).lookup x = (l.lookup x).map (rk env x):=by
    intro l
    induction l with
    | nil=>rfl
    | cons p r ih =>
      obtain ⟨n,k⟩:=p
      rw [List.map_cons]
      cases hx:x == n with
      | true =>
        have e:x = n:=by simpa using hx
        subst e
        by_cases c:(k == NameKind.free && env.scope.kind == .function && env.kindOf x == some .cell) = true
        · simp [List.lookup_cons,rk,c]
        · simp [List.lookup_cons,rk,c]
      | false =>
        have e1:((n,k) :: r).lookup x = r.lookup x:=by rw [List.lookup_cons,hx]
        rw [e1,← ih]
        by_cases c:(k == NameKind.free && env.scope.kind == .function && env.kindOf n == some .cell) = true
        · show List.lookup x ((if (k == NameKind.free && env.scope.kind == .function && env.kindOf n == some .cell) = true then (n,NameKind.cell) else (n,k)) :: _) = _
          rw [if_pos c,List.lookup_cons,hx]
        · show List.lookup x ((if (k == NameKind.free && env.scope.kind == .function && env.kindOf n == some .cell) = true then (n,NameKind.cell) else (n,k)) :: _) = _
          rw [if_neg c,List.lookup_cons,hx]
  exact all sc.names
theorem zD {env:Env} {x:Str}:rk env x .free = .cell∨rk env x .free = .free:=by
  unfold rk
  split
  · exact .inl rfl
  · exact .inr rfl
theorem Bh {env:Env} {x:Str} {k:NameKind} (h:k ≠ .free):rk env x k = k:=by
  unfold rk
  rw [if_neg]
  intro c
  have:(k == NameKind.free) = true:=by
    cases q:(k == NameKind.free) with
    | true=>rfl
    | false=>rw [q] at c; simp at c
  exact h (by simpa using this)
def BR:Option NameKind→Bool
  | some .free=>true
  | _=>false
def BQ:Option NameKind→Bool
  | some .free=>true
  | some .cell=>true
  | _=>false
def BS:Option NameKind→Bool
  | some .local=>true
  | _=>false
theorem yK {o:Option NameKind} (h:BR o = true):o = some .free:=by
  cases o with
  | none=>cases h
  | some k=>cases k <;> first | rfl | cases h
theorem yJ {o:Option NameKind} (h:BQ o = true):o = some .cell∨o = some .free:=by
  cases o with
  | none=>cases h
  | some k=>cases k <;> first | exact .inl rfl | exact .inr rfl | cases h
theorem yL {o:Option NameKind} (h:BS o = true):o = some .local:=by
  cases o with
  | none=>cases h
  | some k=>cases k <;> first | rfl | cases h
def cm (N:List Str) (ok:Str→Option NameKind) (names:List (Str × NameKind)) (own:List Str) (fr:List Nat) (N':List Str):Bool :=
  decide (N' = own ++ fr.map fun j=>N.getD j "") && (fr.all fun j=>decide (j < N.length) && BR (names.lookup (N.getD j ""))) &&
    names.all fun p=>match p.2 with
      | .free=>BQ (ok p.1)
      | .cell=>false
      | .local=>BS (names.lookup p.1)
      | _=>true
structure Blk (N:List Str) (ok:Str→Option NameKind) (names:List (Str × NameKind)) (own:List Str) (fr:List Nat) (N':List Str):Prop where
  eN:N' = own ++ fr.map fun j=>N.getD j ""
  fr:∀ j ∈ fr,j < N.length∧names.lookup (N.getD j "") = some .free
  free:∀ p ∈ names,p.2 = .free→ok p.1 = some .cell∨ok p.1 = some .free
  cell:∀ p ∈ names,p.2 ≠ .cell
  loc:∀ p ∈ names,p.2 = .local→names.lookup p.1 = some .local
theorem vO {N:List Str} {ok:Str→Option NameKind} {names:List (Str × NameKind)} {own:List Str} {fr:List Nat} {N':List Str} (h:cm N ok names own fr N' = true):Blk N ok names own fr N':=by
  unfold cm at h
  rw [Bool.and_eq_true,Bool.and_eq_true] at h
  obtain ⟨⟨h1,h2⟩,h3⟩:=h
  have h3':=List.all_eq_true.mp h3
  refine ⟨of_decide_eq_true h1,fun j hj=>?_,fun p hp e=>?_,fun p hp e=>?_,fun p hp e=>?_⟩
  · have q:=List.all_eq_true.mp h2 j hj
    rw [Bool.and_eq_true] at q
    exact ⟨of_decide_eq_true q.1,yK q.2⟩
  · have q:=h3' p hp
    rw [e] at q
    exact yJ q
  · have q:=h3' p hp
    rw [e] at q
    cases q
  · have q:=h3' p hp
    rw [e] at q
    exact yL q
def mkS (own:List Str) (fr:List Nat) (σ:St):St:=own.map (fun _=>none) ++ fr.map fun j=>(σ[j]?).getD none
theorem BC (sc:Scope) (env:Env) (h:∀ p ∈ sc.names,p.2 = .free→∃ c,env.cells.lookup p.1 = some c) :
    ∃ cl,closureFor sc env = pure cl∧(∀ x c,cl.lookup x = some c→env.cells.lookup x = some c)∧∀ p ∈ sc.names,p.2 = .free→cl.lookup p.1 = env.cells.lookup p.1:=by
  unfold closureFor
  have all:∀ (l:List (Str × NameKind)) (acc:List (Str × Addr)),(∀ p ∈ l,p.2 = .free→∃ c,env.cells.lookup p.1 = some c)→(∀ x c,acc.lookup x = some c→env.cells.lookup x = some c) →
      ∃ cl,(forIn l acc fun (p:Str × NameKind) (r:List (Str × Addr))=>(match p with
        | (name,kind)=>if (kind == NameKind.free) = true then (do let a ← cellOf env name; pure (ForInStep.yield ((name,a) :: r))) else pure (ForInStep.yield r):Sem (ForInStep (List (Str × Addr))))) = pure cl ∧
        (∀ x c,cl.lookup x = some c→env.cells.lookup x = some c)∧(∀ p ∈ l,p.2 = .free→cl.lookup p.1 = env.cells.lookup p.1)∧∀ x,acc.lookup x = env.cells.lookup x→cl.lookup x = env.cells.lookup x:=by
    intro l
    induction l with
    | nil=>intro acc _ ha; exact ⟨acc,rfl,ha,fun p hp=>(by simp at hp),fun x e=>e⟩
    | cons p r ih =>
      intro acc hl ha
      obtain ⟨n,k⟩:=p
      rw [List.forIn_cons]
      by_cases hk:k = .free
      · subst hk
        obtain ⟨c,hc⟩:=hl (n,.free) List.mem_cons_self rfl
        have hce:cellOf env n = pure c:=by unfold cellOf; rw [hc]
        obtain ⟨cl,e1,e2,e3,e4⟩:=ih ((n,c) :: acc) (fun p hp=>hl p (List.mem_cons_of_mem _ hp)) (fun x c' e=>by
          rw [List.lookup_cons] at e
          cases hx:x == n with
          | true =>
            rw [hx] at e
            have:x = n:=by simpa using hx
            subst this
            cases e
            exact hc
          | false=>rw [hx] at e; exact ha x c' e)
        refine ⟨cl,?_,e2,fun p hp e=>?_,fun x e=>e4 x ?_⟩
        · simp only [beq_self_eq_true,if_true,hce]
          exact e1
        · rcases List.mem_cons.mp hp with rfl | hp
          · exact e4 n (by rw [List.lookup_cons]; simp [hc])
          · exact e3 p hp e
        · rw [List.lookup_cons]
          cases hx:x == n with
          | true =>
            have:x = n:=by simpa using hx
            subst this
            simp [hc]
          | false=>exact e
      · have hb:(k == NameKind.free) = false:=by simpa using hk
        obtain ⟨cl,e1,e2,e3,e4⟩:=ih acc (fun p hp=>hl p (List.mem_cons_of_mem _ hp)) ha
        refine ⟨cl,?_,e2,fun p hp e=>?_,e4⟩
        · simp only [hb,Bool.false_eq_true,if_false]
          exact e1
        · rcases List.mem_cons.mp hp with rfl | hp
          · exact absurd e hk
          · exact e3 p hp e
  obtain ⟨cl,e1,e2,e3,_⟩:=all sc.names [] h (fun x c e=>by simp at e)
  refine ⟨cl,?_,e2,e3⟩
  have e1':=congrArg (fun t:Sem (List (Str × Addr))=>t >>= fun cs=>pure cs) e1
  first
    | exact e1'
    | (simp only [pure_bind] at e1'; exact e1')
    | (refine Eq.trans ?_ e1'; rfl)
    | (dsimp only at e1' ⊢; exact e1')
def Cx.blk (X:Cx) (sc:Scope) (cl:List (Str × Addr)) (C:Addr) (N:List Str) (s:Shared) (H:Hp) (fp:List Addr):Cx where
  prog:=X.prog
  w:=X.w
  K:=X.K
  mg:=X.mg
  base:=X.base
  A:=X.A
  N:=N
  s₀:=s
  H₀:=H
  env:=compEnvC sc cl C X.env
  outer:=X.stack
  stack:=X.stack
  ex:=fp
  fn:=fun _=>false
  calm:=X.calm
  pn:=[]
  xe:=fun _ _=>False
section
variable {X:Cx} {pins:List (Addr × Obj)} {σ:St} {H:Hp} {s:Shared} {sc:Scope} {cl:List (Str × Addr)} {own:List Str} {fr:List Nat} {N':List Str} {fp:List Addr}
theorem uo (I:Inv X pins σ H s) (B:Blk X.N X.env.kindOf sc.names own fr N') (hk:sc.kind = .function)
    (sub:∀ x c,cl.lookup x = some c→X.env.cells.lookup x = some c) (has:∀ p ∈ sc.names,p.2 = .free→cl.lookup p.1 = X.env.cells.lookup p.1)
    (f2:∀ b ∈ fp,mM X pins H b) (fo:∀ b ∈ fp,b < s.heap.objs.size) {h1:Heap} {tk:Nat} {C D:Addr} {n:Nat} (eD:D = s.heap.objs.size) (eC:s.heap.objs.size < C)
    (hns:h1.Ns C (fun _=>none)) (old:∀ b o,s.heap.get? b = some o→h1.get? b = some o) (hD:h1.get? D = some { cls:=.type "list",data:=.seq ([]:List Value).toArray n }) :
    Inv (X.blk sc cl C N' s H fp) [] (mkS own fr σ) (upd H D (.lst [])) { s with heap:=h1,toks:=tk }:=by
  have hcells:∀ x c,cl.lookup x = some c→c < s.heap.objs.size:=fun x c e=>by
    obtain ⟨v,q⟩:=I.cell x c (sub x c e)
    exact q.lt
  have hDn:H D = none:=I.hok.fresh (Nat.le_of_eq eD.symm)
  have kind:∀ x,(X.blk sc cl C N' s H fp).env.kindOf x = (sc.names.lookup x).map (rk X.env x):=fun x=>pq sc X.env x
  refine ⟨⟨I.ok.mod,hk,I.ok.glob,I.ok.blt,Nat.le_of_lt eC,fun x y c e1 e2=>I.ok.inj x y c (sub x c e1) (sub y c e2),fun x hx=>?_,(fun x c e=>nomatch (show false = true from e)),I.ok.hd,I.ok.frames,.inl rfl,fun b hb=>⟨?_,fun x c e=>?_⟩,I.bs,Nat.le_trans I.ok.bsz I.sz,fun b o e hb=>?_,fun b hb=>?_,I.stack,I.stkFree⟩,
    rfl,I.bare,Un.laid old (Nat.le_of_eq eD.symm) hDn,⟨_,hns,fun i x v e1 e2 e3=>?_⟩,fun x c e=>?_,?_,fun x c e=>?_,fun p hp=>?_,I.hok.laid old (Nat.le_of_eq eD.symm) ⟨Nat.zero_le _,[],n,.nil,hD⟩,?_⟩
  · have hx':(sc.names.lookup x).map (rk X.env x) = some .cell∨(sc.names.lookup x).map (rk X.env x) = some .free:=by
      rw [← kind x]; exact hx
    cases q:sc.names.lookup x with
    | none=>rw [q] at hx'; simp at hx'
    | some k =>
      have hm:=PySem.mem_of_lookup q
      by_cases hf:k = .free
      · subst hf
        show ∃ c,cl.lookup x = some c
        rw [has _ hm rfl]
        have z:=B.free _ hm rfl
        exact I.ok.has x z
      · rw [q] at hx'
        simp only [Option.map_some,Bh hf] at hx'
        rcases hx' with z | z
        · exact absurd (Option.some.inj z) (B.cell _ hm)
        · exact absurd (Option.some.inj z) hf
  · exact Nat.ne_of_lt (Nat.lt_trans (fo b hb) eC)
  · exact (f2 b hb).2.2.2.2.1 x c (sub x c e)
  · rcases (f2 b hb).2.2.2.1 with z | z
    · exact I.ok.noex b o e z
    · exact absurd (Nat.lt_of_lt_of_le (Heap.lt_size e) (Nat.le_trans I.ok.bsz z)) (Nat.lt_irrefl _)
  · intro z
    rcases List.mem_cons.mp (I.stkSub b z) with e | e
    · exact (f2 b hb).2.1 e
    · exact (f2 b hb).2.2.1 e
  ·
    have e1':N'[i]? = some x:=e1
    have hi:¬ i < own.length:=fun z=>by
      unfold mkS at e2
      rw [List.getElem?_append_left (by simpa using z),List.getElem?_map,List.getElem?_eq_getElem z] at e2
      cases e2
    unfold mkS at e2
    rw [List.getElem?_append_right (by simpa using hi),List.length_map,List.getElem?_map] at e2
    rw [B.eN,List.getElem?_append_right (by simpa using hi),List.getElem?_map] at e1'
    cases q:fr[i - own.length]? with
    | none=>rw [q] at e2; cases e2
    | some j =>
      rw [q] at e2 e1'
      simp only [Option.map_some,Option.some.injEq] at e2 e1'
      obtain ⟨hj,hfr⟩:=B.fr j (List.mem_of_getElem? q)
      have ej:X.N[j]? = some x:=by
        rw [← e1',List.getD_eq_getElem?_getD,List.getElem?_eq_getElem hj]; rfl
      have eσ:σ[j]? = some (some v):=by
        cases z:σ[j]? with
        | none=>rw [z] at e2; cases e2
        | some o=>rw [z] at e2; simp only [Option.getD_some] at e2; rw [e2]
      rw [e1'] at hfr
      have hm:=PySem.mem_of_lookup hfr
      have hok:=B.free _ hm rfl
      obtain ⟨m0,hn0,hl0⟩:=I.loc
      have hv:Vis X.env.scope x:=by
        rcases hok with z | z
        · exact .inr (.inl z)
        · exact .inr (.inr z)
      obtain ⟨u,r,l⟩:=hl0 j x v ej eσ hv
      refine ⟨u,r,?_⟩
      rcases l with ⟨z,_⟩ | ⟨_,c,hc,o,ho,hd⟩
      · have hok':X.env.kindOf x = some .cell∨X.env.kindOf x = some .free:=hok
        rw [z] at hok'
        rcases hok' with y | y <;> cases y
      · refine .inr ⟨?_,c,?_,o,old c o ho,hd⟩
        · rw [kind x,hfr]
          rcases zD (env:=X.env) (x:=x) with y | y
          · exact .inl (by rw [Option.map_some,y])
          · exact .inr (by rw [Option.map_some,y])
        · show cl.lookup x = some c
          have z:=has _ hm rfl
          exact z.trans hc
  · obtain ⟨v,o,ho,hd⟩:=I.cell x c (sub x c e)
    exact ⟨v,o,old c o ho,hd⟩
  · show upd H D _ C = none
    rw [aJ (by rw [eD]; exact Nat.ne_of_gt eC)]
    exact I.hok.fresh (Nat.le_of_lt eC)
  · show upd H D _ c = none
    rw [aJ (by rw [eD]; exact Nat.ne_of_lt (hcells x c e))]
    exact I.freeC x c (sub x c e)
  · exact absurd (show p ∈ ([]:List (Addr × Obj)) from hp) (by simp)
  · show (mkS own fr σ).length = N'.length
    rw [B.eN]
    simp [mkS]
theorem sU {C:Addr} {σ':St} {H':Hp} {s':Shared} (I:Inv X pins σ H s) (f2:∀ b ∈ fp,mM X pins H b) (J:Inv (X.blk sc cl C N' s H fp) [] σ' H' s'):Inv X pins σ H' s' :=
  I.call' (ch:=fp) J.os J.base J.hok J.bare fun b hb=>⟨(f2 b hb).2.2.2.1,(f2 b hb).2.1,(f2 b hb).2.2.2.2.1,(f2 b hb).2.2.2.2.2⟩
theorem Inv.young {C:Addr} {s0:Shared} {H0:Hp} {σ0:St} {h':Heap} (I0:Inv X pins σ0 H0 s0) (I:Inv X pins σ H s) (hC:s0.heap.objs.size ≤ C) (hn:H C = none) (hs:Heap.SameBut C s.heap h'):Inv X pins σ H { s with heap:=h' } :=
  I.turned (t':=s.toks) (fun b o hb e=>(hs.2 b hb).trans e) hn (Nat.ne_of_gt (Nat.lt_of_lt_of_le I0.lt hC)) (.inr (Nat.le_trans I0.sz hC))
    (fun x c e z=>by
      obtain ⟨v,q⟩:=I0.cell x c e
      exact absurd (Nat.lt_of_lt_of_le q.lt (by rw [z]; exact hC)) (Nat.lt_irrefl _))
    (fun p hp z=>absurd (Nat.lt_of_lt_of_le (Heap.lt_size (I0.pin p hp).1) (by rw [z]; exact hC)) (Nat.lt_irrefl _))
end
def vA (X:Cx) (ifs:List Expr) (t:TT):Prop :=
  ∀ (pins:List (Addr × Obj)) (s:Shared) (σ:St) (H:Hp) (Q:Bool→Hp→Prop),Inv X pins σ H s→t σ H Q →
    wpAny (model X.prog X.w) X.A (forIn ifs true fun c r=>if r = true then do let ok ← isTrue c X.env (eval c X.env); pure (ForInStep.yield ok) else pure (ForInStep.yield r)) (TP X pins σ Q) X.xe s
def dN:TT:=fun _ H Q=>Q true H
theorem b9 {X:Cx}:vA X [] dN:=fun pins s σ H Q I h=>wpAny_tests_nil ⟨H,I,h⟩
theorem mx {X:Cx} {c:Expr} {t:TT} (h:PT X c t):vA X [c] t:=fun pins s σ H Q I hw=>wpAny_tests_one (h pins s σ H Q I hw)
section
variable {prog:Program} {w:World} {A:Around} {R:Result→Shared→Prop} {s:Shared}
theorem ou {elt target iter:Expr} {ifs:List Expr} {scope:Scope} {pos:Pos} {it acc:Value} {env:Env} (J:Nat→Shared→Prop)
    (turn:∀ n s,J n s→wpAny (model prog w) A (pyNext it) (fun r s₁=>match r with
      | none=>R (.ok .next) s₁
      | some v=>wpAny (model prog w) A (letOwnedTupleGo target it v) (fun _ s₂=>wpAny (model prog w) A (assign target env v) (fun _ s₃ =>
          wpAny (model prog w) A (forIn ifs true fun c r=>if r = true then do let ok ← isTrue c env (eval c env); pure (ForInStep.yield ok) else pure (ForInStep.yield r)) (fun ok s₄ =>
            if ok = true then wpAny (model prog w) A (eval elt env) (fun x s₅=>wpAny (model prog w) A (call (.builtin "list.append") [acc,x]) (fun _ s₆=>∃ m,m < n∧J m s₆) (fun _ _=>False) s₅) (fun _ _=>False) s₄
            else ∃ m,m < n∧J m s₄) (fun _ _=>False) s₃) (fun _ _=>False) s₂) (fun _ _=>False) s₁) (fun _ _=>False) s)
    (n:Nat) (h:J n s):codeAny (model prog w) A (.compLoop (.ListComp elt [⟨target,iter,ifs,0⟩] scope pos) 0 it acc env) R s:=by
  refine codeAny_loop rfl J (fun n s hJ=>?_) n h
  show wpAny (model prog w) A ((compTurn (.ListComp elt [⟨target,iter,ifs,0⟩] scope pos) 0 it acc env).onRaise fun x=>do noteFrame x env; theTreesLotGoes x) _ _ s
  refine wpAny_noted (wpAny_noRaise ?_)
  rw [compTurn_list]
  refine wpAny_bind (wpAny_standAt (wpAny_bind (thn (turn n s hJ) fun r s₁ h₁=>?_)))
  cases r with
  | none=>exact wpAny_pure h₁
  | some v =>
    refine wpAny_bind (thn h₁ fun _ s₂ h₂=>wpAny_bind (thn h₂ fun _ s₃ h₃=>wpAny_bind (thn h₃ fun ok s₄ h₄=>?_)))
    cases ok with
    | false=>exact wpAny_pure ⟨rfl,h₄⟩
    | true=>exact wpAny_bind (wpAny_bind (thn h₄ fun x s₅ h₅=>wpAny_bind (thn h₅ fun _ s₆ h₆=>wpAny_pure (wpAny_pure ⟨rfl,h₆⟩))))
end
def fC (wi:TI) (mk:St→St) (g:TG) (tt:TT) (te:TE):TE:=fun σ H Q=>wi σ H fun J H1=>∀ D,H1 D = none→∃ W:Nat→Nat→St→Hp→Prop,(∃ m,W 0 m (mk σ) (upd H1 D (.lst [])))∧∀ i m σ' H',W i m σ' H' →
  (J.stop i H'∧Q (.ref D) H') ∨
  (J.go i H'∧∃ Nx:St→Hp→Prop,(∀ σ'' H'',Nx σ'' H''→∃ m',m' < m∧W (i + 1) m' σ'' H'')∧∀ x H'',J.yld i H' x H''→g x σ' H'' fun σ2 H2=>tt σ2 H2 fun b H3 =>
    if b = true then te σ2 H3 fun v H4=>∃ ys,H4 D = some (.lst ys)∧ys.length < sizeLine∧Nx σ2 (upd H4 D (.lst (ys ++ [v]))) else Nx σ2 H3)
section
variable {X:Cx} {elt iter tg:Expr} {ifs:List Expr} {sc:Scope} {pos:Pos} {wi:TI} {own:List Str} {fr:List Nat} {N':List Str} {g:TG} {tt:TT} {te:TE}
theorem pW {pins:List (Addr × Obj)} {σ:St} {H:Hp} {s:Shared} {cl:List (Str × Addr)} {fp:List Addr} {it:Addr} {J:It} {tn:Nat→Heap→Prop} {E:Value→Shared→Prop} {Q:VK} {RR:Value→Addr→Result→Shared→Prop}
    (I:Inv X pins σ H s) (B:Blk X.N X.env.kindOf sc.names own fr N') (hk:sc.kind = .function) (hc:X.calm = true)
    (sub:∀ x c,cl.lookup x = some c→X.env.cells.lookup x = some c) (has:∀ p ∈ sc.names,p.2 = .free→cl.lookup p.1 = X.env.cells.lookup p.1)
    (T:mO X.prog X.w X.K tg J fp it tn) (st:tn 0 s.heap) (f2:∀ b ∈ fp,mM X pins H b)
    (hg:∀ cl C s H fp,PG (X.blk sc cl C N' s H fp) tg g) (ht:∀ cl C s H fp,vA (X.blk sc cl C N' s H fp) ifs tt) (he:∀ cl C s H fp,PE (X.blk sc cl C N' s H fp) elt te)
    (hw:∀ D,H D = none→∃ W:Nat→Nat→St→Hp→Prop,(∃ m,W 0 m (mkS own fr σ) (upd H D (.lst [])))∧∀ i m σ' H',W i m σ' H' →
      (J.stop i H'∧Q (.ref D) H') ∨
      (J.go i H'∧∃ Nx:St→Hp→Prop,(∀ σ'' H'',Nx σ'' H''→∃ m',m' < m∧W (i + 1) m' σ'' H'')∧∀ x H'',J.yld i H' x H''→g x σ' H'' fun σ2 H2=>tt σ2 H2 fun b H3 =>
        if b = true then te σ2 H3 fun v H4=>∃ ys,H4 D = some (.lst ys)∧ys.length < sizeLine∧Nx σ2 (upd H4 D (.lst (ys ++ [v]))) else Nx σ2 H3))
    (hRR:∀ D C σ' H' s',D = s.heap.objs.size→s.heap.objs.size ≤ C→Inv (X.blk sc cl C N' s H fp) [] σ' H' s'→Q (.ref D) H'→RR (.ref D) C (.ok .next) s') :
    wpAny (model X.prog X.w) X.A (newList []) (fun acc s₃=>wpAny (model X.prog X.w) X.A (newFunctionEnv sc X.env.globals cl [] X.env.qual none .none (some X.env)) (fun cenv s₄ =>
      codeAny (model X.prog X.w) X.A (.compStart (.ListComp elt [⟨tg,iter,ifs,0⟩] sc pos) 0 (.ref it) acc { cenv with scope:=relabel sc X.env }) (RR acc cenv.locals) s₄) E s₃) E s:=by
  have fo:∀ b ∈ fp,b < s.heap.objs.size:=fun b hb=>by
    obtain ⟨o,e,_⟩:=T.obj _ _ st b hb
    exact Heap.lt_size e
  refine wpAny_newObj_type (wpAny_newFunctionEnv B.cell (by intro y hy; simp at hy) (fun h₁ hns₁ hsb₁=>?_) hk)
  dsimp only at hns₁ hsb₁ ⊢
  generalize hH2:s.heap.push { cls:=.type "list",dict:=none,data:=.seq ([]:List Value).toArray } = G at hns₁ hsb₁ ⊢
  have hG:G.objs.size = s.heap.objs.size + 1:=by rw [← hH2,Heap.size_push]
  have hlt:s.heap.objs.size < G.objs.size:=by rw [hG]; exact Nat.lt_succ_self _
  have old:∀ b o,s.heap.get? b = some o→h₁.get? b = some o:=fun b o e =>
    hsb₁.extBut b o (Nat.ne_of_lt (Nat.lt_trans (Heap.lt_size e) hlt)) (Heap.get?_push_of_some _ (hH2 ▸ Heap.get?_push_of_some _ e))
  have hacc:h₁.get? s.heap.objs.size = some { cls:=.type "list",data:=.seq ([]:List Value).toArray } :=
    hsb₁.extBut _ _ (Nat.ne_of_lt hlt) (Heap.get?_push_of_some _ (hH2 ▸ Heap.get?_push_size _ rfl))
  obtain ⟨W,⟨m0,w0⟩,turn⟩:=hw s.heap.objs.size (I.hok.fresh (Nat.le_refl _))
  have st₁:tn 0 h₁:=T.keep _ _ _ st fun b _ o e=>old b o e
  have hns':h₁.Ns G.objs.size (fun _=>none):=by
    have e:(fun x=>([]:List (Str × Value)).reverse.lookup x) = (fun _:Str=>(none:Option Value)):=by funext x; rfl
    first
      | exact hns₁
      | (rw [e] at hns₁; exact hns₁)
  have loop:∀ s₃:Shared,s₃ = { s with heap:=h₁,toks:=s.toks + ([]:List (Str × Value)).length } →
      codeAny (model X.prog X.w) X.A (.compLoop (.ListComp elt [⟨tg,iter,ifs,0⟩] sc pos) 0 (.ref it) (.ref s.heap.objs.size) (compEnvC sc cl G.objs.size X.env)) (RR (.ref s.heap.objs.size) G.objs.size) s₃:=by
    rintro s₃ rfl
    have I0:=uo (tk:=s.toks + ([]:List (Str × Value)).length) I B hk sub has f2 fo rfl hlt hns' old hacc
    have pI:∀ {pins':List (Addr × Obj)} {H':Hp},pins' = []→(∀ b ∈ fp,H' b = none)→∀ b ∈ fp,mM (X.blk sc cl G.objs.size N' s H fp) pins' H' b:=fun ep hn b hb=>by
      subst ep
      refine ⟨hn b hb,Nat.ne_of_lt (Nat.lt_trans (fo b hb) hlt),fun z=>?_,.inl hb,fun x c e=>(f2 b hb).2.2.2.2.1 x c (sub x c e),fun p hp=>absurd (show p ∈ ([]:List (Addr × Obj)) from hp) (by simp)⟩
      rcases List.mem_cons.mp (I.stkSub b z) with e | e
      · exact (f2 b hb).2.1 e
      · exact (f2 b hb).2.2.1 e
    have fr0:∀ b ∈ fp,upd H s.heap.objs.size (.lst []) b = none:=fun b hb=>by
      rw [aJ (Nat.ne_of_lt (fo b hb))]; exact (f2 b hb).1
    refine ou (fun n s'=>∃ i σ' H',Inv (X.blk sc cl G.objs.size N' s H fp) [] σ' H' s'∧tn i s'.heap∧(∀ b ∈ fp,H' b = none)∧W i n σ' H') ?_ m0 ⟨0,_,_,I0,st₁,fr0,w0⟩
    rintro n s3 ⟨i,σ3,H3,I3,st3,fr3,w3⟩
    rcases turn i n σ3 H3 w3 with ⟨stop,qn⟩ | ⟨go,Nx,hN,step⟩
    · refine thn (T.done (X.blk sc cl G.objs.size N' s H fp) rfl rfl rfl hc i [] s3 σ3 H3 _ I3 (pI rfl fr3) st3 stop) fun r s4 ⟨hr,I4⟩=>?_
      subst hr
      exact hRR _ _ _ _ _ rfl (Nat.le_of_lt hlt) I4 qn
    · refine thn (T.item (X.blk sc cl G.objs.size N' s H fp) rfl rfl rfl hc i [] s3 σ3 H3 _ I3 (pI rfl fr3) st3 go) fun r s4 ⟨u,hr,h4⟩=>?_
      subst hr
      refine thn h4 fun _ s5 ⟨x,H5,I5,r5,y5,st5,fr5⟩=>?_
      have I5':=I5.pinned (pI rfl fr5) (T.obj _ _ st5)
      refine thn (hg cl G.objs.size s H fp _ s5 σ3 H5 x u _ I5' r5 (step x H5 y5)) fun _ s6 ⟨σ6,H6,I6,q6⟩=>?_
      refine thn (ht cl G.objs.size s H fp _ s6 σ6 H6 _ I6 q6) fun ok s7 ⟨H7,I7,q7⟩=>?_
      have again:∀ {s8:Shared} {H8:Hp},Inv (X.blk sc cl G.objs.size N' s H fp) ([] ++ my fp s5.heap) σ6 H8 s8→Nx σ6 H8 →
          ∃ m,m < n∧∃ i σ' H',Inv (X.blk sc cl G.objs.size N' s H fp) [] σ' H' s8∧tn i s8.heap∧(∀ b ∈ fp,H' b = none)∧W i m σ' H':=fun {s8 H8} I8 n8=>by
        obtain ⟨m',hm,w8⟩:=hN σ6 H8 n8
        refine ⟨m',hm,i + 1,σ6,H8,I8.unpinned,T.keep _ _ _ st5 fun b hb o e=>(I8.pin (b,o) (List.mem_append_right _ (List.mem_append_right _ (hU hb e)))).1,fun b hb=>?_,w8⟩
        obtain ⟨o,e,d⟩:=T.obj _ _ st5 b hb
        exact (I8.pin (b,o) (List.mem_append_right _ (List.mem_append_right _ (hU hb e)))).2.1
      cases ok with
      | false =>
        rw [if_neg Bool.false_ne_true] at q7 ⊢
        exact again I7 q7
      | true =>
        rw [if_pos rfl] at q7 ⊢
        refine thn (he cl G.objs.size s H fp _ s7 σ6 H7 _ I7 q7) fun y s8 ⟨v,H8,I8,rv,ys,hD8,hz,nx⟩=>?_
        refine thn (bR (X:=X.blk sc cl G.objs.size N' s H fp) _ s8 σ6 H8 (.ref s.heap.objs.size) [v] (.ref s.heap.objs.size) [y] (fun _ H9=>Nx σ6 H9) I8 rfl (.cons rv .nil) ⟨_,ys,v,rfl,rfl,hD8,hz,nx⟩) fun _ s9 ⟨_,H9,I9,_,n9⟩=>?_
        exact again I9 n9
  exact codeAny_compStart_list (loop _ rfl) (T.self _ 0 _ _ _ st₁ (loop _ rfl))
theorem dk (hi:PI X tg iter wi) (hk:sc.kind = .function) (hb:cm X.N X.env.kindOf sc.names own fr N' = true) (hc:X.calm = true)
    (hg:∀ cl C s H fp,PG (X.blk sc cl C N' s H fp) tg g) (ht:∀ cl C s H fp,vA (X.blk sc cl C N' s H fp) ifs tt) (he:∀ cl C s H fp,PE (X.blk sc cl C N' s H fp) elt te)
    (hs:∀ x,foldedSetIterable iter X.env x = pure x:=by intro _; rfl):PE X (.ListComp elt [⟨tg,iter,ifs,0⟩] sc pos) (fC wi (mkS own fr) g tt te):=by
  intro pins s σ H Q I h
  have B:=vO hb
  obtain ⟨cl,hcl,sub,has⟩:=BC sc X.env fun p hp e=>I.ok.has p.1 (B.free p hp e)
  rw [eval_ListComp]
  refine wpAny_comprehension_free (use:=none) rfl hs hcl hk B.loc (thn (hi pins s σ H _ I h) fun v s1 h1=>thn h1 fun itv s2 h2=>?_)
  obtain ⟨it,fp,tn,J,H2,e,I2,T,st2,f2,body⟩:=h2
  subst e
  refine pW (RR:=fun acc C=>compPost (model X.prog X.w) X.A X.xe none (EP X pins σ Q) acc C) I2 B hk hc sub has T st2 f2 hg ht he body ?_
  intro D C σ' H' s' eD hC J' q
  obtain ⟨m,hn,_⟩:=J'.loc
  refine ⟨m,hn,fun h' hs'=>⟨.ref D,H',?_,rfl,q⟩⟩
  exact Inv.young I2 (sU I2 f2 J') hC J'.free hs'
theorem hW {i:Nat} {y:Str} {py spos:Pos} (hi:PI X tg iter wi) (hk:sc.kind = .function) (hb:cm X.N X.env.kindOf sc.names own fr N' = true) (hc:X.calm = true)
    (hg:∀ cl C s H fp,PG (X.blk sc cl C N' s H fp) tg g) (ht:∀ cl C s H fp,vA (X.blk sc cl C N' s H fp) ifs tt) (he:∀ cl C s H fp,PE (X.blk sc cl C N' s H fp) elt te)
    (hN:X.N.Nodup) (hy:X.N[i]? = some y) (hx:X.env.scope.names.lookup y = some .local)
    (hsw:swapsWith (.ListComp elt [⟨tg,iter,ifs,0⟩] sc pos) (some (.Name y py)) spos.line X.env = pure true)
    (hs:∀ x,foldedSetIterable iter X.env x = pure x:=by intro _; rfl):PS X (.Assign [.Name y py] (.ListComp elt [⟨tg,iter,ifs,0⟩] sc pos) spos) (pJ (fC wi (mkS own fr) g tt te) (bX i)):=by
  intro pins s σ H D I h
  have B:=vO hb
  obtain ⟨cl,hcl,sub,has⟩:=BC sc X.env fun p hp e=>I.ok.has p.1 (B.free p hp e)
  rw [exec_Assign_Name_used _ _ _ _ hsw]
  refine wpAny_bind (wpAny_standAt (wpAny_bind ?_))
  show wpAny _ _ (do let _ ← comprehension (.ListComp elt [⟨tg,iter,ifs,0⟩] sc pos) sc X.env _ (newList []) false (eval iter X.env) (some (assign (.Name y py) X.env))) _ _ s
  refine wpAny_bind (wpAny_mono (wpAny_comprehension_free (use:=some (assign (.Name y py) X.env)) (Q:=fun _ s'=>SP X pins D .next s') rfl hs hcl hk B.loc
    (thn (hi pins s σ H _ I h) fun v s1 h1=>thn h1 fun itv s2 h2=>?_)) (fun _ s' hq=>wpAny_pure (wpAny_pure hq)) fun _ _ e=>e)
  obtain ⟨it,fp,tn,J,H2,e,I2,T,st2,f2,body⟩:=h2
  subst e
  refine pW (Q:=fun v H'=>D.nx (σ.set i (some v)) H') (RR:=fun acc C=>compPost (model X.prog X.w) X.A X.xe (some (assign (.Name y py) X.env)) (fun _ s'=>SP X pins D .next s') acc C) I2 B hk hc sub has T st2 f2 hg ht he body ?_
  intro D' C σ' H' s' eD hC J' q
  have I3:=sU I2 f2 J'
  show wpAny _ _ (assign (.Name y py) X.env (.ref D')) _ _ s'
  refine wpAny_assign_Name (nQ I3 hN hy (.inl hx) (v:=.ref D') rfl (fun s4 I4 ⟨a,hsb,ha⟩=>?_) (.inr hx))
  obtain ⟨m,hn,_⟩:=J'.loc
  have hCa:C ≠ a:=by
    rcases ha with e | e
    · rw [e]; exact Nat.ne_of_gt (Nat.lt_of_lt_of_le I2.lt hC)
    · obtain ⟨v,z⟩:=I2.cell _ _ e
      exact Nat.ne_of_gt (Nat.lt_of_lt_of_le z.lt hC)
  refine ⟨m,hn.sameBut hsb hCa,fun h' hs'=>⟨_,H',?_,q⟩⟩
  exact Inv.young I2 I4 hC J'.free hs'
end
end L2
end
section
namespace L2
open PySem PySem.Spec PyProof.Rows
inductive D where
  | non | bl (b:Bool) | int (i:Int) | str (x:Str) | tup (ds:List D)
  | lst
mutual
def Dat (K:PySem.W.Frag) (H:Hp):D→V→Prop
  | .non,v=>v = .non
  | .bl b,v=>v = .bl b
  | .int i,v=>v = .int i
  | .str x,v=>v = .str x
  | .tup ds,v=>∃ a vs,v = .ref a∧SqT K H a vs∧Dats K H ds vs
  | .lst,v=>∃ a vs,v = .ref a∧SqL K H a vs
def Dats (K:PySem.W.Frag) (H:Hp):List D→List V→Prop
  | [],vs=>vs = []
  | d :: ds,vs=>∃ v r,vs = v :: r∧Dat K H d v∧Dats K H ds r
end
section
variable {K:PySem.W.Frag} {H H':Hp}
theorem Dat.tupI {a:Addr} {vs:List V} {ds:List D} (h:SqT K H a vs) (r:Dats K H ds vs):Dat K H (.tup ds) (.ref a):=by
  unfold Dat; exact ⟨a,vs,rfl,h,r⟩
theorem Dats.nil:Dats K H [] []:=by unfold Dats; rfl
theorem Dats.cons {d:D} {v:V} {ds:List D} {vs:List V} (h:Dat K H d v) (r:Dats K H ds vs):Dats K H (d :: ds) (v :: vs):=by
  unfold Dats; exact ⟨v,vs,rfl,h,r⟩
theorem Dat.intI (i:Int):Dat K H (.int i) (.int i):=by unfold Dat; rfl
theorem Dat.strI (x:Str):Dat K H (.str x) (.str x):=by unfold Dat; rfl
theorem Dat.blI (b:Bool):Dat K H (.bl b) (.bl b):=by unfold Dat; rfl
theorem Dat.nonI:Dat K H .non .non:=by unfold Dat; rfl
theorem Dat.lstI {a:Addr} {vs:List V} (h:SqL K H a vs):Dat K H .lst (.ref a):=by unfold Dat; exact ⟨a,vs,rfl,h⟩
theorem Dat.tupE {v:V} {ds:List D} (h:Dat K H (.tup ds) v):∃ a vs,v = .ref a∧SqT K H a vs∧Dats K H ds vs:=by
  unfold Dat at h; exact h
theorem Dat.intE {v:V} {i:Int} (h:Dat K H (.int i) v):v = .int i:=by unfold Dat at h; exact h
theorem Dat.strE {v:V} {x:Str} (h:Dat K H (.str x) v):v = .str x:=by unfold Dat at h; exact h
theorem Dat.blE {v:V} {b:Bool} (h:Dat K H (.bl b) v):v = .bl b:=by unfold Dat at h; exact h
theorem Dat.nonE {v:V} (h:Dat K H .non v):v = .non:=by unfold Dat at h; exact h
theorem Dat.lstE {v:V} (h:Dat K H .lst v):∃ a vs,v = .ref a∧SqL K H a vs:=by unfold Dat at h; exact h
theorem Dats.nilE {vs:List V} (h:Dats K H [] vs):vs = []:=by unfold Dats at h; exact h
theorem Dats.consE {d:D} {ds:List D} {vs:List V} (h:Dats K H (d :: ds) vs):∃ v r,vs = v :: r∧Dat K H d v∧Dats K H ds r:=by
  unfold Dats at h; exact h
structure cQ (K:PySem.W.Frag) (H H':Hp):Prop where
  tup:∀ a xs,SqT K H a xs→SqT K H' a xs
  lst:∀ a xs,SqL K H a xs→∃ ys,SqL K H' a ys
mutual
theorem Dat.mono (g:cQ K H H'):∀ (d:D) {v:V},Dat K H d v→Dat K H' d v
  | .non,v,h=>by unfold Dat at h ⊢; exact h
  | .bl b,v,h=>by unfold Dat at h ⊢; exact h
  | .int i,v,h=>by unfold Dat at h ⊢; exact h
  | .str x,v,h=>by unfold Dat at h ⊢; exact h
  | .tup ds,v,h=>by
    obtain ⟨a,vs,e,q,r⟩:=h.tupE
    subst e
    exact Dat.tupI (g.tup _ _ q) (Dats.mono g ds r)
  | .lst,v,h=>by
    obtain ⟨a,vs,e,q⟩:=h.lstE
    subst e
    obtain ⟨ys,q'⟩:=g.lst _ _ q
    exact Dat.lstI q'
theorem Dats.mono (g:cQ K H H'):∀ (ds:List D) {vs:List V},Dats K H ds vs→Dats K H' ds vs
  | [],vs,h=>by unfold Dats at h ⊢; exact h
  | d :: ds,vs,h=>by
    obtain ⟨v,r,e,h1,h2⟩:=h.consE
    subst e
    exact Dats.cons (Dat.mono g d h1) (Dats.mono g ds h2)
end
theorem Dats.length:∀ {ds:List D} {vs:List V},Dats K H ds vs→ds.length = vs.length
  | [],vs,h=>by rw [h.nilE]; rfl
  | d :: ds,vs,h=>by
    obtain ⟨v,r,e,h1,h2⟩:=h.consE
    subst e
    rw [List.length_cons,List.length_cons,Dats.length h2]
theorem Dats.get:∀ {ds:List D} {vs:List V} {i:Nat} {d:D},Dats K H ds vs→ds[i]? = some d→∃ v,vs[i]? = some v∧Dat K H d v
  | [],_,i,d,_,e=>by simp at e
  | d0 :: ds,vs,0,d,h,e=>by
    obtain ⟨v,r,e1,h1,h2⟩:=h.consE
    subst e1
    simp at e
    subst e
    exact ⟨v,rfl,h1⟩
  | d0 :: ds,vs,i + 1,d,h,e=>by
    obtain ⟨v,r,e1,h1,h2⟩:=h.consE
    subst e1
    obtain ⟨u,q1,q2⟩:=Dats.get (i:=i) (d:=d) h2 (by simpa using e)
    exact ⟨u,by simpa using q1,q2⟩
theorem Dats.getV:∀ {ds:List D} {vs:List V} {i:Nat} {v:V},Dats K H ds vs→vs[i]? = some v→∃ d,ds[i]? = some d∧Dat K H d v
  | [],vs,i,v,h,e=>by rw [h.nilE] at e; simp at e
  | d0 :: ds,vs,0,v,h,e=>by
    obtain ⟨u,r,e1,h1,h2⟩:=h.consE
    subst e1
    simp at e
    subst e
    exact ⟨d0,rfl,h1⟩
  | d0 :: ds,vs,i + 1,v,h,e=>by
    obtain ⟨u,r,e1,h1,h2⟩:=h.consE
    subst e1
    obtain ⟨d,q1,q2⟩:=Dats.getV (i:=i) (v:=v) h2 (by simpa using e)
    exact ⟨d,by simpa using q1,q2⟩
theorem Dats.append:∀ {ds es:List D} {vs us:List V},Dats K H ds vs→Dats K H es us→Dats K H (ds ++ es) (vs ++ us)
  | [],es,vs,us,h,h'=>by rw [h.nilE]; exact h'
  | d :: ds,es,vs,us,h,h'=>by
    obtain ⟨v,r,e,h1,h2⟩:=h.consE
    subst e
    exact Dats.cons h1 (Dats.append h2 h')
end
mutual
def eqD:D→D→Bool
  | .non,.non=>true
  | .bl a,.bl b=>a == b
  | .int a,.int b=>a == b
  | .bl a,.int b=>(if a then 1 else 0) == b
  | .int a,.bl b=>a == (if b then 1 else 0)
  | .str a,.str b=>a == b
  | .tup a,.tup b=>dE a b
  | _,_=>false
def dE:List D→List D→Bool
  | [],[]=>true
  | a :: r,b :: q=>eqD a b && dE r q
  | _,_=>false
end
mutual
def cU:D→Nat
  | .tup ds=>bP ds + 1
  | _=>0
def bP:List D→Nat
  | []=>0
  | d :: ds=>max (cU d) (bP ds)
end
mutual
def noL:D→Bool
  | .tup ds=>di ds
  | .lst=>false
  | _=>true
def di:List D→Bool
  | []=>true
  | d :: ds=>noL d && di ds
end
def eAt (a b:List D) (j:Nat):Bool:=match a[j]?,b[j]? with
  | some x,some y=>eqD x y
  | _,_=>false
theorem lD (n:Nat) (e:Nat→Bool):(List.range (n + 1)).all e = (e 0 && (List.range n).all fun j=>e (j + 1)):=by
  rw [List.range_succ_eq_map,List.all_cons,List.all_map]
  rfl
theorem gY:∀ a b:List D,((List.range (min a.length b.length)).all (eAt a b) && a.length == b.length) = dE a b
  | [],[]=>by unfold dE; rfl
  | [],y :: b=>by unfold dE; simp
  | x :: a,[]=>by unfold dE; simp
  | x :: a,y :: b=>by
    have ih:=gY a b
    unfold dE
    rw [← ih,List.length_cons,List.length_cons,Nat.succ_min_succ,lD]
    have e0:eAt (x :: a) (y :: b) 0 = eqD x y:=rfl
    have e1:(fun j=>eAt (x :: a) (y :: b) (j + 1)) = eAt a b:=by
      funext j
      simp [eAt]
    rw [e0,e1,Bool.and_assoc]
    congr 2
    simp
theorem qh {a b:List D} (h:a.length = b.length):(List.range a.length).all (eAt a b) = dE a b:=by
  have q:=gY a b
  rw [← h,Nat.min_self] at q
  rw [← q]
  simp
mutual
theorem jz:∀ d:D,noL d = true→eqD d d = true
  | .non,_=>by unfold eqD; rfl
  | .bl b,_=>by unfold eqD; simp
  | .int i,_=>by unfold eqD; simp
  | .str x,_=>by unfold eqD; simp
  | .tup ds,h=>by unfold eqD; unfold noL at h; exact nz ds h
  | .lst,h=>by unfold noL at h; cases h
theorem nz:∀ ds:List D,di ds = true→dE ds ds = true
  | [],_=>by unfold dE; rfl
  | d :: ds,h=>by
    unfold di at h
    rw [Bool.and_eq_true] at h
    unfold dE
    rw [jz d h.1,nz ds h.2]
    rfl
end
section
variable {X:Cx} {pins:List (Addr × Obj)} {σ:St} {H:Hp} {s:Shared}
mutual
theorem sX (I:Inv X pins σ H s):∀ (d e:D) {v:V},noL d = true→Dat X.K H d v→Dat X.K H e v→noL e = true→d = e
  | .non,e,v,hn,h,h',hn'=>by
    have z:=h.nonE; subst z
    cases e with
    | non=>rfl
    | bl b=>exact nomatch h'.blE
    | int i=>exact nomatch h'.intE
    | str x=>exact nomatch h'.strE
    | tup ds=>obtain ⟨_,_,q,_⟩:=h'.tupE; exact nomatch q
    | lst=>obtain ⟨_,_,q,_⟩:=h'.lstE; exact nomatch q
  | .bl b,e,v,hn,h,h',hn'=>by
    have z:=h.blE; subst z
    cases e with
    | non=>exact nomatch h'.nonE
    | bl c=>have q:=h'.blE; injection q with q; rw [q]
    | int i=>exact nomatch h'.intE
    | str x=>exact nomatch h'.strE
    | tup ds=>obtain ⟨_,_,q,_⟩:=h'.tupE; exact nomatch q
    | lst=>obtain ⟨_,_,q,_⟩:=h'.lstE; exact nomatch q
  | .int i,e,v,hn,h,h',hn'=>by
    have z:=h.intE; subst z
    cases e with
    | non=>exact nomatch h'.nonE
    | bl c=>exact nomatch h'.blE
    | int j=>have q:=h'.intE; injection q with q; rw [q]
    | str x=>exact nomatch h'.strE
    | tup ds=>obtain ⟨_,_,q,_⟩:=h'.tupE; exact nomatch q
    | lst=>obtain ⟨_,_,q,_⟩:=h'.lstE; exact nomatch q
  | .str x,e,v,hn,h,h',hn'=>by
    have z:=h.strE; subst z
    cases e with
    | non=>exact nomatch h'.nonE
    | bl c=>exact nomatch h'.blE
    | int j=>exact nomatch h'.intE
    | str y=>have q:=h'.strE; injection q with q; rw [q]
    | tup ds=>obtain ⟨_,_,q,_⟩:=h'.tupE; exact nomatch q
    | lst=>obtain ⟨_,_,q,_⟩:=h'.lstE; exact nomatch q
  | .tup ds,e,v,hn,h,h',hn'=>by
    obtain ⟨a,vs,z,q,r⟩:=h.tupE
    subst z
    cases e with
    | non=>exact nomatch h'.nonE
    | bl c=>exact nomatch h'.blE
    | int j=>exact nomatch h'.intE
    | str y=>exact nomatch h'.strE
    | tup es =>
      obtain ⟨a',vs',z,q',r'⟩:=h'.tupE
      cases z
      have ev:=I.tuple_inj q q'
      subst ev
      unfold noL at hn hn'
      rw [p9 I ds es hn r r' hn']
    | lst=>unfold noL at hn'; cases hn'
  | .lst,e,v,hn,h,h',hn'=>by unfold noL at hn; cases hn
theorem p9 (I:Inv X pins σ H s):∀ (ds es:List D) {vs:List V},di ds = true→Dats X.K H ds vs→Dats X.K H es vs→di es = true→ds = es
  | [],es,vs,_,h,h',_=>by
    have z:=h.nilE; subst z
    cases es with
    | nil=>rfl
    | cons e es=>obtain ⟨_,_,q,_⟩:=h'.consE; exact nomatch q
  | d :: ds,es,vs,hn,h,h',hn'=>by
    obtain ⟨v,r,z,h1,h2⟩:=h.consE
    subst z
    cases es with
    | nil=>exact nomatch h'.nilE
    | cons e es =>
      obtain ⟨v',r',z,h1',h2'⟩:=h'.consE
      injection z with z1 z2
      subst z1 z2
      unfold di at hn hn'
      rw [Bool.and_eq_true] at hn hn'
      rw [sX I d e hn.1 h1 h1' hn'.1,p9 I ds es hn.2 h2 h2' hn'.2]
end
end
theorem j9 (A:Around):A.in1.units = A.units + 1:=rfl
section
variable {X:Cx} {pins:List (Addr × Obj)} {σ:St} {H:Hp} {s:Shared}
theorem lK:∀ {ds:List D} {j:Nat} {d:D},ds[j]? = some d→cU d ≤ bP ds
  | [],_,_,e=>by simp at e
  | d0 :: ds,0,d,e=>by simp at e; subst e; unfold bP; exact Nat.le_max_left _ _
  | d0 :: ds,j + 1,d,e=>by
    have q:=lK (ds:=ds) (j:=j) (d:=d) (by simpa using e)
    unfold bP
    exact Nat.le_trans q (Nat.le_max_right _ _)
theorem md:∀ {ds:List D} {j:Nat} {d:D},di ds = true→ds[j]? = some d→noL d = true
  | [],_,_,_,e=>by simp at e
  | d0 :: ds,0,d,h,e=>by simp at e; subst e; unfold di at h; rw [Bool.and_eq_true] at h; exact h.1
  | d0 :: ds,j + 1,d,h,e=>by
    unfold di at h
    rw [Bool.and_eq_true] at h
    exact md (ds:=ds) (j:=j) (d:=d) h.2 (by simpa using e)
theorem lL {A:Around} {ds es:List D} {xs ys:List V} {us ws:List Value} (n:Nat)
    (all:∀ (d e:D) (x y:V) (u w:Value),cU d ≤ n→noL d = true→noL e = true→Dat X.K H d x→Dat X.K H e y→RelV x u→RelV y w→SeqAt.EqAt A s u w (eqD d e))
    (hn:bP ds ≤ n) (h1:di ds = true) (h2:di es = true) (r1:Dats X.K H ds xs) (r2:Dats X.K H es ys) (v1:Vals xs us) (v2:Vals ys ws) :
    ∀ j (k1:j < us.toArray.size) (k2:j < ws.toArray.size),SeqAt.EqAt A s us.toArray[j] ws.toArray[j] (eAt ds es j):=by
  intro j k1 k2
  have l1:j < xs.length:=by rw [v1.length]; simpa using k1
  have l2:j < ys.length:=by rw [v2.length]; simpa using k2
  obtain ⟨u,eu,ru⟩:=v1.get (i:=j) (x:=xs[j]) (List.getElem?_eq_getElem l1)
  obtain ⟨w,ew,rw'⟩:=v2.get (i:=j) (x:=ys[j]) (List.getElem?_eq_getElem l2)
  obtain ⟨d,ed,qd⟩:=r1.getV (i:=j) (v:=xs[j]) (List.getElem?_eq_getElem l1)
  obtain ⟨e,ee,qe⟩:=r2.getV (i:=j) (v:=ys[j]) (List.getElem?_eq_getElem l2)
  have z1:us.toArray[j] = u:=by
    have:us[j]? = some u:=eu
    have k1':j < us.length:=by simpa using k1
    rw [List.getElem?_eq_getElem k1'] at this
    simpa using Option.some.inj this
  have z2:ws.toArray[j] = w:=by
    have:ws[j]? = some w:=ew
    have k2':j < ws.length:=by simpa using k2
    rw [List.getElem?_eq_getElem k2'] at this
    simpa using Option.some.inj this
  have z3:eAt ds es j = eqD d e:=by unfold eAt; rw [ed,ee]
  rw [z1,z2,z3]
  exact all d e _ _ u w (Nat.le_trans (lK ed) hn) (md h1 ed) (md h2 ee) qd qe ru rw'
theorem qW {A:Around} {ds es:List D} {a b:Addr} {xs ys:List V} (I:Inv X pins σ H s) (hu:A.units < cLine) (n:Nat)
    (all:∀ (d e:D) (x y:V) (u w:Value),cU d ≤ n→noL d = true→noL e = true→Dat X.K H d x→Dat X.K H e y→RelV x u→RelV y w→SeqAt.EqAt A.in1 s u w (eqD d e))
    (hn:bP ds ≤ n) (h1:di ds = true) (h2:di es = true) (r1:Dats X.K H ds xs) (r2:Dats X.K H es ys) (q1:SqT X.K H a xs) (q2:SqT X.K H b ys) :
    SeqAt.RcAt A s (.ref a) (.ref b) (dE ds es)∧SeqAt.RcNeAt A s (.ref a) (.ref b) (!dE ds es):=by
  obtain ⟨us,v1,t1,_⟩:=I.tuple q1
  obtain ⟨ws,v2,t2,_⟩:=I.tuple q2
  have hi:=lL (X:=X) (H:=H) (s:=s) n all hn h1 h2 r1 r2 v1 v2
  have p:=SeqAt.RcAt.tuples (show s.heap.IsTuple a us.toArray from t1) (show s.heap.IsTuple b ws.toArray from t2) hu hi
  have p':=SeqAt.RcNeAt.tuples (show s.heap.IsTuple a us.toArray from t1) (show s.heap.IsTuple b ws.toArray from t2) hu hi
  have e1:us.toArray.size = ds.length:=by rw [List.size_toArray,← v1.length,r1.length]
  have e2:ws.toArray.size = es.length:=by rw [List.size_toArray,← v2.length,r2.length]
  rw [e1,e2,gY] at p p'
  exact ⟨p,p'⟩
theorem we (I:Inv X pins σ H s):∀ (n:Nat) (A:Around) (d e:D) (x y:V) (u w:Value),A.units + n + 1 < cLine→cU d ≤ n→noL d = true→noL e = true→Dat X.K H d x→Dat X.K H e y→RelV x u→RelV y w→SeqAt.EqAt A s u w (eqD d e):=by
  intro n
  induction n with
  | zero =>
    intro A d e x y u w hu hn h1 h2 q1 q2 r1 r2
    exact base I A d e x y u w (by omega) h1 h2 q1 q2 r1 r2 fun ds es a b xs ys ed ee=>by
      subst ed
      unfold cU at hn
      omega
  | succ n ih =>
    intro A d e x y u w hu hn h1 h2 q1 q2 r1 r2
    refine base I A d e x y u w (by omega) h1 h2 q1 q2 r1 r2 fun ds es a b xs ys ed ee t1 t2 s1 s2 hne=>?_
    subst ed ee
    unfold cU at hn
    unfold noL at h1 h2
    have p:=(qW (A:=A) (ds:=ds) (es:=es) I (by omega) n (fun d e x y u w k1 k2 k3 k4 k5 k6 k7=>ih A.in1 d e x y u w (by rw [j9]; omega) k1 k2 k3 k4 k5 k6 k7) (by omega) h1 h2 t1 t2 s1 s2).1
    unfold eqD
    exact .of_refs hne p
where
  base (I:Inv X pins σ H s) (A:Around) (d e:D) (x y:V) (u w:Value) (hu:A.units < cLine) (h1:noL d = true) (h2:noL e = true) (q1:Dat X.K H d x) (q2:Dat X.K H e y) (r1:RelV x u) (r2:RelV y w)
      (tt:∀ (ds es:List D) (a b:Addr) (xs ys:List V),d = .tup ds→e = .tup es→Dats X.K H ds xs→Dats X.K H es ys→SqT X.K H a xs→SqT X.K H b ys→a ≠ b→SeqAt.EqAt A s (.ref a) (.ref b) (eqD (.tup ds) (.tup es))) :
      SeqAt.EqAt A s u w (eqD d e):=by
    cases d with
    | lst=>unfold noL at h1; cases h1
    | non =>
      have z:=q1.nonE; subst z; cases r1
      cases e with
      | lst=>unfold noL at h2; cases h2
      | non=>have z:=q2.nonE; subst z; cases r2; unfold eqD; exact SeqAt.EqAt.same _
      | bl b=>have z:=q2.blE; subst z; cases r2; unfold eqD; exact SeqAt.EqAt.none_bool b
      | int i=>have z:=q2.intE; subst z; obtain ⟨t,rfl⟩:=r2; unfold eqD; exact SeqAt.EqAt.none_int i t
      | str i=>have z:=q2.strE; subst z; obtain ⟨t,rfl⟩:=r2; unfold eqD; exact SeqAt.EqAt.none_str i t
      | tup es=>obtain ⟨b,ys,z,s2,t2⟩:=q2.tupE; subst z; cases r2; obtain ⟨ws,v2,p2,_⟩:=I.tuple s2; unfold eqD; exact SeqAt.EqAt.none_tuple (show s.heap.IsTuple b ws.toArray from p2) hu
    | bl c =>
      have z:=q1.blE; subst z; cases r1
      cases e with
      | lst=>unfold noL at h2; cases h2
      | non=>have z:=q2.nonE; subst z; cases r2; unfold eqD; exact SeqAt.EqAt.bool_none c
      | bl b=>have z:=q2.blE; subst z; cases r2; unfold eqD; exact SeqAt.EqAt.bool_bool c b
      | int i=>have z:=q2.intE; subst z; obtain ⟨t,rfl⟩:=r2; unfold eqD; exact SeqAt.EqAt.bool_int c i t
      | str i=>have z:=q2.strE; subst z; obtain ⟨t,rfl⟩:=r2; unfold eqD; exact SeqAt.EqAt.bool_str c i t
      | tup es=>obtain ⟨b,ys,z,s2,t2⟩:=q2.tupE; subst z; cases r2; obtain ⟨ws,v2,p2,_⟩:=I.tuple s2; unfold eqD; exact SeqAt.EqAt.bool_tuple c (show s.heap.IsTuple b ws.toArray from p2) hu
    | int c =>
      have z:=q1.intE; subst z; obtain ⟨tc,rfl⟩:=r1
      cases e with
      | lst=>unfold noL at h2; cases h2
      | non=>have z:=q2.nonE; subst z; cases r2; unfold eqD; exact SeqAt.EqAt.int_none c tc
      | bl b=>have z:=q2.blE; subst z; cases r2; unfold eqD; exact SeqAt.EqAt.int_bool c tc b
      | int i=>have z:=q2.intE; subst z; obtain ⟨t,rfl⟩:=r2; unfold eqD; exact SeqAt.EqAt.int_int c tc i t
      | str i=>have z:=q2.strE; subst z; obtain ⟨t,rfl⟩:=r2; unfold eqD; exact SeqAt.EqAt.int_str c tc i t
      | tup es=>obtain ⟨b,ys,z,s2,t2⟩:=q2.tupE; subst z; cases r2; obtain ⟨ws,v2,p2,_⟩:=I.tuple s2; unfold eqD; exact SeqAt.EqAt.int_tuple c tc (show s.heap.IsTuple b ws.toArray from p2) hu
    | str c =>
      have z:=q1.strE; subst z; obtain ⟨tc,rfl⟩:=r1
      cases e with
      | lst=>unfold noL at h2; cases h2
      | non=>have z:=q2.nonE; subst z; cases r2; unfold eqD; exact SeqAt.EqAt.str_none c tc
      | bl b=>have z:=q2.blE; subst z; cases r2; unfold eqD; exact SeqAt.EqAt.str_bool c tc b
      | int i=>have z:=q2.intE; subst z; obtain ⟨t,rfl⟩:=r2; unfold eqD; exact SeqAt.EqAt.str_int c tc i t
      | str i=>have z:=q2.strE; subst z; obtain ⟨t,rfl⟩:=r2; unfold eqD; exact SeqAt.EqAt.str_str c tc i t
      | tup es=>obtain ⟨b,ys,z,s2,t2⟩:=q2.tupE; subst z; cases r2; obtain ⟨ws,v2,p2,_⟩:=I.tuple s2; unfold eqD; exact SeqAt.EqAt.str_tuple c tc (show s.heap.IsTuple b ws.toArray from p2) hu
    | tup ds =>
      have q1':=q1
      obtain ⟨a,xs,z,s1,t1⟩:=q1.tupE; subst z; cases r1; obtain ⟨us,v1,p1,_⟩:=I.tuple s1
      have p1':s.heap.IsTuple a us.toArray:=p1
      cases e with
      | lst=>unfold noL at h2; cases h2
      | non=>have z:=q2.nonE; subst z; cases r2; unfold eqD; exact SeqAt.EqAt.tuple_none p1' hu
      | bl b=>have z:=q2.blE; subst z; cases r2; unfold eqD; exact SeqAt.EqAt.tuple_bool b p1' hu
      | int i=>have z:=q2.intE; subst z; obtain ⟨t,rfl⟩:=r2; unfold eqD; exact SeqAt.EqAt.tuple_int i t p1' hu
      | str i=>have z:=q2.strE; subst z; obtain ⟨t,rfl⟩:=r2; unfold eqD; exact SeqAt.EqAt.tuple_str i t p1' hu
      | tup es =>
        have q2':=q2
        obtain ⟨b,ys,z,s2,t2⟩:=q2.tupE; subst z; cases r2
        by_cases hab:a = b
        · subst hab
          have ee:=sX I (.tup ds) (.tup es) h1 q1' q2' h2
          rw [← ee,jz _ h1]
          exact SeqAt.EqAt.same _
        · exact tt ds es a b xs ys rfl rfl t1 t2 s1 s2 hab
theorem B0 (I:Inv X pins σ H s) (n:Nat) (A:Around) (d e:D) (x y:V) (u w:Value) (hu:A.units + n + 2 < cLine) (hn:cU d ≤ n + 1) (h1:noL d = true) (h2:noL e = true) (q1:Dat X.K H d x) (q2:Dat X.K H e y) (r1:RelV x u) (r2:RelV y w) :
    SeqAt.RcAt A s u w (eqD d e)∧SeqAt.RcNeAt A s u w (!eqD d e):=by
  have hu':A.units < cLine:=by omega
  cases d with
  | lst=>unfold noL at h1; cases h1
  | non =>
    have z:=q1.nonE; subst z; cases r1
    cases e with
    | lst=>unfold noL at h2; cases h2
    | non=>have z:=q2.nonE; subst z; cases r2; unfold eqD; exact ⟨SeqAt.RcAt.none_none,SeqAt.RcNeAt.none_none⟩
    | bl b=>have z:=q2.blE; subst z; cases r2; unfold eqD; exact ⟨SeqAt.RcAt.none_bool b,SeqAt.RcNeAt.none_bool b⟩
    | int i=>have z:=q2.intE; subst z; obtain ⟨t,rfl⟩:=r2; unfold eqD; exact ⟨SeqAt.RcAt.none_int i t,SeqAt.RcNeAt.none_int i t⟩
    | str i=>have z:=q2.strE; subst z; obtain ⟨t,rfl⟩:=r2; unfold eqD; exact ⟨SeqAt.RcAt.none_str i t,SeqAt.RcNeAt.none_str i t⟩
    | tup es=>obtain ⟨b,ys,z,s2,t2⟩:=q2.tupE; subst z; cases r2; obtain ⟨ws,v2,p2,_⟩:=I.tuple s2; unfold eqD; exact ⟨SeqAt.RcAt.none_tuple (show s.heap.IsTuple b ws.toArray from p2) hu',SeqAt.RcNeAt.none_tuple (show s.heap.IsTuple b ws.toArray from p2) hu'⟩
  | bl c =>
    have z:=q1.blE; subst z; cases r1
    cases e with
    | lst=>unfold noL at h2; cases h2
    | non=>have z:=q2.nonE; subst z; cases r2; unfold eqD; exact ⟨SeqAt.RcAt.bool_none c,SeqAt.RcNeAt.bool_none c⟩
    | bl b=>have z:=q2.blE; subst z; cases r2; unfold eqD; exact ⟨SeqAt.RcAt.bool_bool c b,SeqAt.RcNeAt.bool_bool c b⟩
    | int i=>have z:=q2.intE; subst z; obtain ⟨t,rfl⟩:=r2; unfold eqD; exact ⟨SeqAt.RcAt.bool_int c i t,SeqAt.RcNeAt.bool_int c i t⟩
    | str i=>have z:=q2.strE; subst z; obtain ⟨t,rfl⟩:=r2; unfold eqD; exact ⟨SeqAt.RcAt.bool_str c i t,SeqAt.RcNeAt.bool_str c i t⟩
    | tup es=>obtain ⟨b,ys,z,s2,t2⟩:=q2.tupE; subst z; cases r2; obtain ⟨ws,v2,p2,_⟩:=I.tuple s2; unfold eqD; exact ⟨SeqAt.RcAt.bool_tuple c (show s.heap.IsTuple b ws.toArray from p2) hu',SeqAt.RcNeAt.bool_tuple c (show s.heap.IsTuple b ws.toArray from p2) hu'⟩
  | int c =>
    have z:=q1.intE; subst z; obtain ⟨tc,rfl⟩:=r1
    cases e with
    | lst=>unfold noL at h2; cases h2
    | non=>have z:=q2.nonE; subst z; cases r2; unfold eqD; exact ⟨SeqAt.RcAt.int_none c tc,SeqAt.RcNeAt.int_none c tc⟩
    | bl b=>have z:=q2.blE; subst z; cases r2; unfold eqD; exact ⟨SeqAt.RcAt.int_bool c tc b,SeqAt.RcNeAt.int_bool c tc b⟩
    | int i=>have z:=q2.intE; subst z; obtain ⟨t,rfl⟩:=r2; unfold eqD; exact ⟨SeqAt.RcAt.int_int c tc i t,SeqAt.RcNeAt.int_int c tc i t⟩
    | str i=>have z:=q2.strE; subst z; obtain ⟨t,rfl⟩:=r2; unfold eqD; exact ⟨SeqAt.RcAt.int_str c tc i t,SeqAt.RcNeAt.int_str c tc i t⟩
    | tup es=>obtain ⟨b,ys,z,s2,t2⟩:=q2.tupE; subst z; cases r2; obtain ⟨ws,v2,p2,_⟩:=I.tuple s2; unfold eqD; exact ⟨SeqAt.RcAt.int_tuple c tc (show s.heap.IsTuple b ws.toArray from p2) hu',SeqAt.RcNeAt.int_tuple c tc (show s.heap.IsTuple b ws.toArray from p2) hu'⟩
  | str c =>
    have z:=q1.strE; subst z; obtain ⟨tc,rfl⟩:=r1
    cases e with
    | lst=>unfold noL at h2; cases h2
    | non=>have z:=q2.nonE; subst z; cases r2; unfold eqD; exact ⟨SeqAt.RcAt.str_none c tc,SeqAt.RcNeAt.str_none c tc⟩
    | bl b=>have z:=q2.blE; subst z; cases r2; unfold eqD; exact ⟨SeqAt.RcAt.str_bool c tc b,SeqAt.RcNeAt.str_bool c tc b⟩
    | int i=>have z:=q2.intE; subst z; obtain ⟨t,rfl⟩:=r2; unfold eqD; exact ⟨SeqAt.RcAt.str_int c tc i t,SeqAt.RcNeAt.str_int c tc i t⟩
    | str i=>have z:=q2.strE; subst z; obtain ⟨t,rfl⟩:=r2; unfold eqD; exact ⟨SeqAt.RcAt.str_str c tc i t,SeqAt.RcNeAt.str_str c tc i t⟩
    | tup es=>obtain ⟨b,ys,z,s2,t2⟩:=q2.tupE; subst z; cases r2; obtain ⟨ws,v2,p2,_⟩:=I.tuple s2; unfold eqD; exact ⟨SeqAt.RcAt.str_tuple c tc (show s.heap.IsTuple b ws.toArray from p2) hu',SeqAt.RcNeAt.str_tuple c tc (show s.heap.IsTuple b ws.toArray from p2) hu'⟩
  | tup ds =>
    obtain ⟨a,xs,z,s1,t1⟩:=q1.tupE; subst z; cases r1; obtain ⟨us,v1,p1,_⟩:=I.tuple s1
    have p1':s.heap.IsTuple a us.toArray:=p1
    cases e with
    | lst=>unfold noL at h2; cases h2
    | non=>have z:=q2.nonE; subst z; cases r2; unfold eqD; exact ⟨SeqAt.RcAt.tuple_none p1' hu',SeqAt.RcNeAt.tuple_none p1' hu'⟩
    | bl b=>have z:=q2.blE; subst z; cases r2; unfold eqD; exact ⟨SeqAt.RcAt.tuple_bool b p1' hu',SeqAt.RcNeAt.tuple_bool b p1' hu'⟩
    | int i=>have z:=q2.intE; subst z; obtain ⟨t,rfl⟩:=r2; unfold eqD; exact ⟨SeqAt.RcAt.tuple_int i t p1' hu',SeqAt.RcNeAt.tuple_int i t p1' hu'⟩
    | str i=>have z:=q2.strE; subst z; obtain ⟨t,rfl⟩:=r2; unfold eqD; exact ⟨SeqAt.RcAt.tuple_str i t p1' hu',SeqAt.RcNeAt.tuple_str i t p1' hu'⟩
    | tup es =>
      obtain ⟨b,ys,z,s2,t2⟩:=q2.tupE; subst z; cases r2
      unfold cU at hn
      unfold noL at h1 h2
      unfold eqD
      exact qW (A:=A) (ds:=ds) (es:=es) I hu' n (fun d e x y u w k1 k2 k3 k4 k5 k6 k7=>we I n A.in1 d e x y u w (by rw [j9]; omega) k1 k2 k3 k4 k5 k6 k7) (by omega) h1 h2 t1 t2 s1 s2
theorem CD (I:Inv X pins σ H s) (n:Nat) (A:Around) (ds es:List D) (a b:Addr) (xs ys:List V) (hu:A.units + n + 2 < cLine) (hn:bP ds ≤ n) (h1:di ds = true) (h2:di es = true) (q1:SqL X.K H a xs) (q2:SqL X.K H b ys) (r1:Dats X.K H ds xs) (r2:Dats X.K H es ys) :
    SeqAt.RcAt A s (.ref a) (.ref b) (dE ds es)∧SeqAt.RcNeAt A s (.ref a) (.ref b) (!dE ds es):=by
  have hu':A.units < cLine:=by omega
  obtain ⟨us,v1,p1,_⟩:=I.list q1
  obtain ⟨ws,v2,p2,_⟩:=I.list q2
  have e1:us.toArray.size = ds.length:=by rw [List.size_toArray,← v1.length,r1.length]
  have e2:ws.toArray.size = es.length:=by rw [List.size_toArray,← v2.length,r2.length]
  have hi:=lL (X:=X) (H:=H) (s:=s) (A:=A.in1) n (fun d e x y u w k1 k2 k3 k4 k5 k6 k7=>we I n A.in1 d e x y u w (by rw [j9]; omega) k1 k2 k3 k4 k5 k6 k7) hn h1 h2 r1 r2 v1 v2
  by_cases hl:ds.length = es.length
  · have hsz:us.toArray.size = ws.toArray.size:=by rw [e1,e2,hl]
    have p:=SeqAt.RcAt.lists p1.isList p2.isList hsz hu' hi
    have p':=SeqAt.RcNeAt.lists p1.isList p2.isList hsz hu' hi
    rw [e1,qh hl] at p p'
    exact ⟨p,p'⟩
  · have hsz:(us.toArray.size != ws.toArray.size) = true:=by rw [e1,e2]; simpa using hl
    have z:dE ds es = false:=by
      rw [← gY]
      have:(ds.length == es.length) = false:=by simpa using hl
      rw [this,Bool.and_false]
    rw [z]
    exact ⟨SeqAt.RcAt.lists_lengths p1.isList p2.isList hsz hu',SeqAt.RcNeAt.lists_lengths p1.isList p2.isList hsz hu'⟩
end
section
variable {X:Cx} {k:Nat}
def A6 (K:PySem.W.Frag) (neg:Bool):R2:=fun x y H Q=>∃ d e,Dat K H d x∧Dat K H e y∧noL d = true∧noL e = true∧cU d ≤ 20∧Q (.bl (if neg then !eqD d e else eqD d e)) H
theorem xi (hr:Room k X.A):OpR X (compareOp .Eq) (A6 X.K false):=by
  intro pins s σ H x y v u Q I rx ry h
  obtain ⟨d,e,q1,q2,h1,h2,hn,q⟩:=h
  have hu:X.A.units + 19 + 2 < cLine:=by have:=hr.un; omega
  exact (B0 I 19 X.A d e x y v u hu (by omega) h1 h2 q1 q2 rx ry).1 _ _ _ _ ⟨.bl _,H,I,rfl,q⟩
theorem AZ (hr:Room k X.A):OpR X (compareOp .NotEq) (A6 X.K true):=by
  intro pins s σ H x y v u Q I rx ry h
  obtain ⟨d,e,q1,q2,h1,h2,hn,q⟩:=h
  have hu:X.A.units + 19 + 2 < cLine:=by have:=hr.un; omega
  exact (B0 I 19 X.A d e x y v u hu (by omega) h1 h2 q1 q2 rx ry).2 _ _ _ _ ⟨.bl _,H,I,rfl,q⟩
def BW (K:PySem.W.Frag) (neg:Bool):R2:=fun x y H Q=>∃ a b xs ys ds es,x = .ref a∧y = .ref b∧SqL K H a xs∧SqL K H b ys∧Dats K H ds xs∧Dats K H es ys∧di ds = true∧di es = true∧bP ds ≤ 20∧Q (.bl (if neg then !dE ds es else dE ds es)) H
theorem oY (hr:Room k X.A):OpR X (compareOp .Eq) (BW X.K false):=by
  intro pins s σ H x y v u Q I rx ry h
  obtain ⟨a,b,xs,ys,ds,es,ex,ey,q1,q2,r1,r2,h1,h2,hn,q⟩:=h
  subst ex ey
  cases rx
  cases ry
  have hu:X.A.units + 20 + 2 < cLine:=by have:=hr.un; omega
  exact (CD I 20 X.A ds es a b xs ys hu hn h1 h2 q1 q2 r1 r2).1 _ _ _ _ ⟨.bl _,H,I,rfl,q⟩
def tyD:D→String
  | .non=>"NoneType"
  | .bl _=>"bool"
  | .int _=>"int"
  | .str _=>"str"
  | .tup _=>"tuple"
  | .lst=>"list"
def jc (d:D) (T:String):Bool:=tyD d == T || (tyD d == "bool" && T == "int")
theorem cC {T:String} (hk:∀ d:D,PySem.W.kitOne X.K (.type (tyD d)) (.type T) = some (jc d T)) :
    gz X (.builtin "isinstance") (fun xs H Q=>∃ x d,xs = [x,.ty T]∧Dat X.K H d x∧Q (.bl (jc d T)) H):=by
  intro pins s σ H xs us Q I r h
  obtain ⟨x,d,e,q,h⟩:=h
  subst e
  obtain ⟨u,c,e,ru,rc⟩:=Ca r
  subst e
  cases (show c = Value.type T from rc)
  have fin:∀ tk,EP X pins σ Q (.bool (jc d T)) { s with toks:=tk }:=fun tk=>⟨.bl _,H,I.tok tk,rfl,h⟩
  have kd:=hk d
  cases d with
  | non=>have z:=q.nonE; subst z; cases ru; exact PySem.W.kia_one PySem.W.kitx_none I.kIn True.intro kd (fun z=>nomatch z) fin
  | bl b=>have z:=q.blE; subst z; cases ru; exact PySem.W.kia_one PySem.W.kitx_bool I.kIn True.intro kd (fun z=>nomatch z) fin
  | int i=>have z:=q.intE; subst z; obtain ⟨t,rfl⟩:=ru; exact PySem.W.kia_one PySem.W.kitx_int I.kIn True.intro kd (fun z=>nomatch z) fin
  | str y=>have z:=q.strE; subst z; obtain ⟨t,rfl⟩:=ru; exact PySem.W.kia_one PySem.W.kitx_str I.kIn True.intro kd (fun z=>nomatch z) fin
  | tup ds =>
    obtain ⟨a,vs,z,sq,_⟩:=q.tupE
    subst z
    cases ru
    obtain ⟨its,_,⟨o,e1,e2,_⟩,_⟩:=I.tuple sq
    exact PySem.W.kia_one PySem.W.kitx_tuple I.kIn ⟨o,e1,e2⟩ kd (fun z=>nomatch z) fin
  | lst =>
    obtain ⟨a,vs,z,sq⟩:=q.lstE
    subst z
    cases ru
    obtain ⟨its,_,⟨o,_,e1,e2,_⟩,_⟩:=I.list sq
    exact PySem.W.kia_one PySem.W.kitx_list I.kIn ⟨o,e1,e2⟩ kd (fun z=>nomatch z) fin
end
def iW (K:PySem.W.Frag) (a:Addr) (T:List (Str × KTD.Dat)):Prop:=∀ h:Heap,K.In h→KTD.TextTab h a T
section
variable {X:Cx}
theorem jL:OpR X (compareOp .In) (fun x y H Q=>∃ k a T,x = .str k∧y = .ref a∧iW X.K a T∧Q (.bl (KTD.inKeys k T)) H):=by
  intro pins s σ H x y v u Q I rx ry h
  obtain ⟨k,a,T,ex,ey,t,q⟩:=h
  subst ex ey
  obtain ⟨tk,rfl⟩:=rx
  cases ry
  exact KTD.in_text (h₀:=s.heap) ⟨t _ I.kIn,fun _ _ e=>e⟩ ⟨.bl _,H,I.tok _,rfl,q⟩
def xI (K:PySem.W.Frag):R2:=fun x y H Q=>∃ a k T i,x = .ref a∧y = .str k∧iW K a T∧(T.all fun p=>KTD.plain p.2) = true∧KTD.datumAt k T = some (.flat (.int i))∧Q (.int i) H
theorem wD:IxR X (xI X.K):=by
  intro value slice pins s σ H x y v u Q I rx ry h hs
  obtain ⟨a,k,T,i,ex,ey,t,hp,hd,q⟩:=h
  subst ex ey
  obtain ⟨tk,rfl⟩:=ry
  cases rx
  have hm:KTD.inKeys k T = true:=by rw [← KTD.isSome_datumAt,hd]; rfl
  refine KTD.item_textA (h₀:=s.heap) ⟨t _ I.kIn,fun _ _ e=>e⟩ hp hm ?_ hs
  exact each T hd fun v hv=>by
    obtain ⟨t',rfl⟩:=PyProof.V.Flat.int_inv hv
    exact ⟨.int i,H,I.tok _,⟨t',rfl⟩,q⟩
where
  each {h:Heap} {k:Str} {P:Value→Prop} {i:Int}:∀ (T:List (Str × KTD.Dat)),KTD.datumAt k T = some (.flat (.int i))→(∀ v,PyProof.V.Flat v (.int i)→P v)→KTD.EachL h k P T
    | [],hd,_=>by simp [KTD.datumAt] at hd
    | (x,d) :: T,hd,hP=>by
      have hd':(if decide (k = x) = true then some d else KTD.datumAt k T) = some (.flat (.int i)):=hd
      by_cases hx:k = x
      · rw [if_pos (decide_eq_true hx)] at hd'
        cases hd'
        refine KTD.eachL_hit hx ?_
        exact opened hP
      · rw [if_neg (by simp [hx])] at hd'
        exact KTD.eachL_miss hx (each T hd' hP)
  opened {h:Heap} {P:Value→Prop} {i:Int} (hP:∀ v,PyProof.V.Flat v (.int i)→P v):KTD.Opened h P (.flat (.int i)):=by
    first
      | exact KTD.opened_int fun t=>hP _ (PyProof.V.Flat.int i t)
      | exact fun t=>hP _ (PyProof.V.Flat.int i t)
end
end L2
end
section
namespace L2
open PySem PySem.Spec PyProof.Rows
section
variable {K:PySem.W.Frag} {H H' H2:Hp}
theorem Same.sqT {a:Addr} {xs:List V} (e:Same H H') (h:SqT K H a xs):SqT K H' a xs:=by
  rcases h with (h | ⟨o,h⟩) | h
  · exact .inl (.inl (e _ _ h))
  · exact .inl (.inr ⟨o,e _ _ h⟩)
  · exact .inr h
theorem Same.grow (e:Same H H'):cQ K H H':=⟨fun _ _ h=>e.sqT h,fun _ xs h=>⟨xs,e.seq h⟩⟩
theorem Same.dat {d:D} {v:V} (e:Same H H') (h:Dat K H d v):Dat K H' d v:=Dat.mono e.grow d h
theorem Same.dats {ds:List D} {vs:List V} (e:Same H H') (h:Dats K H ds vs):Dats K H' ds vs:=Dats.mono e.grow ds h
theorem aD {p:Addr} (h:H p = none) (o:HO):Same H (upd H p o):=fun b u q=>by rw [aJ (az q h)]; exact q
def But (t:Addr) (H H':Hp):Prop:=∀ b o,b ≠ t→H b = some o→H' b = some o
theorem Same.but {t:Addr} (e:Same H H'):But t H H':=fun b o _ h=>e b o h
theorem But.trans {t:Addr} (a:But t H H') (b:But t H' H2):But t H H2:=fun c o n h=>b c o n (a c o n h)
theorem But.upd {t:Addr} {o:HO} (a:But t H H'):But t H (upd H' t o):=fun b u n h=>by rw [aJ n]; exact a b u n h
theorem But.sqT {t a:Addr} {xs:List V} {zs:List V} (e:But t H H') (ht:H t = some (.lst zs)) (h:SqT K H a xs):SqT K H' a xs:=by
  rcases h with (h | ⟨o,h⟩) | h
  · exact .inl (.inl (e _ _ (fun z=>by rw [z,ht] at h; cases h) h))
  · exact .inl (.inr ⟨o,e _ _ (fun z=>by rw [z,ht] at h; cases h) h⟩)
  · exact .inr h
theorem But.sqL {t a:Addr} {xs:List V} (e:But t H H') (n:a ≠ t) (h:SqL K H a xs):SqL K H' a xs:=by
  rcases h with (h | ⟨o,h⟩) | h
  · exact .inl (.inl (e _ _ n h))
  · exact .inl (.inr ⟨o,e _ _ n h⟩)
  · exact .inr h
theorem But.grow {t:Addr} {zs zs':List V} (e:But t H H') (ht:H t = some (.lst zs)) (ht':H' t = some (.lst zs')):cQ K H H' :=
  ⟨fun _ _ h=>e.sqT ht h,fun a xs h=>by
    by_cases n:a = t
    · subst n; exact ⟨zs',SqL.of ht'⟩
    · exact ⟨xs,e.sqL n h⟩⟩
end
section
variable {K:PySem.W.Frag}
theorem wy (d:D):PySem.W.kitOne K (.type (tyD d)) (.type "int") = some (jc d "int"):=by cases d <;> rfl
theorem tI (d:D):PySem.W.kitOne K (.type (tyD d)) (.type "bool") = some (jc d "bool"):=by cases d <;> rfl
theorem wz (d:D):PySem.W.kitOne K (.type (tyD d)) (.type "str") = some (jc d "str"):=by cases d <;> rfl
theorem fM (d:D):PySem.W.kitOne K (.type (tyD d)) (.type "tuple") = some (jc d "tuple"):=by cases d <;> rfl
theorem yH (d:D):PySem.W.kitOne K (.type (tyD d)) (.type "list") = some (jc d "list"):=by cases d <;> rfl
end
def spD (K:PySem.W.Frag) (R:List D→D→Prop):Sp:=fun vs H Q _=>∃ ds d,Dats K H ds vs∧R ds d∧∀ v H',Same H H'→Dat K H' d v→Q v H'
def kC (K:PySem.W.Frag) (R:List D→List D→Prop):Sp:=fun vs H Q _=>∃ ds es,Dats K H ds vs∧R ds es∧∀ r us H',Same H H'→H' r = some (.lst us)→H r = none→Dats K H' es us→Q (.ref r) H'
theorem iz {K:PySem.W.Frag} {H:Hp} {a:D} {vs:List V} (h:Dats K H [a] vs):∃ u,vs = [u]∧Dat K H a u:=by
  obtain ⟨u,r,e,h1,h⟩:=h.consE
  have z:=h.nilE
  subst z e
  exact ⟨u,rfl,h1⟩
theorem fA {K:PySem.W.Frag} {H:Hp} {a b:D} {vs:List V} (h:Dats K H [a,b] vs):∃ u v,vs = [u,v]∧Dat K H a u∧Dat K H b v:=by
  obtain ⟨u,r,e,h1,h⟩:=h.consE
  obtain ⟨v,q,h2⟩:=iz h
  subst q e
  exact ⟨u,v,rfl,h1,h2⟩
theorem p7 {K:PySem.W.Frag} {H:Hp} {a b c:D} {vs:List V} (h:Dats K H [a,b,c] vs):∃ u v w,vs = [u,v,w]∧Dat K H a u∧Dat K H b v∧Dat K H c w:=by
  obtain ⟨u,r,e,h1,h⟩:=h.consE
  obtain ⟨v,w,q,h2⟩:=fA h
  subst q e
  exact ⟨u,v,w,rfl,h1,h2⟩
theorem jR {σ:St} {j:Nat} {z:Option V} {x:Option V}:(σ.set j z).set j x = σ.set j x:=by rw [List.set_set]
theorem lJ {J:It} {n:Nat} {item:Nat→V} {j:Nat} {te:TE} {σ0:St} {H1:Hp} {Q:VK} (Ok:Hp→Prop)
    (go:∀ i H',Ok H'→i < n→J.go i H'∧∀ x H'',J.yld i H' x H''→H'' = H'∧x = item i) (stop:∀ H',Ok H'→J.stop n H') (h0:σ0.set j none = σ0)
    (D:Addr) (Pn:Nat→Hp→Prop) (p0:Pn 0 (upd H1 D (.lst []))) (ok:∀ i H',i ≤ n→Pn i H'→Ok H')
    (turn:∀ i H',i < n→Pn i H'→te (σ0.set j (some (item i))) H' fun v H4=>∃ ys,H4 D = some (.lst ys)∧ys.length < sizeLine∧(∃ z,σ0.set j (some (item i)) = σ0.set j z)∧Pn (i + 1) (upd H4 D (.lst (ys ++ [v]))))
    (fin:∀ H',Pn n H'→Q (.ref D) H') :
    ∃ W:Nat→Nat→St→Hp→Prop,(∃ m,W 0 m σ0 (upd H1 D (.lst [])))∧∀ i m σ' H',W i m σ' H' →
      (J.stop i H'∧Q (.ref D) H') ∨
      (J.go i H'∧∃ Nx:St→Hp→Prop,(∀ σ'' H'',Nx σ'' H''→∃ m',m' < m∧W (i + 1) m' σ'' H'')∧∀ x H'',J.yld i H' x H''→bX j x σ' H'' fun σ2 H2=>dN σ2 H2 fun b H3 =>
        if b = true then te σ2 H3 fun v H4=>∃ ys,H4 D = some (.lst ys)∧ys.length < sizeLine∧Nx σ2 (upd H4 D (.lst (ys ++ [v]))) else Nx σ2 H3):=by
  refine ⟨fun i m σ' H'=>m = n - i∧i ≤ n∧(∃ z,σ' = σ0.set j z)∧Pn i H',⟨n,by omega,Nat.zero_le _,⟨none,h0.symm⟩,p0⟩,?_⟩
  rintro i m σ' H' ⟨rfl,hi,⟨z,rfl⟩,p⟩
  have o:=ok i H' hi p
  by_cases hlt:i < n
  · obtain ⟨g,y⟩:=go i H' o hlt
    refine .inr ⟨g,fun σ'' H''=>(∃ z,σ'' = σ0.set j z)∧Pn (i + 1) H'',fun σ'' H'' q=>⟨n - (i + 1),by omega,rfl,hlt,q.1,q.2⟩,fun x H'' yx=>?_⟩
    obtain ⟨e1,e2⟩:=y x H'' yx
    subst e1 e2
    simp only [bX,dN,if_true,jR]
    exact turn i _ hlt p
  · have e:i = n:=by omega
    subst e
    exact .inl ⟨stop H' o,fin H' p⟩
theorem wt {K:PySem.W.Frag} {a:Addr} {xs:List V} (i:Nat) (H':Hp) (h:SqT K H' a xs) (hi:i < xs.length):(Itt K a).go i H'∧∀ x H'',(Itt K a).yld i H' x H''→H'' = H'∧x = xs.getD i .non:=by
  refine ⟨⟨xs,xs[i],h,List.getElem?_eq_getElem hi⟩,fun x H'' y=>⟨y.1,?_⟩⟩
  have q:=y.2 xs h
  rw [List.getD_eq_getElem?_getD,q]
  rfl
theorem lR {K:PySem.W.Frag} {a:Addr} {xs:List V} (i:Nat) (H':Hp) (h:SqL K H' a xs) (hi:i < xs.length):(Itl K a).go i H'∧∀ x H'',(Itl K a).yld i H' x H''→H'' = H'∧x = xs.getD i .non:=by
  refine ⟨⟨xs,xs[i],h,List.getElem?_eq_getElem hi⟩,fun x H'' y=>⟨y.1,?_⟩⟩
  have q:=y.2 xs h
  rw [List.getD_eq_getElem?_getD,q]
  rfl
theorem AM {n:Nat} (i:Nat) (H':Hp) (hi:i < n):(Itr 0 n).go i H'∧∀ x H'',(Itr 0 n).yld i H' x H''→H'' = H'∧x = .int i:=by
  refine ⟨hi,fun x H'' y=>⟨y.1,?_⟩⟩
  have q:=y.2
  rw [q]
  simp
section
variable {X:Cx}
def BX (K:PySem.W.Frag):V→V→Hp→VK→Prop:=fun o i H Q=>∃ p xs k v,o = .ref p∧i = .int k∧0 ≤ k∧SqL K H p xs∧xs[k.toNat]? = some v∧Q v H
theorem qr:Bz X (BX X.K):=by
  intro pins s σ H o i ov iv Q I r1 r2 h
  obtain ⟨p,xs,k,v,eo,ei,h0,hq,he,q⟩:=h
  subst eo ei
  cases r1
  obtain ⟨t,rfl⟩:=r2
  obtain ⟨its,r,pl,hz⟩:=I.list hq
  obtain ⟨w,ew,rw'⟩:=r.get he
  have hl:=r.length
  have hlt:k.toNat < xs.length:=(List.getElem?_eq_some_iff.mp he).1
  have hn:=jd
  exact wpAny_getItem_list pl.isList h0 (by omega) (by simpa using ew) ⟨v,H,I,rw',q⟩
theorem yZ:OpR X (binaryOp .Mult) (rI IntMulOk fun i j=>.int (i * j)):=opI fun _ _ _ _ _ _ _ hc q=>mul_int q hc
end
theorem oH {n j:Nat} (h:j < n):ixN n (j:Int) = some j:=by
  unfold ixN
  rw [if_pos (by omega),if_pos (by omega)]
  simp
theorem at0 {α:Type} {x:α} {r:List α}:atI (x :: r) 0 = some x:=fD (j:=0) rfl
theorem at1 {α:Type} {x y:α} {r:List α}:atI (x :: y :: r) 1 = some y:=fD (j:=1) rfl
theorem at2 {α:Type} {x y z:α} {r:List α}:atI (x :: y :: z :: r) 2 = some z:=fD (j:=2) rfl
theorem ix0 {n:Nat}:ixN (n + 1) 0 = some 0:=oH (j:=0) (by omega)
theorem ix1 {n:Nat}:ixN (n + 2) 1 = some 1:=oH (j:=1) (by omega)
theorem ix2 {n:Nat}:ixN (n + 3) 2 = some 2:=oH (j:=2) (by omega)
theorem nj {K:PySem.W.Frag} {H:Hp}:∀ ns:List Int,Dats K H (ns.map D.int) (ns.map V.int)
  | []=>Dats.nil
  | n :: ns=>Dats.cons (Dat.intI n) (nj ns)
theorem gE:∀ ns:List Int,di (ns.map D.int) = true
  | []=>by unfold di; rfl
  | n :: ns=>by
    show di (D.int n :: ns.map D.int) = true
    unfold di
    rw [gE ns]
    unfold noL
    rfl
theorem kK:∀ ns:List Int,bP (ns.map D.int) = 0
  | []=>by unfold bP; rfl
  | n :: ns=>by
    show bP (D.int n :: ns.map D.int) = 0
    unfold bP
    rw [kK ns]
    unfold cU
    rfl
theorem wj (ns:List Int):dE (ns.map D.int) [] = ns.isEmpty:=by
  cases ns with
  | nil=>unfold dE; rfl
  | cons n ns=>show dE (D.int n :: ns.map D.int) [] = false; unfold dE; rfl
theorem bW {n:Nat} (h:n ≤ 1000):n ≤ sizeLine:=Nat.le_of_lt (bJ h)
def Scr (K:PySem.W.Frag) (H:Hp) (a:Addr) (ns:List Int):Prop:=(∃ o,H a = some (.frz o (.lst (ns.map V.int)))) ∨
  ∃ (o:Obj) (its:Array Value) (n:Nat),K.lookup a = some o∧o.cls = .type "list"∧o.dict = none∧o.data = .seq its n∧its.size ≤ sizeLine∧Vals (ns.map V.int) its.toList
theorem Scr.sqL {K:PySem.W.Frag} {H:Hp} {a:Addr} {ns:List Int} (h:Scr K H a ns):SqL K H a (ns.map V.int):=by
  rcases h with ⟨o,h⟩ | h
  · exact .inl (.inr ⟨o,h⟩)
  · exact .inr h
theorem Scr.but {K:PySem.W.Frag} {H H':Hp} {a t:Addr} {ns:List Int} {zs:List V} (h:Scr K H a ns) (e:But t H H') (ht:H t = some (.lst zs)):Scr K H' a ns:=by
  rcases h with ⟨o,h⟩ | h
  · exact .inl ⟨o,e _ _ (fun z=>by rw [z,ht] at h; cases h) h⟩
  · exact .inr h
theorem Scr.same {K:PySem.W.Frag} {H H':Hp} {a:Addr} {ns:List Int} (h:Scr K H a ns) (e:Same H H'):Scr K H' a ns:=by
  rcases h with ⟨o,h⟩ | h
  · exact .inl ⟨o,e _ _ h⟩
  · exact .inr h
theorem Bl {K:PySem.W.Frag} {H:Hp} {a:Addr} {ns:List Int} (hO:yq H) (h:SqL K H a (ns.map V.int)):Scr K H a ns:=by
  rcases h with (h | ⟨o,h⟩) | h
  · rcases hO a with z | ⟨o,xs,z⟩
    · rw [h] at z; cases z
    · rw [h] at z; cases z
  · exact .inl ⟨o,h⟩
  · exact .inr h
def mH (K:PySem.W.Frag):Sp:=fun vs H Q _=>∃ (a t:Addr) (ns:List Int) (m p q:Int) (rest:List V),vs = [.ref a,.ref t,.int m]∧Scr K H a ns∧H t = some (.lst (.int p :: .int q :: rest))∧0 ≤ p∧0 < m∧m ≤ 1000000 ∧
  ∀ (r:Int) (H':Hp) (p' q':Int),But t H H'→H' t = some (.lst (.int p' :: .int q' :: rest))→0 ≤ p'→0 ≤ r→r < m→Q (.int r) H'
end L2
end
section
namespace L2
open PySem PySem.Spec PyProof.Rows
def RE (K:PySem.W.Frag) (t:TE) (σ:St) (H:Hp) (d:D):Prop:=∀ H1,Same H H1→∀ Q:VK,(∀ v H',Same H1 H'→Dat K H' d v→Q v H')→t σ H1 Q
def RT (t:TT) (σ:St) (H:Hp) (b:Bool):Prop:=∀ H1,Same H H1→∀ Q:Bool→Hp→Prop,(∀ H',Same H1 H'→Q b H')→t σ H1 Q
def RA (K:PySem.W.Frag) (t:TA) (σ:St) (H:Hp) (ds:List D):Prop:=∀ H1,Same H H1→∀ Q:List V→Hp→Prop,(∀ vs H',Same H1 H'→Dats K H' ds vs→Q vs H')→t σ H1 Q
section
variable {K:PySem.W.Frag} {σ:St} {H H':Hp} {d d':D} {ds:List D} {t u ta tb:TE} {tt uu:TT} {tA:TA} {i j:Int} {b c:Bool}
theorem RE.mono (h:RE K t σ H d) (e:Same H H'):RE K t σ H' d:=fun H1 s Q q=>h H1 (e.trans s) Q q
theorem RA.mono (h:RA K tA σ H ds) (e:Same H H'):RA K tA σ H' ds:=fun H1 s Q q=>h H1 (e.trans s) Q q
theorem RT.mono (h:RT tt σ H b) (e:Same H H'):RT tt σ H' b:=fun H1 s Q q=>h H1 (e.trans s) Q q
theorem RE.as (h:RE K t σ H d) (e:d = d'):RE K t σ H d':=e ▸ h
theorem RT.as (h:RT tt σ H b) (e:b = c):RT tt σ H c:=e ▸ h
theorem RE.use {Q:VK} (h:RE K t σ H d) (q:∀ v H',Same H H'→Dat K H' d v→Q v H'):t σ H Q:=h H (Same.refl H) Q q
theorem RT.use {Q:Bool→Hp→Prop} (h:RT tt σ H b) (q:∀ H',Same H H'→Q b H'):tt σ H Q:=h H (Same.refl H) Q q
theorem RA.use {Q:List V→Hp→Prop} (h:RA K tA σ H ds) (q:∀ vs H',Same H H'→Dats K H' ds vs→Q vs H'):tA σ H Q:=h H (Same.refl H) Q q
theorem ao:RE K (tC (.int i)) σ H (.int i):=fun H1 _ Q q=>q _ _ (Same.refl _) (Dat.intI i)
theorem aI {x:Str}:RE K (tC (.str x)) σ H (.str x):=fun H1 _ Q q=>q _ _ (Same.refl _) (Dat.strI x)
theorem dq:RE K (tC (.bl b)) σ H (.bl b):=fun H1 _ Q q=>q _ _ (Same.refl _) (Dat.blI b)
theorem hZ:RE K (tC .non) σ H .non:=fun H1 _ Q q=>q _ _ (Same.refl _) Dat.nonI
theorem ae {k:Nat} {v:V} (h:Dat K H d v) (e:σ[k]? = some (some v):=by rfl):RE K (dJ k) σ H d:=fun H1 s Q q=>⟨v,e,q _ _ (Same.refl _) (s.dat h)⟩
theorem aA:RA K dt σ H []:=fun H1 _ Q q=>q _ _ (Same.refl _) Dats.nil
theorem af (h:RE K t σ H d) (r:RA K tA σ H ds):RA K (bD t tA) σ H (d :: ds):=fun H1 s Q q =>
  h H1 s _ fun v H2 s2 q2=>r H2 (s.trans s2) _ fun vs H3 s3 q3=>q _ _ (s2.trans s3) (Dats.cons (s3.dat q2) q3)
theorem aY (h:RA K tA σ H ds) (hl:ds.length ≤ 1000:=by simp):RE K (Bt tA) σ H (.tup ds):=fun H1 s Q q =>
  h H1 s _ fun vs H2 s2 q2=>⟨by rw [← q2.length]; exact bW hl,fun p hp=>q _ _ (s2.trans (aD hp _)) (Dat.tupI (SqT.of au) ((aD hp _).dats q2))⟩
theorem Ac {g:Int→Int} (h:RE K t σ H (.int i)):RE K (tUn (rU fun i=>.int (g i)) t) σ H (.int (g i)):=fun H1 s Q q =>
  h H1 s _ fun v H2 s2 q2=>⟨i,q2.intE,q _ _ s2 (Dat.intI _)⟩
theorem sC {g:Int→Int→V} (h1:RE K ta σ H (.int i)) (h2:RE K tb σ H (.int j)) (hd:∀ H,Dat K H d (g i j)):RE K (tOp (rI0 g) ta tb) σ H d:=fun H1 s Q q =>
  h1 H1 s _ fun v H2 s2 q2=>h2 H2 (s.trans s2) _ fun w H3 s3 q3=>⟨i,j,q2.intE,q3.intE,q _ _ (s2.trans s3) (hd _)⟩
theorem xW {C:Int→Int→Prop} {g:Int→Int→V} (h1:RE K ta σ H (.int i)) (h2:RE K tb σ H (.int j)) (hc:C i j) (hd:∀ H,Dat K H d (g i j)):RE K (tOp (rI C g) ta tb) σ H d:=fun H1 s Q q =>
  h1 H1 s _ fun v H2 s2 q2=>h2 H2 (s.trans s2) _ fun w H3 s3 q3=>⟨i,j,q2.intE,q3.intE,hc,q _ _ (s2.trans s3) (hd _)⟩
theorem hX (h1:RE K ta σ H (.int i)) (h2:RE K tb σ H (.int j)):RE K (tOp (rI0 fun i j=>.int (i + j)) ta tb) σ H (.int (i + j)):=sC h1 h2 fun _=>Dat.intI _
theorem Bf (h1:RE K ta σ H (.int i)) (h2:RE K tb σ H (.int j)):RE K (tOp (rI0 fun i j=>.int (i - j)) ta tb) σ H (.int (i - j)):=sC h1 h2 fun _=>Dat.intI _
theorem d4 {p:Int→Int→Bool} (h1:RE K ta σ H (.int i)) (h2:RE K tb σ H (.int j)):RE K (tOp (rI0 fun i j=>.bl (p i j)) ta tb) σ H (.bl (p i j)):=sC h1 h2 fun _=>Dat.blI _
theorem pe (h1:RE K ta σ H (.int i)) (h2:RE K tb σ H (.int j)):RE K (tOp rEq ta tb) σ H (.bl (decide (i = j))):=fun H1 s Q q =>
  h1 H1 s _ fun v H2 s2 q2=>h2 H2 (s.trans s2) _ fun w H3 s3 q3=>by
    rw [q2.intE,q3.intE]
    refine ⟨rfl,?_⟩
    have e:decide (V.int i = V.int j) = decide (i = j):=by by_cases z:i = j <;> simp [z]
    rw [e]
    exact q _ _ (s2.trans s3) (Dat.blI _)
theorem eT (h1:RE K ta σ H (.int i)) (h2:RE K tb σ H (.int j)):RE K (tOp rNe ta tb) σ H (.bl (!decide (i = j))):=fun H1 s Q q =>
  h1 H1 s _ fun v H2 s2 q2=>h2 H2 (s.trans s2) _ fun w H3 s3 q3=>by
    rw [q2.intE,q3.intE]
    refine ⟨rfl,?_⟩
    have e:decide (V.int i = V.int j) = decide (i = j):=by by_cases z:i = j <;> simp [z]
    rw [e]
    exact q _ _ (s2.trans s3) (Dat.blI _)
theorem bj {x y:Str} (h1:RE K ta σ H (.str x)) (h2:RE K tb σ H (.str y)):RE K (tOp rEq ta tb) σ H (.bl (decide (x = y))):=fun H1 s Q q =>
  h1 H1 s _ fun v H2 s2 q2=>h2 H2 (s.trans s2) _ fun w H3 s3 q3=>by
    rw [q2.strE,q3.strE]
    refine ⟨rfl,?_⟩
    have e:decide (V.str x = V.str y) = decide (x = y):=by by_cases z:x = y <;> simp [z]
    rw [e]
    exact q _ _ (s2.trans s3) (Dat.blI _)
theorem aK {k:Nat} (h1:RE K ta σ H (.tup ds)) (h2:RE K tb σ H (.int k)) (e:ds[k]? = some d):RE K (tOp (m5 K) ta tb) σ H d:=fun H1 s Q q =>
  h1 H1 s _ fun v H2 s2 q2=>h2 H2 (s.trans s2) _ fun w H3 s3 q3=>by
    obtain ⟨a,vs,ev,hq,hd⟩:=(s3.dat q2).tupE
    obtain ⟨x,ex,hx⟩:=hd.get e
    exact ⟨a,vs,k,x,ev,q3.intE,hq,fD ex,q _ _ (s2.trans s3) hx⟩
theorem cg (h:RE K t σ H (.tup ds)):RE K (tCB (fun xs H Q=>∃ p ys,xs = [.ref p]∧(SqL K H p ys∨SqT K H p ys)∧Q (.int ys.length) H) (bD t dt)) σ H (.int ds.length):=fun H1 s Q q =>
  h H1 s _ fun v H2 s2 q2=>by
    obtain ⟨a,vs,ev,hq,hd⟩:=q2.tupE
    subst ev
    refine ⟨a,vs,rfl,.inr hq,?_⟩
    rw [← hd.length]
    exact q _ _ s2 (Dat.intI _)
theorem bA {T:String} (h:RE K t σ H d):RE K (tCB (fun xs H Q=>∃ x d,xs = [x,.ty T]∧Dat K H d x∧Q (.bl (jc d T)) H) (bD t (bD (tC (.ty T)) dt))) σ H (.bl (jc d T)):=fun H1 s Q q =>
  h H1 s _ fun v H2 s2 q2=>⟨v,d,rfl,q2,q _ _ s2 (Dat.blI _)⟩
theorem bq {R:List D→D→Prop} {E:XK} (h:RA K tA σ H ds) (e:R ds d):RE K (fB (spD K R) [] E tA) σ H d:=fun H1 s Q q =>
  h H1 s _ fun vs H2 s2 q2=>⟨ds,d,by rw [List.append_nil]; exact q2,e,fun v H3 s3 q3=>q _ _ (s2.trans s3) q3⟩
theorem fh {k:Str} {a:Addr} {T:List (Str × KTD.Dat)} (h:RE K t σ H (.str k)) (ht:iW K a T):RE K (tOp (fun x y H Q=>∃ k a T,x = .str k∧y = .ref a∧iW K a T∧Q (.bl (KTD.inKeys k T)) H) t (tC (.ref a))) σ H (.bl (KTD.inKeys k T)):=fun H1 s Q q =>
  h H1 s _ fun v H2 s2 q2=>⟨k,a,T,q2.strE,rfl,ht,q _ _ s2 (Dat.blI _)⟩
theorem rd {k:Str} {a:Addr} {T:List (Str × KTD.Dat)} (h:RE K t σ H (.str k)) (ht:iW K a T) (hp:(T.all fun p=>KTD.plain p.2) = true) (e:KTD.datumAt k T = some (.flat (.int i))):RE K (tOp (xI K) (tC (.ref a)) t) σ H (.int i):=fun H1 s Q q =>
  h H1 s _ fun v H2 s2 q2=>⟨a,k,T,i,rfl,q2.strE,ht,hp,e,q _ _ s2 (Dat.intI _)⟩
theorem B2 {n:Nat}:HT.sIx (n + 1) 0 (some 1) = 1:=by
  have:=HT.sIx_nat (n + 1) 0 1
  simpa using this
theorem Cj (v:V) (r:List V):iX (v :: r) (some 1) none = r:=by
  unfold iX
  rw [List.length_cons,B2,HT.sIx_none]
  simp
theorem gI (h:RE K t σ H (.tup (d' :: ds))):RE K (tSl (A7 K) t (jS (tC (.int 1))) iU) σ H (.tup ds):=fun H1 s Q q =>
  h H1 s _ fun v H2 s2 q2=>by
    obtain ⟨a,vs,ev,hq,hd⟩:=q2.tupE
    obtain ⟨w,r,er,h1,h2⟩:=hd.consE
    subst ev er
    refine ⟨1,rfl,a,w :: r,rfl,hq,fun z=>?_,fun p hp=>?_⟩
    · rw [List.length_cons,B2] at z
      exact absurd z.1 (by decide)
    · rw [Cj]
      exact q _ _ (s2.trans (aD hp _)) (Dat.tupI (SqT.of au) ((aD hp _).dats h2))
theorem cq (h1:RE K ta σ H (.bl b)) (h2:b = true→RE K tb σ H (.bl c)):RE K (yb ta tb) σ H (.bl (b && c)):=fun H1 s Q q =>
  h1 H1 s _ fun v H2 s2 q2=>⟨b,q2.blE,by
    cases b with
    | true=>rw [if_pos rfl]; exact h2 rfl H2 (s.trans s2) _ fun w H3 s3 q3=>q _ _ (s2.trans s3) q3
    | false=>rw [if_neg Bool.false_ne_true]; exact q _ _ s2 (Dat.blI _)⟩
theorem tZ (h1:RE K ta σ H (.bl b)) (h2:b = false→RE K tb σ H (.bl c)):RE K (B8 ta tb) σ H (.bl (b || c)):=fun H1 s Q q =>
  h1 H1 s _ fun v H2 s2 q2=>⟨b,q2.blE,by
    cases b with
    | true=>rw [if_pos rfl]; exact q _ _ s2 (Dat.blI _)
    | false=>rw [if_neg Bool.false_ne_true]; exact h2 rfl H2 (s.trans s2) _ fun w H3 s3 q3=>q _ _ (s2.trans s3) q3⟩
theorem xV (h:RE K t σ H (.bl b)):RE K (Ag t) σ H (.bl (!b)):=fun H1 s Q q =>
  h H1 s _ fun v H2 s2 q2=>⟨b,q2.blE,q _ _ s2 (Dat.blI _)⟩
theorem jN {p r:Int→Int→Bool} {k:Int} {tc:TE} (h1:RE K ta σ H (.int i)) (h2:RE K tb σ H (.int j)) (h3:p i j = true→RE K tc σ H (.int k)) :
    RE K (pK (rI0 fun i j=>.bl (p i j)) (rI0 fun i j=>.bl (r i j)) ta tb tc) σ H (.bl (p i j && r j k)):=fun H1 s Q q =>
  h1 H1 s _ fun v H2 s2 q2=>h2 H2 (s.trans s2) _ fun w H3 s3 q3=>by
    refine ⟨i,j,q2.intE,q3.intE,p i j,rfl,?_⟩
    cases hp:p i j with
    | true =>
      simp only [if_true,Bool.true_and]
      exact h3 hp H3 (s.trans (s2.trans s3)) _ fun z H4 s4 q4=>⟨j,k,q3.intE,q4.intE,q _ _ (s2.trans (s3.trans s4)) (by rw [hp]; exact Dat.blI _)⟩
    | false =>
      simp only [Bool.false_eq_true,if_false,Bool.false_and]
      exact q _ _ (s2.trans s3) (by rw [hp]; exact Dat.blI _)
theorem rb (h:RT tt σ H b) (h1:b = true→RE K ta σ H d) (h2:b = false→RE K tb σ H d):RE K (tIf tt ta tb) σ H d:=fun H1 s Q q =>
  h H1 s _ fun H2 s2=>by
    cases b with
    | true=>rw [if_pos rfl]; exact h1 rfl H2 (s.trans s2) _ fun w H3 s3 q3=>q _ _ (s2.trans s3) q3
    | false=>rw [if_neg Bool.false_ne_true]; exact h2 rfl H2 (s.trans s2) _ fun w H3 s3 q3=>q _ _ (s2.trans s3) q3
theorem aC (h:RE K t σ H (.bl b)):RT (rn t) σ H b:=fun H1 s Q q=>h H1 s _ fun v H2 s2 q2=>⟨b,q2.blE,q _ s2⟩
theorem aO (h:RE K t σ H (.bl b)):RT (fun σ H Q=>t σ H fun x H'=>∃ k,vJ K x H' k∧Q k H') σ H b:=fun H1 s Q q=>h H1 s _ fun v H2 s2 q2=>by
  rw [q2.blE]
  exact ⟨b,rfl,q _ s2⟩
theorem bo (h:RT tt σ H b):RT (Br tt) σ H (!b):=fun H1 s Q q=>h H1 s _ fun H2 s2=>q _ s2
theorem Bj (h:RT tt σ H b) (h2:b = true→RT uu σ H c):RT (B4 tt uu) σ H (b && c):=fun H1 s Q q=>h H1 s _ fun H2 s2=>by
  cases b with
  | true=>rw [if_pos rfl]; exact h2 rfl H2 (s.trans s2) _ fun H3 s3=>q _ (s2.trans s3)
  | false=>rw [if_neg Bool.false_ne_true]; exact q _ s2
theorem bN (h:RT tt σ H b) (h2:b = false→RT uu σ H c):RT (tOr tt uu) σ H (b || c):=fun H1 s Q q=>h H1 s _ fun H2 s2=>by
  cases b with
  | true=>rw [if_pos rfl]; exact q _ s2
  | false=>rw [if_neg Bool.false_ne_true]; exact h2 rfl H2 (s.trans s2) _ fun H3 s3=>q _ (s2.trans s3)
theorem bc {En:Ends} (h:RE K t σ H d) (q:∀ v H',Same H H'→Dat K H' d v→En.rt v H'):Bs t En σ H:=h.use q
theorem gJ {En:Ends} {ts us:TS} (h:RT tt σ H b) (h1:b = true→∀ H',Same H H'→ts En σ H') (h2:b = false→∀ H',Same H H'→us En σ H'):zJ tt ts us En σ H:=h.use fun H' s=>by
  cases b with
  | true=>rw [if_pos rfl]; exact h1 rfl H' s
  | false=>rw [if_neg Bool.false_ne_true]; exact h2 rfl H' s
end
theorem bI:bootBuiltins "len" = some (.builtin "len"):=by decide +kernel
theorem aQ:bootBuiltins "isinstance" = some (.builtin "isinstance"):=by decide +kernel
theorem j3:bootBuiltins "all" = some (.builtin "all"):=by decide +kernel
theorem vP:bootBuiltins "int" = some (.type "int"):=by decide +kernel
theorem sV:bootBuiltins "bool" = some (.type "bool"):=by decide +kernel
theorem vR:bootBuiltins "str" = some (.type "str"):=by decide +kernel
theorem cA:bootBuiltins "tuple" = some (.type "tuple"):=by decide +kernel
theorem om:bootBuiltins "list" = some (.type "list"):=by decide +kernel
theorem vQ:bootBuiltins "range" = some (.type "range"):=by decide +kernel
theorem AD:bootBuiltins "set" = some (.type "set"):=by decide +kernel
theorem vS:bootBuiltins "zip" = some (.type "zip"):=by decide +kernel
theorem mT:bootBuiltins "ValueError" = some (.type "ValueError"):=by decide +kernel
theorem pw {K:PySem.W.Frag} {σ:St} {H:Hp} {tA:TA} {ds:List D} {Q:VK} (h:RA K tA σ H ds) (q:∀ p vs H1,Same H H1→H1 p = none→Dats K H1 ds vs→Q (.ref p) (upd H1 p (.lst vs))) (hl:ds.length ≤ 1000:=by simp):pL tA σ H Q :=
  h.use fun vs H1 s1 q1=>⟨by rw [← q1.length]; exact bW hl,fun p hp=>q p vs H1 s1 hp q1⟩
theorem gC {K:PySem.W.Frag} {J:It} {n:Nat} {item:Nat→V} {j:Nat} {te:TE} {σ0:St} {H1:Hp} {Q:VK} (go:∀ i H',Same H1 H'→i < n→J.go i H'∧∀ x H'',J.yld i H' x H''→H'' = H'∧x = item i) (stop:∀ H',Same H1 H'→J.stop n H')
    (h0:σ0.set j none = σ0) (es:List D) (hn:es.length = n) (hb:n ≤ 1000) (turn:∀ i d,es[i]? = some d→RE K te (σ0.set j (some (item i))) H1 d)
    (fin:∀ l ys H',H1 l = none→Same H1 H'→H' l = some (.lst ys)→Dats K H' es ys→Q (.ref l) H') (l:Addr) (hl:H1 l = none) :
    ∃ W:Nat→Nat→St→Hp→Prop,(∃ m,W 0 m σ0 (upd H1 l (.lst [])))∧∀ i m σ' H',W i m σ' H' →
      (J.stop i H'∧Q (.ref l) H') ∨
      (J.go i H'∧∃ Nx:St→Hp→Prop,(∀ σ'' H'',Nx σ'' H''→∃ m',m' < m∧W (i + 1) m' σ'' H'')∧∀ x H'',J.yld i H' x H''→bX j x σ' H'' fun σ2 H2=>dN σ2 H2 fun b H3 =>
        if b = true then te σ2 H3 fun v H4=>∃ ys,H4 l = some (.lst ys)∧ys.length < sizeLine∧Nx σ2 (upd H4 l (.lst (ys ++ [v]))) else Nx σ2 H3):=by
  refine lJ (fun H'=>Same H1 H') go stop h0 l (fun i H'=>Same H1 H'∧∃ ys,H' l = some (.lst ys)∧Dats K H' (es.take i) ys) ?_ ?_ ?_ ?_
  · exact ⟨aD hl _,[],au,by rw [List.take_zero]; exact Dats.nil⟩
  · intro i H' _ p
    exact p.1
  · intro i H' hi ⟨s1,ys,hy,hd⟩
    have hi':i < es.length:=by omega
    refine ((turn i es[i] (List.getElem?_eq_getElem hi')).mono s1).use fun v H4 s4 q4=>?_
    have hy4:=s4 _ _ hy
    have lys:ys.length = i:=by rw [← hd.length,List.length_take]; omega
    refine ⟨ys,hy4,bJ (by omega),⟨_,rfl⟩,fun b o hb=>?_,ys ++ [v],au,?_⟩
    · rw [aJ (az hb hl)]
      exact s4 _ _ (s1 _ _ hb)
    · have g:cQ K H4 (upd H4 l (.lst (ys ++ [v]))):=But.grow (t:=l) (But.upd (Same.refl H4).but) hy4 au
      rw [List.take_add_one,List.getElem?_eq_getElem hi']
      exact Dats.append (Dats.mono g _ (s4.dats hd)) (Dats.cons (Dat.mono g _ q4) Dats.nil)
  · intro H' ⟨s1,ys,hy,hd⟩
    rw [List.take_of_length_le (by omega)] at hd
    exact fin l ys H' hl s1 hy hd
theorem aN {K:PySem.W.Frag} {σ:St} {H:Hp} {tt:TT} {b:Bool} {En:Ends} {ts us:TS} (h:RT tt σ H b) (h1:b = true→∀ H',Same H H'→ts { En with nx:=us En } σ H') (h2:b = false→∀ H',Same H H'→us En σ H'):jT (zJ tt ts ue) us En σ H :=
  gJ h h1 h2
theorem eG {K:PySem.W.Frag} {σ:St} {H:Hp} {t:TE} {d:D} {En:Ends} {us:TS} {k:Nat} (h:RE K t σ H d) (q:∀ v H',Same H H'→Dat K H' d v→us En (σ.set k (some v)) H'):jT (pJ t (bX k)) us En σ H:=h.use q
theorem cJ {σ:St} {H:Hp} {te:TE} {En:Ends} {us:TS} {k:Nat} (h:te σ H fun x H1=>us En (σ.set k (some x)) H1):jT (pJ te (bX k)) us En σ H:=h
theorem ku {σ:St} {H:Hp} {te:TE} {En:Ends} {us:TS} (h:te σ H fun _ H1=>us En σ H1):jT (nS te) us En σ H:=h
theorem xX {σ:St} {H:Hp} {v:V} {Q:VK} (h:Q v H):tC v σ H Q:=h
theorem dS {σ:St} {H:Hp} {te:TE} {En:Ends} (h:te σ H En.rt):Bs te En σ H:=h
theorem cO {σ:St} {H:Hp} {En:Ends} {ts us:TS} (h:ts { En with nx:=us En } σ H):jT ts us En σ H:=h
theorem nN {K:PySem.W.Frag} {tl te:TE} {mk:St→St} {j:Nat} {σ:St} {H:Hp} {Q:VK} {cs:List D} (h:RE K tl σ H (.tup cs)) (hc:cs.length ≤ 1000) (es:List D) (hl:es.length = cs.length) (h0:(mk σ).set j none = mk σ)
    (turn:∀ H1 (i:Nat) c v d,Same H H1→cs[i]? = some c→es[i]? = some d→Dat K H1 c v→RE K te ((mk σ).set j (some v)) H1 d)
    (fin:∀ l ys H',H l = none→Same H H'→H' l = some (.lst ys)→Dats K H' es ys→Q (.ref l) H'):fC (wC K tl) mk (bX j) dN te σ H Q:=by
  refine h.use fun v4 H4 s4 q4=>?_
  obtain ⟨a,vs,e,hq,hd⟩:=q4.tupE
  subst e
  have l4:=hd.length
  refine ⟨a,rfl,⟨vs,hq⟩,?_⟩
  refine gC (K:=K) (Q:=Q) (n:=vs.length) (item:=fun i=>vs.getD i .non) (fun i H' s hi=>wt i H' (s.sqT hq) hi) (fun H' s=>⟨vs,s.sqT hq,Nat.le_refl _⟩) h0 es (by omega) (by omega) (fun i d hi=>?_) (fun l ys H5 hl5 s5=>fin l ys H5 (s4.free hl5) (s4.trans s5))
  have hi':i < es.length:=(List.getElem?_eq_some_iff.mp hi).1
  have hic:i < cs.length:=by omega
  obtain ⟨vz,ez,hz⟩:=hd.get (List.getElem?_eq_getElem hic)
  have q:=turn H4 i cs[i] vz d s4 (List.getElem?_eq_getElem hic) hi hz
  rw [List.getD_eq_getElem?_getD,ez]
  exact q
end L2
end
section
namespace L2
open PySem PySem.Spec PyProof.Rows
theorem lj {j:Nat} {v:V} {σ:St} {H:Hp} {Q:St→Hp→Prop} (h:Q (σ.set j (some v)) H):bX j v σ H Q:=h
theorem t7 {ts us:TS} {En:Ends} {σ:St} {H:Hp} (M:St→Hp→Prop) (hr:∀ σ' H',M σ' H'→us En σ' H') (h:(∀ σ' H',M σ' H'→us En σ' H')→ts { En with nx:=us En } σ H):jT ts us En σ H:=h hr
theorem dQ {P:Program} {w:World} {K:PySem.W.Frag} {mg:Str→Option Value} {base:Heap} {CX:CXT} {k:Nat} {f:Addr} {fd:FuncData} {ps:List Str} {sp:Sp} (no:∀ vs H Q E,¬ sp vs H Q E):FnOk P w K mg base CX k f fd ps sp :=
  ⟨fun vs H Q E h=>absurd h (no vs H Q E),fun A outer s H args us vs Q E _ _ _ _ h=>absurd h (no vs H Q E)⟩
theorem sA {tA:TA} {te:TE} {mk:St→St} {j:Nat} {σ:St} {H:Hp} {Q:VK} (n:Nat) (h:∀ R:List V→Hp→Prop,R [.int n] H→tA σ H R) (hc:n ≤ 1000) (h0:(mk σ).set j none = mk σ) (Pn:Addr→Nat→Hp→Prop)
    (p0:∀ l,H l = none→Pn l 0 (upd H l (.lst [])))
    (turn:∀ l i G,H l = none→i < n→Pn l i G→te ((mk σ).set j (some (.int i))) G fun v H4=>∃ ys,H4 l = some (.lst ys)∧ys.length < sizeLine∧(∃ z,(mk σ).set j (some (.int i)) = (mk σ).set j z)∧Pn l (i + 1) (upd H4 l (.lst (ys ++ [v]))))
    (fin:∀ l G,H l = none→Pn l n G→Q (.ref l) G):fC (zS tA) mk (bX j) dN te σ H Q:=by
  refine h _ ⟨n,rfl,by omega,by omega,fun l hl=>?_⟩
  rw [Int.toNat_natCast]
  exact lJ (fun _=>True) (item:=fun i=>.int i) (fun i H' _ hi=>AM i H' hi) (fun H' _=>Nat.le_refl _) h0 l (Pn l) (p0 l hl) (fun _ _ _ _=>trivial) (fun i G hi p=>turn l i G hl hi p) (fun G p=>fin l G hl p)
theorem gH {ta:TE} {r:List V→Hp→VK→Prop} {σ:St} {H:Hp} {Q:VK} (h:ta σ H fun x H1=>r [x] H1 Q):tCB r (bD ta dt) σ H Q:=h
theorem jP {K:PySem.W.Frag} {tA:TA} {us:TS} {En:Ends} {σ:St} {G:Hp} {j:Nat} {l:Addr} {xs:List V} {es:List D} (h:RA K tA σ G es) (hl:G l = some (.lst xs)) (hx:xs.length ≤ 900)
    (q:∀ ys G',But l G G'→G' l = some (.lst (xs ++ ys))→Dats K G' es ys→us En σ G') (hv:σ[j]? = some (some (.ref l)):=by rfl) (he:es.length ≤ 100:=by simp):jT (nS (tBM K "list" o8 (dJ j) (bD (pL tA) dt))) us En σ G:=by
  refine ⟨_,hv,.inl ⟨rfl,_,SqL.of hl⟩,?_⟩
  refine pw h (fun p vs H1 s1 hp q1=>?_) (by omega)
  have hlp:l ≠ p:=az (s1 _ _ hl) hp
  have hl1:upd H1 p (.lst vs) l = some (.lst xs):=by rw [aJ hlp]; exact s1 _ _ hl
  have lv:=q1.length
  refine ⟨l,p,xs,vs,rfl,rfl,hl1,au,bW (by omega),?_⟩
  have b:But l (upd H1 p (.lst vs)) (upd (upd H1 p (.lst vs)) l (.lst (xs ++ vs))):=But.upd (Same.refl _).but
  have g:cQ K (upd H1 p (.lst vs)) (upd (upd H1 p (.lst vs)) l (.lst (xs ++ vs))):=b.grow hl1 au
  exact q vs _ ((s1.trans (aD hp _)).but.trans b) au (Dats.mono g _ ((aD hp _).dats q1))
theorem lA {K:PySem.W.Frag} {te:TE} {us:TS} {En:Ends} {σ:St} {H:Hp} {i j:Nat} {d e:D} (h:RE K te σ H (.tup [d,e])) (q:∀ v w H',Same H H'→Dat K H' d v→Dat K H' e w→us En ((σ.set i (some v)).set j (some w)) H') :
    jT (pJ te (qo K 2 (fY (bX i) (fY (bX j) rP)))) us En σ H :=
  h.use fun x H1 s1 q1=>by
    obtain ⟨a,vs,e1,hq,hd⟩:=q1.tupE
    obtain ⟨v,w,e2,hv,hw⟩:=fA hd
    subst e1 e2
    exact ⟨a,_,rfl,hq,rfl,v,_,rfl,w,_,rfl,rfl,q v w H1 s1 hv hw⟩
def zV:Expr→Bool
  | .Starred ..=>false
  | _=>true
theorem ve {e:Expr} {es:List Expr} {env:Env} (h:zV e = true):starEach (e :: es) env = (false,eval e env) :: starEach es env:=by
  cases e <;> first | rfl | cases h
theorem aj {X:Cx} {e:Expr} {es:List Expr} {te:TE} {t:TA} (ha:PE X e te) (hr:PA X es t) (h:zV e = true:=by rfl):PA X (e :: es) (bD te t):=aV ha hr (ve h)
end L2
end
section
namespace L2
open PySem PySem.Spec PyProof.Rows
theorem sN {bs:List Bool} {us:List Value}:Vals (bs.map V.bl) us→us = bs.map Value.bool:=by
  intro h
  induction bs generalizing us with
  | nil=>cases h; rfl
  | cons b bs ih =>
    cases h with
    | cons r t=>cases r; rw [ih t]; rfl
theorem A9 (bs:List Bool) (d:Bool):(List.range bs.length).map (fun i=>(bs[i]?).getD d) = bs:=by
  apply List.ext_getElem
  · simp
  · intro i h1 h2
    simp at h1
    simp [h1]
section
variable {X:Cx}
theorem gB (hc:X.calm = true):gz X (.builtin "all") (fun xs H Q=>∃ (l:Addr) (bs:List Bool),xs = [.ref l]∧SqL X.K H l (bs.map V.bl)∧Q (.bl (bs.all id)) H):=by
  intro pins s σ H xs us Q I r h
  obtain ⟨l,bs,rfl,hq,q⟩:=h
  obtain ⟨u,rfl,ru⟩:=gv r
  cases ru
  obtain ⟨its,rv,p,hz⟩:=I.list hq
  have ei:=sN rv
  have hl:=p.isList
  have hlt:l < s.heap.objs.size:=by obtain ⟨_,e,_⟩:=hl; exact Heap.lt_size e
  refine call_all_walk (wpAny_pyIter_list hl ?_)
  refine ⟨s.heap.objs.size,[s.heap.objs.size,l],[s.heap.objs.size],its.toArray.size,_,_,fun i=>(bs[i]?).getD true,rfl,Walks.list (A:=X.A.in1) (I.ok.hd hc) _ l (Nat.ne_of_lt hlt) its.toArray,
    ⟨⟨_,Heap.get?_push_size _ rfl,rfl,rfl⟩,hl.push _⟩,fun i v s' Q' E' hP hQ=>?_,fun h' tk hk=>?_⟩
  · subst ei
    have hP':(bs.map Value.bool)[i]? = some v:=by simpa using hP
    rw [List.getElem?_map] at hP'
    cases hb:bs[i]? with
    | none=>rw [hb] at hP'; cases hP'
    | some b =>
      rw [hb] at hP'
      cases hP'
      simp only [hb,Option.getD_some] at hQ
      exact wpAny_truthy_bool hQ
  · have e:((List.range its.toArray.size).all fun i=>(bs[i]?).getD true) = bs.all id:=by
      subst ei
      rw [List.size_toArray,List.length_map]
      conv=>rhs; rw [← A9 bs true]
      rw [List.all_map]
      rfl
    rw [e]
    exact ⟨.bl _,H,I.kept (t':=tk) fun b x e=>hk b x (fun hm=>by rw [List.mem_singleton.mp hm] at e; exact Nat.lt_irrefl _ (Heap.lt_size e)) (Heap.get?_push_of_some _ e),rfl,q⟩
end
section
variable {P:Program} {w:World} {K:PySem.W.Frag} {mg:Str→Option Value} {base:Heap}
end
section
variable {K:PySem.W.Frag} {σ:St} {H H':Hp} {d d':D} {ds:List D} {t u ta tb:TE} {tt uu:TT} {tA:TA} {i j:Int} {b c:Bool}
theorem pf (h1:RE K ta σ H (.int i)) (h2:RE K tb σ H (.int j)) (hj:0 < j):RE K (tOp (rI (fun _ j=>0 < j) fun i j=>.int (i % j)) ta tb) σ H (.int (i % j)):=xW h1 h2 hj fun _=>Dat.intI _
theorem kZ (h1:RE K ta σ H (.int i)) (h2:RE K tb σ H (.int j)) (hc:Aj i j):RE K (tOp (rI Aj fun i j=>.int (i / j)) ta tb) σ H (.int (i / j)):=xW h1 h2 hc fun _=>Dat.intI _
theorem vZ:∀ {bs:List Bool} {vs:List V},Dats K H (bs.map D.bl) vs→vs = bs.map V.bl
  | [],vs,h=>by rw [Dats.nilE h]; rfl
  | b :: bs,vs,h=>by
    obtain ⟨v,r,e,h1,h2⟩:=h.consE
    rw [e,h1.blE,vZ h2]
    rfl
end
end L2
end
section
namespace L2
open PySem PySem.Spec PyProof.Rows
section
variable {K:PySem.W.Frag} {σ:St} {H H':Hp} {d d':D} {ds:List D} {t u ta tb:TE} {tt uu:TT} {tA:TA} {i j:Int} {b c:Bool}
theorem p6:∀ {xs:List Str} {vs:List V},Dats K H (xs.map D.str) vs→vs = xs.map V.str
  | [],vs,h=>by rw [Dats.nilE h]; rfl
  | x :: xs,vs,h=>by
    obtain ⟨v,r,e,h1,h2⟩:=h.consE
    rw [e,h1.strE,p6 h2]
    rfl
theorem yB (x y:Str):eqV (.str x) (.str y) = decide (x = y):=by
  unfold eqV
  by_cases h:x = y <;> simp [h]
theorem oG (x:Str):∀ ys:List Str,inV (.str x) (ys.map V.str) = decide (x ∈ ys)
  | []=>by simp [inV]
  | y :: ys=>by
    have ih:=oG x ys
    unfold inV at ih ⊢
    rw [List.map_cons,List.any_cons,ih,yB]
    by_cases h:y = x
    · subst h; simp
    · have h':¬ x = y:=fun z=>h z.symm
      simp [h,h']
theorem nA (ys:List Str):(ys.map V.str).all jC = true:=by
  rw [List.all_eq_true]
  intro v hv
  obtain ⟨y,_,rfl⟩:=List.mem_map.mp hv
  rfl
theorem Be {x:Str} {ys:List Str} (h1:RE K ta σ H (.str x)) (h2:RE K tb σ H (.tup (ys.map D.str))):RE K (tOp (rIn K false) ta tb) σ H (.bl (decide (x ∈ ys))):=fun H1 s Q q =>
  h1 H1 s _ fun v H2 s2 q2=>h2 H2 (s.trans s2) _ fun w H3 s3 q3=>by
    obtain ⟨a,vs,ev,hq,hd⟩:=q3.tupE
    have e:=p6 hd
    subst e
    rw [q2.strE]
    refine ⟨a,_,ev,.inr hq,rfl,nA ys,?_⟩
    rw [oG]
    exact q _ _ (s2.trans s3) (Dat.blI _)
theorem uW {x:Str} {ys:List Str} (h1:RE K ta σ H (.str x)) (h2:RE K tb σ H (.tup (ys.map D.str))):RE K (tOp (rIn K true) ta tb) σ H (.bl (!decide (x ∈ ys))):=fun H1 s Q q =>
  h1 H1 s _ fun v H2 s2 q2=>h2 H2 (s.trans s2) _ fun w H3 s3 q3=>by
    obtain ⟨a,vs,ev,hq,hd⟩:=q3.tupE
    have e:=p6 hd
    subst e
    rw [q2.strE]
    refine ⟨a,_,ev,.inr hq,rfl,nA ys,?_⟩
    rw [oG]
    exact q _ _ (s2.trans s3) (Dat.blI _)
theorem ph {x y:Str} (h1:RE K ta σ H (.str x)) (h2:RE K tb σ H (.str y)):RE K (tOp rNe ta tb) σ H (.bl (!decide (x = y))):=fun H1 s Q q =>
  h1 H1 s _ fun v H2 s2 q2=>h2 H2 (s.trans s2) _ fun w H3 s3 q3=>by
    rw [q2.strE,q3.strE]
    refine ⟨rfl,?_⟩
    have e:decide (V.str x = V.str y) = decide (x = y):=by by_cases z:x = y <;> simp [z]
    rw [e]
    exact q _ _ (s2.trans s3) (Dat.blI _)
end
end L2
end
section
namespace L2
open PySem PySem.Spec PyProof.Rows
section
variable {X:Cx}
theorem zl {body:List Stmt} {t:TS} {h:ExceptHandler} {hs:List ExceptHandler} {pos:Pos} (hb:PSs X body t) (hx:X.xe = (fun _ _=>False):=by rfl):PS X (.Try body (h :: hs) [] [] pos) t:=by
  intro pins s σ H D I q
  have w:=hb pins s σ H D I q
  rw [hx] at w
  refine wpAny_Try_except (wpAny_mono w (fun f s1 hf=>?_) fun e s1 z=>z.elim)
  cases f with
  | next =>
    obtain ⟨σ',H',I',q'⟩:=hf
    exact aS pins s1 σ' H' D I' q'
  | ret u=>exact hf
  | brk=>exact hf
  | cont=>exact hf
theorem xk:OpR X (compareOp .LtE) (fun x y H Q=>∃ i j:Str,x = .str i∧y = .str j∧Q (.bl (!decide (j.cps.toList < i.cps.toList))) H):=by
  intro pins s σ H x y v u Q I rx ry h
  obtain ⟨i,j,rfl,rfl,q⟩:=h
  obtain ⟨t,rfl⟩:=rx
  obtain ⟨t',rfl⟩:=ry
  refine PySem.P.le_str ?_
  exact ⟨.bl _,H,I,rfl,q⟩
def Its (x:Str):It:=⟨fun i _=>i < x.cps.size,fun i H v H'=>H' = H∧∃ c,x.cps[i]? = some c∧v = .str ⟨#[c]⟩,fun i _=>i = x.cps.size⟩
theorem nU {P:Program} {w:World} {K:PySem.W.Frag} {tg:Expr} {it:Addr} {n:String} {x:Str} {t:Tok} (hn:["enumerate","zip","dict_itemiterator","dict_reverseitemiterator","odict_iterator","itertools.zip_longest","itertools.pairwise"].contains n = false)
    (W:∀ A:Around,A.handled = none→Walks P w A it [it] [it] x.cps.size (SignAt x) (fun i h=>h.IsStrIter it n x t i))
    (self:∀ (A:Around) (i:Nat) (s:Shared) (Q:Value→Shared→Prop) (E:Value→Shared→Prop),s.heap.IsStrIter it n x t i→Q (.ref it) s→wpAny (model P w) A (pyIter (.ref it)) Q E s) :
    mO P w K tg (Its x) [it] it (fun i h=>h.IsStrIter it n x t i) where
  mem:=by simp
  obj:=fun i h st b hb=>by
    have e:b = it:=by simpa using hb
    subst e
    obtain ⟨o,e,c,d⟩:=st
    exact ⟨o,e,fun v z=>by rw [d] at z; cases z⟩
  keep:=fun i h h' st k=>by
    obtain ⟨o,e,r⟩:=st
    exact ⟨o,k it (by simp) o e,r⟩
  item:=by
    intro X hP hw hK hc i pins s σ H E I hf st hg
    subst hP hw hK
    obtain ⟨f0,f1,f2,f3,f4,f5⟩:=hf it (by simp)
    refine (W X.A (I.ok.hd hc)).item i s _ _ hg st fun v h' tk hv st' kk=>?_
    obtain ⟨c,u,hx,rfl⟩:=hv
    have I1:Inv X pins σ H { s with heap:=h',toks:=tk }:=I.turned (fun b o hb e=>kk b o (by simpa using hb) e) f0 f1 f3 f4 f5
    obtain ⟨o,e,cc,d⟩:=id st'
    exact ⟨_,rfl,tF (s:={ s with heap:=h',toks:=tk }) e cc d hn ⟨.str ⟨#[c]⟩,H,I1,⟨u,rfl⟩,⟨rfl,c,hx,rfl⟩,st',fun b hb=>(hf b hb).1⟩⟩
  done:=by
    intro X hP hw hK hc i pins s σ H E I hf st hg
    subst hP hw hK
    obtain ⟨f0,f1,f2,f3,f4,f5⟩:=hf it (by simp)
    have hg':i = x.cps.size:=hg
    subst hg'
    exact (W X.A (I.ok.hd hc)).done s _ _ st fun h' tk eb=>⟨rfl,I.turned (fun b o hb e=>eb b o (by simpa using hb) e) f0 f1 f3 f4 f5⟩
  self:=self
variable {tg:Expr}
def BM (tl:TE):TI:=fun σ H R=>tl σ H fun v H1=>∃ x,v = .str x∧R (Its x) H1
theorem A4 {l:Expr} {tl:TE} (hl:PE X l tl):PI X tg l (BM tl):=by
  intro pins s σ H R I h
  refine thn (hl pins s σ H _ I h) fun v s1 ⟨xv,H1,I1,r1,q1⟩=>?_
  obtain ⟨x,e,q⟩:=q1
  subst e
  obtain ⟨t,rfl⟩:=r1
  have fin:∀ (o:Obj) (n:String),mO X.prog X.w X.K tg (Its x) [s1.heap.objs.size] s1.heap.objs.size (fun i h=>h.IsStrIter s1.heap.objs.size n x t i)→(s1.heap.push o).IsStrIter s1.heap.objs.size n x t 0→PIE X pins σ tg R (.ref s1.heap.objs.size) { s1 with heap:=s1.heap.push o }:=by
    intro o n T st
    refine ⟨s1.heap.objs.size,[s1.heap.objs.size],_,_,H1,rfl,I1.kept (t':=s1.toks) fun b o e=>Heap.get?_push_of_some _ e,T,st,fun b hb=>?_,q⟩
    have e:b = s1.heap.objs.size:=by simpa using hb
    subst e
    exact I1.fpOk (Nat.le_refl _) (I1.hok.fresh (Nat.le_refl _))
  cases ha:x.cps.all (· < 128)
  · exact wpAny_pyIter_wide ha (fin _ "str_iterator" (nU (by decide) (fun A hA=>Walks.strWide hA _ x t) fun A i s Q E st q=>wpAny_pyIter_striter_wide st q) ⟨_,Heap.get?_push_size _ rfl,rfl,rfl⟩)
  · exact wpAny_pyIter_ascii ha (fin _ "str_ascii_iterator" (nU (by decide) (fun A hA=>Walks.strAscii hA _ x t) fun A i s Q E st q=>wpAny_pyIter_striter_ascii st q) ⟨_,Heap.get?_push_size _ rfl,rfl,rfl⟩)
theorem qS:OpR X (compareOp .NotIn) (fun x y H Q=>∃ k a T,x = .str k∧y = .ref a∧iW X.K a T∧Q (.bl (!KTD.inKeys k T)) H):=by
  intro pins s σ H x y v u Q I rx ry h
  obtain ⟨k,a,T,ex,ey,t,q⟩:=h
  subst ex ey
  obtain ⟨tk,rfl⟩:=rx
  cases ry
  exact KTD.notin_text (h₀:=s.heap) ⟨t _ I.kIn,fun _ _ e=>e⟩ ⟨.bl _,H,I.tok _,rfl,q⟩
def tV (K:PySem.W.Frag):R2:=fun x y H Q=>∃ a k T z,x = .ref a∧y = .str k∧iW K a T∧(T.all fun p=>KTD.plain p.2) = true∧KTD.datumAt k T = some (.flat (.str z))∧Q (.str z) H
theorem yM:IxR X (tV X.K):=by
  intro value slice pins s σ H x y v u Q I rx ry h hs
  obtain ⟨a,k,T,z,ex,ey,t,hp,hd,q⟩:=h
  subst ex ey
  obtain ⟨tk,rfl⟩:=ry
  cases rx
  have hm:KTD.inKeys k T = true:=by rw [← KTD.isSome_datumAt,hd]; rfl
  refine KTD.item_textA (h₀:=s.heap) ⟨t _ I.kIn,fun _ _ e=>e⟩ hp hm ?_ hs
  exact each T hd fun t'=>⟨.str z,H,I.tok _,⟨t',rfl⟩,q⟩
where
  each {h:Heap} {k:Str} {P:Value→Prop} {z:Str}:∀ (T:List (Str × KTD.Dat)),KTD.datumAt k T = some (.flat (.str z))→(∀ t,P (.str z t))→KTD.EachL h k P T
    | [],hd,_=>by simp [KTD.datumAt] at hd
    | (x,d) :: T,hd,hP=>by
      have hd':(if decide (k = x) = true then some d else KTD.datumAt k T) = some (.flat (.str z)):=hd
      by_cases hx:k = x
      · rw [if_pos (decide_eq_true hx)] at hd'
        cases hd'
        exact KTD.eachL_hit hx (KTD.opened_str hP)
      · rw [if_neg (by simp [hx])] at hd'
        exact KTD.eachL_miss hx (each T hd' hP)
def uf (K:PySem.W.Frag) (td ty tx:TE):TE:=fun σ H Q=>td σ H fun x H1=>∃ a T,x = .ref a∧iW K a T∧ty σ H1 fun y H2=>tx σ H2 fun z H3=>∃ k i,y = .str k∧z = .int i∧(∀ p ∈ T,∃ j,p.2 = .flat (.int j)) ∧
  Q (.int (match KTD.datumAt k T with | some (.flat (.int j))=>j | _=>i)) H3
theorem uO {o e f:Expr} {apos cpos:Pos} {td ty tx:TE} (ho:PE X o td) (he:PE X e ty) (hf:PE X f tx) (m:M2 X o "get" apos e f cpos):PE X (.Call (.Attribute o "get" apos) [e,f] [] cpos) (uf X.K td ty tx):=by
  intro pins s σ H Q I h
  refine wpAny_Call_method m.base m.few m.line PySem.F.plainAttrs_dict PySem.F.slot_dict_get PySem.F.type_dict_get (thn (ho pins s σ H _ I h) fun u s1 ⟨x,H1,I1,rx,a,T,ex,tk,q1⟩=>?_)
  subst ex
  obtain rfl:u = Value.ref a:=rx
  have t1:=tk _ I1.kIn
  obtain ⟨lo,ob,es,ep,hob,hex,hdat,hrows⟩:=id t1
  refine ⟨⟨ob,hob,hex.1⟩,fun b eb=>?_,?_⟩
  · cases eb
    exact ⟨ob,hob,hex.2.1⟩
  rw [m.trees]
  refine Calls.callWith_builtin rfl (Calls.evalArgs_plain (Calls.spliced_cons (thn (he pins s1 σ H1 _ I1 q1) fun iv s2 ⟨y,H2,I2,ry,q2⟩ =>
    Calls.spliced_cons (thn (hf pins s2 σ H2 _ I2 q2) fun fv s3 ⟨z,H3,I3,rz,k,i,ey,ez,hT,q3⟩=>Calls.spliced_nil ?_))))
  subst ey ez
  obtain ⟨tok1,rfl⟩:=ry
  obtain ⟨tok2,rfl⟩:=rz
  refine KTD.get2_text (h₀:=s3.heap) ⟨tk _ I3.kIn,fun _ _ e=>e⟩ ?_
  have fin:∀ (D:List (Str × KTD.Dat)),(∀ p ∈ D,∃ j,p.2 = .flat (.int j))→Q (.int (match KTD.datumAt k D with | some (.flat (.int j))=>j | _=>i)) H3 →
      KTD.Each s3.heap k (fun v=>EP X pins σ Q v { s3 with toks:=s3.toks + 1 }) (EP X pins σ Q (.int i tok2) { s3 with toks:=s3.toks + 1 }) D:=by
    intro D
    induction D with
    | nil=>intro _ q; exact KTD.each_nil ⟨.int i,H3,I3.tok _,⟨_,rfl⟩,q⟩
    | cons p D ih =>
      intro hD q
      obtain ⟨x,d⟩:=p
      obtain ⟨j,ej⟩:=hD (x,d) List.mem_cons_self
      have ej':d = .flat (.int j):=ej
      subst ej'
      have ed:KTD.datumAt k ((x,KTD.Dat.flat (.int j)) :: D) = if decide (k = x) = true then some (.flat (.int j)) else KTD.datumAt k D:=rfl
      rw [ed] at q
      by_cases hx:k = x
      · rw [if_pos (decide_eq_true hx)] at q
        exact KTD.each_hit hx (KTD.opened_int fun t=>⟨.int j,H3,I3.tok _,⟨t,rfl⟩,q⟩)
      · rw [if_neg (by simp [hx])] at q
        exact KTD.each_miss hx (ih (fun p hp=>hD p (List.mem_cons_of_mem _ hp)) q)
  exact fin T hT q3
end
end L2
end
section
namespace L2
open PySem PySem.Spec PyProof.Rows
structure vw (P:Program) (w:World) (K:PySem.W.Frag) (a:Addr) (ks:List Str):Prop where
  lk:∃ o,K.lookup a = some o
  tb:∀ h:Heap,K.In h→∃ D,StrTab P w h a D∧D.map (·.1) = ks.map PyData.str
def Itk (ks:List Str):It:=⟨fun i _=>i < ks.length,fun i H v H'=>H' = H∧∃ k,ks[i]? = some k∧v = .str k,fun i _=>i = ks.length⟩
theorem uz {kvs:List (Str × Value)} {D:List (PyData × PyData)} {ks:List Str} (h:PyProof.V.FlatPairs PyData.str kvs D) (e:D.map (·.1) = ks.map PyData.str):kvs.map (·.1) = ks:=by
  induction h generalizing ks with
  | nil =>
    cases ks with
    | nil=>rfl
    | cons k ks=>simp at e
  | cons _ _ ih =>
    cases ks with
    | nil=>simp at e
    | cons k ks =>
      simp only [List.map_cons,List.cons.injEq] at e
      obtain ⟨e1,e2⟩:=e
      injection e1 with e1
      rw [List.map_cons,ih e2,← e1]
theorem yf {P:Program} {w:World} {K:PySem.W.Frag} {tg:Expr} {it d:Addr} {ep:Nat} {kvs:List (Str × Value)} (hD:∀ h:Heap,K.In h→h.DictAt (strKind P w) d kvs ep) :
    mO P w K tg (Itk (kvs.map (·.1))) [it] it (fun i h=>h.IsKeyIter it d i kvs.length ep) where
  mem:=by simp
  obj:=fun i h st b hb=>by
    have e:b = it:=by simpa using hb
    subst e
    obtain ⟨o,e,c,d⟩:=st
    exact ⟨o,e,fun v z=>by rw [d] at z; cases z⟩
  keep:=fun i h h' st k=>by
    obtain ⟨o,e,r⟩:=st
    exact ⟨o,k it (by simp) o e,r⟩
  item:=by
    intro X hP hw hK hc i pins s σ H E I hf st hg
    subst hP hw hK
    obtain ⟨f0,f1,f2,f3,f4,f5⟩:=hf it (by simp)
    have hi:i < kvs.length:=by have z:i < (kvs.map (·.1)).length:=hg; simpa using z
    refine wpAny_pyNext_dict_item st (hD _ I.kIn) (List.getElem?_eq_getElem hi) fun key h' hk st' sb=>?_
    obtain ⟨t,rfl⟩:=Value.isStrOf_shape hk
    have I1:Inv X pins σ H { s with heap:=h' }:=I.turned (t':=s.toks) (fun b o hb e=>(sb.2 b hb).trans e) f0 f1 f3 f4 f5
    refine ⟨_,rfl,PyProof.Rows.letGo_keyiter (s':={ s with heap:=h' }) st' ⟨.str (kvs[i]).1,H,I1,⟨t,rfl⟩,⟨rfl,(kvs[i]).1,?_,rfl⟩,st',fun b hb=>(hf b hb).1⟩⟩
    rw [List.getElem?_map,List.getElem?_eq_getElem hi]
    rfl
  done:=by
    intro X hP hw hK hc i pins s σ H E I hf st hg
    subst hP hw hK
    obtain ⟨f0,f1,f2,f3,f4,f5⟩:=hf it (by simp)
    have hi:i = kvs.length:=by have z:i = (kvs.map (·.1)).length:=hg; simpa using z
    exact wpAny_pyNext_dict_end (I.ok.hd hc) st (hD _ I.kIn) (by simp [hi]) fun h' eb=>⟨rfl,I.turned (t':=s.toks) (fun b o hb e=>eb b o hb e) f0 f1 f3 f4 f5⟩
  self:=fun A i s Q E st q=>wpAny_pyIter_keyiter st q
section
variable {X:Cx} {tg:Expr}
def BN (P:Program) (w:World) (K:PySem.W.Frag) (tl:TE):TI:=fun σ H R=>tl σ H fun v H1=>∃ a ks,v = .ref a∧vw P w K a ks∧R (Itk ks) H1
theorem A5 {l:Expr} {tl:TE} (hl:PE X l tl):PI X tg l (BN X.prog X.w X.K tl):=by
  intro pins s σ H R I h
  refine thn (hl pins s σ H _ I h) fun v s1 ⟨xv,H1,I1,r1,q1⟩=>?_
  obtain ⟨a,ks,e,hK,q⟩:=q1
  subst e
  cases r1
  obtain ⟨D,T,hD⟩:=hK.tb _ I1.kIn
  obtain ⟨o,ho⟩:=hK.lk
  obtain ⟨lo,kvs,hdo,hf⟩:=T
  obtain ⟨ep,hat⟩:=hdo.dictAt
  have ek:=uz hf hD
  subst ek
  have hall:∀ h:Heap,X.K.In h→h.DictAt (strKind X.prog X.w) a kvs ep:=fun h x=>by
    obtain ⟨o',es,e1,r⟩:=hat
    have z:=I1.kIn _ _ ho
    rw [e1] at z
    cases z
    exact ⟨_,es,x _ _ ho,r⟩
  refine wpAny_pyIter_dict lo hat ?_
  refine ⟨s1.heap.objs.size,[s1.heap.objs.size],_,_,H1,rfl,I1.kept (t':=s1.toks) fun b o e=>Heap.get?_push_of_some _ e,yf hall,⟨_,Heap.get?_push_size _ rfl,rfl,rfl⟩,fun b hb=>?_,q⟩
  have e:b = s1.heap.objs.size:=by simpa using hb
  subst e
  exact I1.fpOk (Nat.le_refl _) (I1.hok.fresh (Nat.le_refl _))
end
end L2
end
section
namespace L2
open PySem PySem.Spec PyProof.Rows
def RC (K:PySem.W.Frag) (t:TE) (σ:St) (H:Hp) (es:List D):Prop:=∀ H1,Same H H1→∀ Q:VK,(∀ l ys H',H1 l = none→Same H1 H'→H' l = some (.lst ys)→Dats K H' es ys→Q (.ref l) H')→t σ H1 Q
section
variable {K:PySem.W.Frag} {σ:St} {H H':Hp} {d d':D} {ds es:List D} {t u ta tb te tl:TE} {tt uu:TT} {tA:TA} {i j:Int} {b c:Bool} {mk:St→St} {jj:Nat}
theorem RC.mono (h:RC K t σ H es) (e:Same H H'):RC K t σ H' es:=fun H1 s Q q=>h H1 (e.trans s) Q q
theorem RC.as (h:RC K t σ H es) (e:es = ds):RC K t σ H ds:=e ▸ h
theorem RC.use {Q:VK} (h:RC K t σ H es) (q:∀ l ys H',H l = none→Same H H'→H' l = some (.lst ys)→Dats K H' es ys→Q (.ref l) H'):t σ H Q:=h H (Same.refl H) Q q
theorem fz (h:RA K tA σ H es) (hl:es.length ≤ 1000:=by simp):RC K (pL tA) σ H es:=fun H1 s Q q =>
  pw (h.mono s) (fun p vs H2 s2 hp hd=>q p vs _ (s2.free hp) (s2.trans (aD hp _)) au ((aD hp _).dats hd)) hl
theorem sy {cs:List D} (h:RE K tl σ H (.tup cs)) (hc:cs.length ≤ 1000) (es:List D) (hl:es.length = cs.length) (h0:(mk σ).set jj none = mk σ)
    (turn:∀ H1 (i:Nat) c v d,Same H H1→cs[i]? = some c→es[i]? = some d→Dat K H1 c v→RE K te ((mk σ).set jj (some v)) H1 d):RC K (fC (wC K tl) mk (bX jj) dN te) σ H es:=fun H1 s Q q =>
  nN (K:=K) (h.mono s) hc es hl h0 (fun H2 i c v d s2=>turn H2 i c v d (s.trans s2)) (fun l ys H2 hl s2 hy hd=>q l ys H2 hl s2 hy hd)
theorem Ba {x:Str} (h:RE K tl σ H (.str x)) (hc:x.cps.size ≤ 1000) (es:List D) (hl:es.length = x.cps.size) (h0:(mk σ).set jj none = mk σ)
    (turn:∀ H1 (i:Nat) c d,Same H H1→x.cps[i]? = some c→es[i]? = some d→RE K te ((mk σ).set jj (some (.str ⟨#[c]⟩))) H1 d):RC K (fC (BM tl) mk (bX jj) dN te) σ H es:=fun H1 s Q q=>by
  refine (h.mono s).use fun v4 H4 s4 q4=>?_
  have e:=q4.strE
  subst e
  refine ⟨x,rfl,?_⟩
  refine gC (K:=K) (Q:=Q) (n:=x.cps.size) (item:=fun i=>.str ⟨#[x.cps.getD i 0]⟩) (fun i H' s hi=>⟨hi,fun v H'' y=>⟨y.1,?_⟩⟩) (fun H' s=>rfl) h0 es hl hc (fun i d hi=>?_) (fun l ys H5 hl5 s5=>q l ys H5 (s4.free hl5) (s4.trans s5))
  · obtain ⟨_,c,hc,e⟩:=y
    rw [e,Array.getD_eq_getD_getElem?,hc]
    rfl
  · have hi':i < es.length:=(List.getElem?_eq_some_iff.mp hi).1
    have hc:x.cps[i]? = some (x.cps.getD i 0):=by
      rw [Array.getD_eq_getD_getElem?,Array.getElem?_eq_getElem (by omega)]
      rfl
    exact turn H4 i _ d (s.trans s4) hc hi
theorem Bb {P:Program} {w:World} {a:Addr} {ks:List Str} (hK:vw P w K a ks) (hc:ks.length ≤ 1000) (es:List D) (hl:es.length = ks.length) (h0:(mk σ).set jj none = mk σ)
    (turn:∀ H1 (i:Nat) k d,Same H H1→ks[i]? = some k→es[i]? = some d→RE K te ((mk σ).set jj (some (.str k))) H1 d):RC K (fC (BN P w K (tC (.ref a))) mk (bX jj) dN te) σ H es:=fun H1 s Q q=>by
  refine ⟨a,ks,rfl,hK,?_⟩
  refine gC (K:=K) (Q:=Q) (n:=ks.length) (item:=fun i=>.str (ks.getD i "")) (fun i H' s hi=>⟨hi,fun v H'' y=>⟨y.1,?_⟩⟩) (fun H' s=>rfl) h0 es hl hc (fun i d hi=>?_) q
  · obtain ⟨_,k,hk,e⟩:=y
    rw [e,List.getD_eq_getElem?_getD,hk]
    rfl
  · have hi':i < es.length:=(List.getElem?_eq_some_iff.mp hi).1
    have hk:ks[i]? = some (ks.getD i ""):=by
      rw [List.getD_eq_getElem?_getD,List.getElem?_eq_getElem (by omega)]
      rfl
    exact turn H1 i _ d s hk hi
theorem zr {cs:List D} (h:RC K tl σ H cs) (hc:cs.length ≤ 1000) (es:List D) (hl:es.length = cs.length) (h0:(mk σ).set jj none = mk σ)
    (turn:∀ H1 (i:Nat) c v d,Same H H1→cs[i]? = some c→es[i]? = some d→Dat K H1 c v→RE K te ((mk σ).set jj (some v)) H1 d):RC K (fC (qy K tl) mk (bX jj) dN te) σ H es:=fun H1 s Q q=>by
  refine (h.mono s).use fun l4 ys4 H4 hl4 s4 hy4 hd4=>?_
  have ll:=hd4.length
  refine ⟨l4,rfl,⟨ys4,SqL.of hy4⟩,?_⟩
  refine gC (K:=K) (Q:=Q) (n:=ys4.length) (item:=fun i=>ys4.getD i .non) (fun i H' s hi=>lR i H' (SqL.of (s _ _ hy4)) hi) (fun H' s=>⟨ys4,SqL.of (s _ _ hy4),Nat.le_refl _⟩) h0 es (by omega) (by omega) (fun i d hi=>?_) (fun l ys H5 hl5 s5=>q l ys H5 (s4.free hl5) (s4.trans s5))
  have hi':i < es.length:=(List.getElem?_eq_some_iff.mp hi).1
  have hic:i < cs.length:=by omega
  obtain ⟨vz,ez,hz⟩:=hd4.get (List.getElem?_eq_getElem hic)
  have q:=turn H4 i cs[i] vz d (s.trans s4) (List.getElem?_eq_getElem hic) hi hz
  rw [List.getD_eq_getElem?_getD,ez]
  exact q
theorem iN {R:List D→List D→Prop} {E:XK} (h:RA K tA σ H ds) (e:R ds es):RC K (fB (kC K R) [] E tA) σ H es:=fun H1 s Q q =>
  h H1 s _ fun vs H2 s2 q2=>⟨ds,es,by rw [List.append_nil]; exact q2,e,fun r us H3 s3 hr hr0 hd=>q r us H3 (s2.free hr0) (s2.trans s3) hr hd⟩
theorem iO {bs:List Bool} (h:RC K t σ H (bs.map D.bl)):RE K (tCB (fun xs H Q=>∃ (l:Addr) (bs:List Bool),xs = [.ref l]∧SqL K H l (bs.map V.bl)∧Q (.bl (bs.all id)) H) (bD t dt)) σ H (.bl (bs.all id)):=fun H1 s Q q =>
  gH ((h.mono s).use fun l ys H' _ s' hy hd=>⟨l,bs,rfl,by rw [← vZ hd]; exact SqL.of hy,q _ _ s' (Dat.blI _)⟩)
theorem uY (h:RE K t σ H (.tup es)):RE K (tCB (fun xs H Q=>∃ p ys,xs = [.ref p]∧((SqL K H p ys∧∀ l,H l = none→Q (.ref l) (upd H l (.tup ys)))∨(SqT K H p ys∧Q (.ref p) H))) (bD t dt)) σ H (.tup es):=fun H1 s Q q =>
  gH ((h.mono s).use fun v H' s' hd=>by
    obtain ⟨a,vs,e,hq,hds⟩:=hd.tupE
    subst e
    exact ⟨a,vs,rfl,.inr ⟨hq,q _ _ s' (Dat.tupI hq hds)⟩⟩)
theorem zy (h:RC K t σ H es):RE K (tCB (fun xs H Q=>∃ p ys,xs = [.ref p]∧(SqL K H p ys∨SqT K H p ys)∧Q (.int ys.length) H) (bD t dt)) σ H (.int es.length):=fun H1 s Q q =>
  gH ((h.mono s).use fun l ys H' _ s' hy hd=>⟨l,ys,rfl,.inl (SqL.of hy),by rw [← hd.length]; exact q _ _ s' (Dat.intI _)⟩)
theorem zz {x:Str} (h:RE K t σ H (.str x)) (hx:x.length ≤ sizeLine):RE K (tCB (fun xs H Q=>∃ z:Str,xs = [.str z]∧z.length ≤ sizeLine∧Q (.int z.length) H) (bD t dt)) σ H (.int x.length):=fun H1 s Q q =>
  gH ((h.mono s).use fun v H' s' hd=>by
    rw [hd.strE]
    exact ⟨x,rfl,hx,q _ _ s' (Dat.intI _)⟩)
theorem h9 {us:TS} {En:Ends} {k:Nat} (h:RC K t σ H es) (q:∀ l ys H',H l = none→Same H H'→H' l = some (.lst ys)→Dats K H' es ys→us En (σ.set k (some (.ref l))) H'):jT (pJ t (bX k)) us En σ H:=h.use q
theorem uR {tc:TE} {x y z:Str} {p q':Str→Str→Bool} (h1:RE K ta σ H (.str x)) (h2:RE K tb σ H (.str y)) (h3:p x y = true→RE K tc σ H (.str z)) :
    RE K (pK (fun u v H Q=>∃ i j:Str,u = .str i∧v = .str j∧Q (.bl (p i j)) H) (fun u v H Q=>∃ i j:Str,u = .str i∧v = .str j∧Q (.bl (q' i j)) H) ta tb tc) σ H (.bl (p x y && q' y z)):=fun H1 s Q q =>
  h1 H1 s _ fun v H2 s2 q2=>h2 H2 (s.trans s2) _ fun w H3 s3 q3=>by
    refine ⟨x,y,q2.strE,q3.strE,p x y,rfl,?_⟩
    cases hp:p x y with
    | true =>
      simp only [if_true,Bool.true_and]
      exact h3 hp H3 (s.trans (s2.trans s3)) _ fun z' H4 s4 q4=>⟨y,z,q3.strE,q4.strE,q _ _ (s2.trans (s3.trans s4)) (by rw [hp]; exact Dat.blI _)⟩
    | false =>
      simp only [Bool.false_eq_true,if_false,Bool.false_and]
      exact q _ _ (s2.trans s3) (by rw [hp]; exact Dat.blI _)
theorem rf {k:Str} {a:Addr} {T:List (Str × KTD.Dat)} (h:RE K t σ H (.str k)) (ht:iW K a T):RE K (tOp (fun x y H Q=>∃ k a T,x = .str k∧y = .ref a∧iW K a T∧Q (.bl (!KTD.inKeys k T)) H) t (tC (.ref a))) σ H (.bl (!KTD.inKeys k T)):=fun H1 s Q q =>
  h H1 s _ fun v H2 s2 q2=>⟨k,a,T,q2.strE,rfl,ht,q _ _ s2 (Dat.blI _)⟩
theorem uU {k z:Str} {a:Addr} {T:List (Str × KTD.Dat)} (h:RE K t σ H (.str k)) (ht:iW K a T) (hp:(T.all fun p=>KTD.plain p.2) = true) (e:KTD.datumAt k T = some (.flat (.str z))):RE K (tOp (tV K) (tC (.ref a)) t) σ H (.str z):=fun H1 s Q q =>
  h H1 s _ fun v H2 s2 q2=>⟨a,k,T,z,rfl,q2.strE,ht,hp,e,q _ _ s2 (Dat.strI _)⟩
def mJ (k:Str) (T:List (Str × KTD.Dat)) (i:Int):Int:=match KTD.datumAt k T with | some (.flat (.int j))=>j | _=>i
theorem uX {k:Str} {a:Addr} {T:List (Str × KTD.Dat)} (ht:iW K a T) (h1:RE K ta σ H (.str k)) (h2:RE K tb σ H (.int i)) (hT:∀ p ∈ T,∃ j,p.2 = .flat (.int j)):RE K (uf K (tC (.ref a)) ta tb) σ H (.int (mJ k T i)):=fun H1 s Q q =>
  ⟨a,T,rfl,ht,h1 H1 s _ fun v H2 s2 q2=>h2 H2 (s.trans s2) _ fun w H3 s3 q3=>⟨k,i,(s3.dat q2).strE,q3.intE,hT,q _ _ (s2.trans s3) (Dat.intI _)⟩⟩
theorem yw {vs:List V} {lo hi:Nat}:iX vs (some (lo:Int)) (some (hi:Int)) = (vs.drop lo).take (hi - lo):=by
  unfold iX
  rw [HT.sIx_nat,HT.sIx_nat]
  apply List.ext_getElem?
  intro i
  simp only [List.getElem?_take,List.getElem?_drop]
  by_cases h1:i < hi - lo
  · rw [if_pos h1]
    by_cases h2:i < min hi vs.length - min lo vs.length
    · rw [if_pos h2]
      congr 1
      omega
    · rw [if_neg h2,List.getElem?_eq_none (by omega)]
  · rw [if_neg h1,if_neg (by omega)]
theorem Dats.dropN:∀ {n:Nat} {ds:List D} {vs:List V},Dats K H ds vs→Dats K H (ds.drop n) (vs.drop n)
  | 0,_,_,h=>h
  | n + 1,[],_,h=>by rw [h.nilE]; exact Dats.nil
  | n + 1,d :: ds,_,h=>by
    obtain ⟨v,r,e,h1,h2⟩:=h.consE
    subst e
    exact Dats.dropN (n:=n) h2
theorem Dats.takeN:∀ {n:Nat} {ds:List D} {vs:List V},Dats K H ds vs→Dats K H (ds.take n) (vs.take n)
  | 0,_,_,h=>by rw [List.take_zero,List.take_zero]; exact Dats.nil
  | n + 1,[],_,h=>by rw [h.nilE]; exact Dats.nil
  | n + 1,d :: ds,_,h=>by
    obtain ⟨v,r,e,h1,h2⟩:=h.consE
    subst e
    exact Dats.cons h1 (Dats.takeN (n:=n) h2)
theorem Bd {lo hi:Nat} (h:RE K t σ H (.tup ds)) (h1:RE K ta σ H (.int lo)) (h2:RE K tb σ H (.int hi)) (hl:1 ≤ lo) (hd:0 < ds.length):RE K (tSl (A7 K) t (jS ta) (jS tb)) σ H (.tup ((ds.drop lo).take (hi - lo))):=fun H1 s Q q =>
  h H1 s _ fun v H2 s2 q2=>h1 H2 (s.trans s2) _ fun v3 H3 s3 q3=>⟨lo,q3.intE,h2 H3 (s.trans (s2.trans s3)) _ fun v4 H4 s4 q4=>⟨hi,q4.intE,by
    obtain ⟨a,vs,ev,hq,hds⟩:=((s3.trans s4).dat q2).tupE
    have ll:=hds.length
    refine ⟨a,vs,ev,hq,fun z=>?_,fun p hp=>?_⟩
    · rw [HT.sIx_nat] at z
      omega
    · rw [yw]
      exact q _ _ (s2.trans (s3.trans (s4.trans (aD hp _)))) (Dat.tupI (SqT.of au) ((aD hp _).dats (Dats.takeN (Dats.dropN hds))))⟩⟩
end
mutual
def eJ (K:PySem.W.Frag):D→Value→Bool
  | .non,u=>(match u with | .none=>true | _=>false)
  | .bl b,u=>(match u with | .bool c=>b == c | _=>false)
  | .int i,u=>(match u with | .int j _=>i == j | _=>false)
  | .str x,u=>(match u with | .str y _=>x == y | _=>false)
  | .tup ds,u=>(match u with | .ref a=>(match K.lookup a with | some ⟨.type "tuple",_,.seq its _,_⟩=>decide (its.size ≤ 1000) && j4 K ds its.toList | _=>false) | _=>false)
  | .lst,_=>false
def j4 (K:PySem.W.Frag):List D→List Value→Bool
  | [],us=>us.isEmpty
  | d :: ds,us=>(match us with | u :: r=>eJ K d u && j4 K ds r | []=>false)
end
mutual
theorem kJ {K:PySem.W.Frag} (H:Hp):∀ (d:D) (u:Value),eJ K d u = true→∃ v,RelV v u∧Dat K H d v
  | .non,u,h=>by
    unfold eJ at h
    cases u <;> first | (exact ⟨.non,rfl,Dat.nonI⟩) | cases h
  | .bl b,u,h=>by
    unfold eJ at h
    cases u <;> first | cases h | skip
    rename_i c
    have e:b = c:=by simpa using h
    subst e
    exact ⟨.bl b,rfl,Dat.blI _⟩
  | .int i,u,h=>by
    unfold eJ at h
    cases u <;> first | cases h | skip
    rename_i j t
    have e:i = j:=by simpa using h
    subst e
    exact ⟨.int i,⟨t,rfl⟩,Dat.intI _⟩
  | .str x,u,h=>by
    unfold eJ at h
    cases u <;> first | cases h | skip
    rename_i y t
    have e:x = y:=by simpa using h
    subst e
    exact ⟨.str x,⟨t,rfl⟩,Dat.strI _⟩
  | .tup ds,u,h=>by
    unfold eJ at h
    cases u <;> first | cases h | skip
    rename_i a
    dsimp only at h
    split at h
    · rename_i od its n sl e
      rw [Bool.and_eq_true] at h
      obtain ⟨vs,r,hd⟩:=gX H ds its.toList h.2
      refine ⟨.ref a,rfl,Dat.tupI (.inr ⟨_,its,n,e,rfl,rfl,?_,r⟩) hd⟩
      exact Nat.le_trans (of_decide_eq_true h.1) (by decide)
    · cases h
  | .lst,u,h=>by unfold eJ at h; cases h
theorem gX {K:PySem.W.Frag} (H:Hp):∀ (ds:List D) (us:List Value),j4 K ds us = true→∃ vs,Vals vs us∧Dats K H ds vs
  | [],us,h=>by
    unfold j4 at h
    cases us with
    | nil=>exact ⟨[],.nil,Dats.nil⟩
    | cons u r=>cases h
  | d :: ds,us,h=>by
    unfold j4 at h
    cases us with
    | nil=>cases h
    | cons u r =>
      dsimp only at h
      rw [Bool.and_eq_true] at h
      obtain ⟨v,r1,h1⟩:=kJ H d u h.1
      obtain ⟨vs,r2,h2⟩:=gX H ds r h.2
      exact ⟨v :: vs,.cons r1 r2,Dats.cons h1 h2⟩
end
theorem Ck {K:PySem.W.Frag} {ds:List D} {a:Addr} (h:eJ K (.tup ds) (.ref a) = true) (H:Hp):Dat K H (.tup ds) (.ref a):=by
  obtain ⟨v,r,hd⟩:=kJ H _ _ h
  obtain ⟨b,vs,e,_⟩:=id hd.tupE
  subst e
  have z:Value.ref a = .ref b:=r
  cases z
  exact hd
theorem mD {K:PySem.W.Frag} {σ:St} {H:Hp} {ds:List D} {a:Addr} (h:eJ K (.tup ds) (.ref a) = true):RE K (tC (.ref a)) σ H (.tup ds):=fun H1 _ Q q=>q _ _ (Same.refl _) (Ck h H1)
end L2
end
section
namespace L2
open PySem PySem.Spec PyProof.Rows
section
variable {X:Cx}
theorem vW:gz X (.type "range") (fun xs H Q=>∃ n:Nat,xs = [.int n]∧∀ p,H p = none→Q (.ref p) (upd H p (.rng 0 n))):=by
  intro pins s σ H xs us Q I r h
  obtain ⟨n,rfl,q⟩:=h
  obtain ⟨u,rfl,ru⟩:=gv r
  obtain ⟨t,rfl⟩:=ru
  refine call_range_1 ⟨.ref s.heap.objs.size,_,I.laid (fun b o e=>Heap.get?_push_of_some _ e) (Nat.le_refl _) (show ObjOk X.prog X.w _ _ _ (.rng 0 n) from ⟨_,_,_,Heap.get?_push_size _ rfl⟩),rfl,q _ (I.hok.fresh (Nat.le_refl _))⟩
theorem yk {n:Nat} {acc:Array Value} (h:ItemsOf (fun i v=>∃ t,v = .int ((0:Int) + (i:Nat) * 1) t) acc n):Vals ((List.range n).map fun i:Nat=>V.int i) acc.toList:=by
  obtain ⟨hs,hi⟩:=h
  have all:∀ (l:List Value) (k:Nat),(∀ (j:Nat) (v:Value),l[j]? = some v→∃ t,v = Value.int ((0:Int) + ((k + j:Nat):Int) * 1) t)→Vals ((List.range' k l.length).map fun i:Nat=>V.int i) l:=by
    intro l
    induction l with
    | nil=>intro k _; exact .nil
    | cons u l ih =>
      intro k hj
      rw [List.length_cons,List.range'_succ,List.map_cons]
      refine .cons ?_ (ih (k + 1) fun j v e=>?_)
      · obtain ⟨t,e⟩:=hj 0 u rfl
        refine ⟨t,?_⟩
        rw [e]
        congr 1
        simp
      · obtain ⟨t,e'⟩:=hj (j + 1) v (by simpa using e)
        refine ⟨t,?_⟩
        rw [e']
        congr 1
        have:k + (j + 1) = k + 1 + j:=by omega
        rw [this]
  have q:=all acc.toList 0 fun j v e=>by
    rw [Nat.zero_add]
    exact hi j v (by simpa using e)
  rw [List.range_eq_range']
  rw [Array.length_toList,hs] at q
  exact q
theorem mU (hc:X.calm = true):gz X (.type "list") (fun xs H Q=>∃ (p:Addr) (n:Nat),xs = [.ref p]∧H p = some (.rng 0 n)∧n ≤ 1000∧∀ l,H l = none→Q (.ref l) (upd H l (.lst ((List.range n).map fun i:Nat=>V.int i)))):=by
  intro pins s σ H xs us Q I r h
  obtain ⟨p,n,rfl,hp,hn,q⟩:=h
  obtain ⟨u,rfl,rx⟩:=gv r
  cases rx
  obtain ⟨t,u,v,e⟩:=(show ObjOk X.prog X.w H s.heap p (.rng 0 n) from I.hok p _ hp)
  refine call_list_range (n:=n) (I.ok.hd hc) (show IsRange s.heap p 0 n 1 t u v from e) (small_one (by omega) (by omega) (by omega) (by omega)) ?_ (by omega) fun h' tk acc' c' kp e' hacc=>?_
  · rw [rangeSize_one]
    split <;> omega
  · have hv:=yk hacc
    have hl:=hv.length
    refine ⟨.ref s.heap.objs.size,_,I.laid kp (Nat.le_refl _) (show ObjOk X.prog X.w _ h' _ (.lst _) from ⟨?_,acc'.toList,c',hv,by simpa using e'⟩),rfl,q _ (I.hok.fresh (Nat.le_refl _))⟩
    simp only [List.length_map,List.length_range]
    exact Nat.le_trans hn (by decide)
def Bx (K:PySem.W.Frag) (a:Addr) (xs:List V):Prop:=∃ (its:Array Value) (n:Nat),K.lookup a = some ⟨.type "list",none,.seq its n,#[]⟩∧its.size ≤ 1000∧Vals xs its.toList
def aLst (K:PySem.W.Frag) (H:Hp) (a:Addr) (xs:List V):Prop:=H a = some (.lst xs)∨Bx K a xs
theorem aLst.sqL {K:PySem.W.Frag} {H:Hp} {a:Addr} {xs:List V} (h:aLst K H a xs):SqL K H a xs:=by
  rcases h with h | ⟨its,n,e,hz,r⟩
  · exact SqL.of h
  · exact .inr ⟨_,its,n,e,rfl,rfl,rfl,Nat.le_trans hz (by decide),r⟩
theorem aLst.at {pins:List (Addr × Obj)} {σ:St} {H:Hp} {s:Shared} {a:Addr} {xs:List V} (I:Inv X pins σ H s) (h:aLst X.K H a xs):∃ (its:List Value) (n:Nat),Vals xs its∧s.heap.get? a = some { cls:=.type "list",data:=.seq its.toArray n }:=by
  rcases h with h | ⟨its,n,e,hz,r⟩
  · obtain ⟨z,its,n,r,hl,e⟩:=I.lstM h
    exact ⟨its,n,r,e⟩
  · exact ⟨its.toList,n,r,by simpa using I.kIn _ _ e⟩
def zY (K:PySem.W.Frag):R2:=fun x y H Q=>∃ l b xs zs,x = .ref l∧y = .ref b∧aLst K H l xs∧aLst K H b zs∧xs.length + zs.length ≤ 1000∧∀ p,H p = none→Q (.ref p) (upd H p (.lst (xs ++ zs)))
theorem dv:OpR X (binaryOp .Add) (zY X.K):=by
  intro pins s σ H x y v u Q I rx ry h
  obtain ⟨l,b,xs,zs,rfl,rfl,hH,hB,hz,q⟩:=h
  cases rx
  cases ry
  obtain ⟨its,n,r,e⟩:=hH.at I
  obtain ⟨its2,n2,r2,e2⟩:=hB.at I
  have l1:=r.length
  have l2:=r2.length
  have hz':xs.length + zs.length ≤ sizeLine:=Nat.le_trans hz (by decide)
  refine PySem.P.add_list e e2 ?_ (by rw [List.size_toArray,List.size_toArray]; omega)
  have ea:its.toArray ++ its2.toArray = (its ++ its2).toArray:=by simp
  rw [ea]
  exact ⟨.ref _,_,I.lnew (t':=s.toks) (r.append r2) (by rw [List.length_append]; omega),rfl,q _ I.fresh⟩
end
section
variable {K:PySem.W.Frag} {σ:St} {H:Hp} {t:TE} {n:Nat}
def lY (K:PySem.W.Frag) (ds:List D) (a:Addr):Bool:=match K.lookup a with
  | some ⟨.type "list",none,.seq its _,sl⟩=>decide (its.size ≤ 1000) && (sl.isEmpty && j4 K ds its.toList)
  | _=>false
theorem oI {K:PySem.W.Frag} {ds:List D} {a:Addr} (h:lY K ds a = true) (H:Hp):∃ vs,Bx K a vs∧Dats K H ds vs:=by
  unfold lY at h
  split at h
  · rename_i its n sl e
    rw [Bool.and_eq_true,Bool.and_eq_true] at h
    obtain ⟨vs,r,hd⟩:=gX H ds its.toList h.2.2
    have es:sl = #[]:=by simpa using h.2.1
    subst es
    exact ⟨vs,⟨its,n,e,of_decide_eq_true h.1,r⟩,hd⟩
  · cases h
theorem o9 (h:RE K t σ H (.int n)) (hn:n ≤ 1000):RC K (tCB (fun xs H Q=>∃ (p:Addr) (n:Nat),xs = [.ref p]∧H p = some (.rng 0 n)∧n ≤ 1000∧∀ l,H l = none→Q (.ref l) (upd H l (.lst ((List.range n).map fun i:Nat=>V.int i))))
    (bD (tCB (fun xs H Q=>∃ n:Nat,xs = [.int n]∧∀ p,H p = none→Q (.ref p) (upd H p (.rng 0 n))) (bD t dt)) dt)) σ H ((List.range n).map fun i:Nat=>D.int i):=fun H1 s Q q =>
  gH (gH ((h.mono s).use fun v H2 s2 q2=>by
    rw [q2.intE]
    refine ⟨n,rfl,fun p hp=>⟨p,n,rfl,au,hn,fun l hl=>?_⟩⟩
    have s3:=s2.trans ((aD hp (.rng 0 n)).trans (aD hl (.lst ((List.range n).map fun i:Nat=>V.int i))))
    refine q l _ _ ((s2.trans (aD hp _)).free hl) s3 au ?_
    have z:∀ m:List Nat,Dats K (upd (upd H2 p (.rng 0 n)) l (.lst ((List.range n).map fun i:Nat=>V.int i))) (m.map fun i:Nat=>D.int i) (m.map fun i:Nat=>V.int i):=by
      intro m
      induction m with
      | nil=>exact Dats.nil
      | cons a m ih=>exact Dats.cons (Dat.intI _) ih
    exact z _))
end
end L2
end
section
namespace L2
open PySem PySem.Spec PyProof.Rows
structure Tri (l0 l1 l2:Addr) (H:Hp) (a b c:List V):Prop where
  h0:H l0 = some (.lst a)
  h1:H l1 = some (.lst b)
  h2:H l2 = some (.lst c)
  n01:l0 ≠ l1
  n02:l0 ≠ l2
  n12:l1 ≠ l2
def But3 (l0 l1 l2:Addr) (H H':Hp):Prop:=∀ b o,b ≠ l0→b ≠ l1→b ≠ l2→H b = some o→H' b = some o
section
variable {K:PySem.W.Frag} {l0 l1 l2:Addr} {H H' H2:Hp} {a b c a' b' c':List V} {v:V}
theorem Same.but3 (e:Same H H'):But3 l0 l1 l2 H H':=fun b o _ _ _ h=>e b o h
theorem But3.trans (x:But3 l0 l1 l2 H H') (y:But3 l0 l1 l2 H' H2):But3 l0 l1 l2 H H2:=fun b o n0 n1 n2 h=>y b o n0 n1 n2 (x b o n0 n1 n2 h)
theorem Tri.same (t:Tri l0 l1 l2 H a b c) (e:Same H H'):Tri l0 l1 l2 H' a b c:=⟨e _ _ t.h0,e _ _ t.h1,e _ _ t.h2,t.n01,t.n02,t.n12⟩
theorem But3.grow (e:But3 l0 l1 l2 H H') (t:Tri l0 l1 l2 H a b c) (t':Tri l0 l1 l2 H' a' b' c'):cQ K H H':=by
  have key:∀ (x:Addr) (o:HO),H x = some o→(∀ xs,o ≠ .lst xs)→H' x = some o:=fun x o h ho =>
    e x o (fun z=>by rw [z,t.h0] at h; cases h; exact ho _ rfl) (fun z=>by rw [z,t.h1] at h; cases h; exact ho _ rfl) (fun z=>by rw [z,t.h2] at h; cases h; exact ho _ rfl) h
  refine ⟨fun x xs h=>?_,fun x xs h=>?_⟩
  · rcases h with (h | ⟨o,h⟩) | h
    · exact .inl (.inl (key _ _ h (fun _ z=>by cases z)))
    · exact .inl (.inr ⟨o,key _ _ h (fun _ z=>by cases z)⟩)
    · exact .inr h
  · by_cases z0:x = l0
    · rw [z0]; exact ⟨_,SqL.of t'.h0⟩
    by_cases z1:x = l1
    · rw [z1]; exact ⟨_,SqL.of t'.h1⟩
    by_cases z2:x = l2
    · rw [z2]; exact ⟨_,SqL.of t'.h2⟩
    refine ⟨xs,?_⟩
    rcases h with (h | ⟨o,h⟩) | h
    · exact .inl (.inl (e _ _ z0 z1 z2 h))
    · exact .inl (.inr ⟨o,e _ _ z0 z1 z2 h⟩)
    · exact .inr h
theorem Tri.p0 (t:Tri l0 l1 l2 H a b c):Tri l0 l1 l2 (upd H l0 (.lst (a ++ [v]))) (a ++ [v]) (b ++ []) (c ++ [])∧But3 l0 l1 l2 H (upd H l0 (.lst (a ++ [v]))):=by
  rw [List.append_nil,List.append_nil]
  exact ⟨⟨au,by rw [aJ (Ne.symm t.n01)]; exact t.h1,by rw [aJ (Ne.symm t.n02)]; exact t.h2,t.n01,t.n02,t.n12⟩,fun x o n0 _ _ h=>by rw [aJ n0]; exact h⟩
theorem Tri.p1 (t:Tri l0 l1 l2 H a b c):Tri l0 l1 l2 (upd H l1 (.lst (b ++ [v]))) (a ++ []) (b ++ [v]) (c ++ [])∧But3 l0 l1 l2 H (upd H l1 (.lst (b ++ [v]))):=by
  rw [List.append_nil,List.append_nil]
  exact ⟨⟨by rw [aJ t.n01]; exact t.h0,au,by rw [aJ (Ne.symm t.n12)]; exact t.h2,t.n01,t.n02,t.n12⟩,fun x o _ n1 _ h=>by rw [aJ n1]; exact h⟩
theorem Tri.p2 (t:Tri l0 l1 l2 H a b c):Tri l0 l1 l2 (upd H l2 (.lst (c ++ [v]))) (a ++ []) (b ++ []) (c ++ [v])∧But3 l0 l1 l2 H (upd H l2 (.lst (c ++ [v]))):=by
  rw [List.append_nil,List.append_nil]
  exact ⟨⟨by rw [aJ t.n02]; exact t.h0,by rw [aJ t.n12]; exact t.h1,au,t.n01,t.n02,t.n12⟩,fun x o _ _ n2 h=>by rw [aJ n2]; exact h⟩
theorem Tri.nil (t:Tri l0 l1 l2 H a b c):Tri l0 l1 l2 H (a ++ []) (b ++ []) (c ++ []):=by
  rw [List.append_nil,List.append_nil,List.append_nil]; exact t
theorem h8 {te:TE} {us:TS} {En:Ends} {σ:St} {G:Hp} {j:Nat} {l:Addr} {xs:List V} {d:D} (h:RE K te σ G d) (hl:G l = some (.lst xs)) (hx:xs.length ≤ 900)
    (q:∀ y G',But l G G'→G' l = some (.lst (xs ++ [y]))→Dat K G' d y→us En σ G') (hv:σ[j]? = some (some (.ref l)):=by rfl):jT (nS (tBM K "list" o7 (dJ j) (bD te dt))) us En σ G:=by
  refine ⟨_,hv,.inl ⟨rfl,_,SqL.of hl⟩,h.use fun y H1 s1 q1=>?_⟩
  have hl1:=s1 _ _ hl
  refine ⟨l,xs,y,rfl,rfl,hl1,bJ (by omega),?_⟩
  have b:But l H1 (upd H1 l (.lst (xs ++ [y]))):=But.upd (Same.refl _).but
  exact q y _ (s1.but.trans b) au (Dat.mono (b.grow hl1 au) _ q1)
theorem kr {σ:St} {j:Nat} {f l:Addr} {x:Str} {kvs:List (Key × V)} {ys:List V} {es:List D} (hf:H f = some (.dK kvs)) (hk:jn kvs (Sum.inr x) = some (.ref l)) (hl:H l = some (.lst ys)) (hd:Dats K H es ys) (hv:σ[j]? = some (some (.ref f)):=by rfl) :
    RE K (tCB (fun xs H Q=>∃ p ys,xs = [.ref p]∧((SqL K H p ys∧∀ l,H l = none→Q (.ref l) (upd H l (.tup ys)))∨(SqT K H p ys∧Q (.ref p) H))) (bD (Af (dJ j) (tC (.str x))) dt)) σ H (.tup es):=fun H1 s Q q =>
  ⟨_,hv,f,.ref l,rfl,by have g:=DGet.k (k:=Sum.inr x) (s _ _ hf); rw [hk] at g; exact g,l,ys,rfl,.inl ⟨SqL.of (s _ _ hl),fun p hp=>q _ _ (aD hp _) (Dat.tupI (SqT.of au) ((aD hp _).dats (s.dats hd)))⟩⟩
end
end L2
end
section
namespace L2
open PySem PySem.Spec PyProof.Rows
section
variable {X:Cx}
variable {tg:Expr}
end
end L2
end
section
namespace L2
open PySem PySem.Spec PyProof.Rows
def met (f:Nat→Str) (i:Nat):List Str:=((List.range i).map f).foldl step_dedup []
theorem iE (f:Nat→Str) (i:Nat):met f (i + 1) = step_dedup (met f i) (f i):=by unfold met; rw [List.range_succ,List.map_append,List.foldl_append]; rfl
theorem oy (l:List Str) (x:Str):(step_dedup l x).length = if l.any (· == x) then l.length else l.length + 1:=by unfold step_dedup; split <;> simp
theorem tm (l:List Str) (x y:Str):(step_dedup l x).any (· == y) = (l.any (· == y) || decide (y = x)):=by
  unfold step_dedup
  split
  · rename_i h
    by_cases e:y = x
    · subst e; rw [h]; rfl
    · rw [decide_eq_false e,Bool.or_false]
  · rw [List.any_append]
    congr 1
    by_cases e:y = x
    · subst e; simp
    · have e':¬ x = y:=fun z=>e z.symm
      simp [e,e']
theorem oJ (f:Nat→Str):∀ i,(met f i).length ≤ i
  | 0=>by simp [met]
  | i + 1=>by rw [iE,oy]; have:=oJ f i; split <;> omega
theorem yj {P:Program} {w:World} {A:Around} {R:Result→Shared→Prop} {it:Addr} {fp wr:List Addr} {G:Array GenState→Array GenState→Prop} {n:Nat} {Pv:Nat→Value→Prop} {St:Nat→Shared→Prop}
    (W:WalksS P w A.in1 it fp wr G n Pv St) (sa:Addr) (nsa:sa ∉ fp) (f:Nat→Str) (hf:∀ i v,Pv i v→∃ t,v = .str (f i) t) (few:n + 1 < scanBound) :
    ∀ (m i:Nat) (s:Shared),n - i = m→i ≤ n→St i s→s.heap.SetOf (strKind P w) sa (fun y=>(met f i).any (· == y)) (met f i).length →
      (∀ s',Moved (sa :: wr) G s s'→s'.heap.SetOf (strKind P w) sa (fun y=>(met f n).any (· == y)) (met f n).length→R (.ok (.ret .none)) s')→codeAny (model P w) A (.builtin "set.update.loop" ⟨[.ref sa,.ref it],[]⟩) R s:=by
  have nw:sa ∉ wr:=fun z=>nsa (W.sub _ z)
  have more:∀ b ∈ wr,b ∈ sa :: wr:=fun b z=>List.mem_cons_of_mem _ z
  intro m
  induction m with
  | zero =>
    intro i s e1 e2 st so fin
    obtain rfl:i = n:=by omega
    refine codeAny_builtin PyProof.Rows.F.entry_set_update_loop ?_
    rw [Around.under_plainId PyProof.Rows.F.plain_set_update_loop _]
    show wpAny _ A.in1 (pyNext (.ref it) >>= _) _ _ s
    refine wpAny_bind (W.done s _ _ st fun s2 mv=>?_)
    show wpAny _ A.in1 (ret Value.none) _ _ s2
    obtain ⟨o,es,ep,tb,g,rest⟩:=so
    exact wpAny_pure (fin s2 (mv.mono more) ⟨o,es,ep,tb,mv.heap sa _ nw g,rest⟩)
  | succ m ih =>
    intro i s e1 e2 st so fin
    have lt:i < n:=by omega
    refine codeAny_builtin PyProof.Rows.F.entry_set_update_loop ?_
    rw [Around.under_plainId PyProof.Rows.F.plain_set_update_loop _]
    show wpAny _ A.in1 (pyNext (.ref it) >>= _) _ _ s
    refine wpAny_bind (W.item i s _ _ lt st fun v s2 pv st2 mv=>?_)
    obtain ⟨tk,rfl⟩:=hf i v pv
    have so2:s2.heap.SetOf (strKind P w) sa (fun y=>(met f i).any (· == y)) (met f i).length:=let ⟨o,es,ep,tb,g,rest⟩:=so; ⟨o,es,ep,tb,mv.heap sa _ nw g,rest⟩
    show wpAny _ A.in1 (holding [Value.str (f i) tk] (setAdd sa (.str (f i) tk)) >>= _) _ _ s2
    refine wpAny_bind (wpAny_holding ?_)
    unfold setAdd
    refine wpAny_holding (wpAny_bind ((strKind P w).pyHash (k:=f i) (strKind_is P w _ _) ?_))
    have rm:(met f i).length + 1 < scanBound:=by have:=oJ f i; omega
    refine wpAny_setAddHashed_of (knd:=strKind P w) (s:={ s2 with toks:=s2.toks + 1 }) (strKind_is P w _ _) rfl so2 rm fun h' sb so3=>?_
    have so4:h'.SetOf (strKind P w) sa (fun y=>(met f (i + 1)).any (· == y)) (met f (i + 1)).length:=SetOf_congr so3 (fun y=>by rw [iE,tm]) (by rw [iE,oy])
    refine wpAny_pure ⟨plainId_quiet PyProof.Rows.F.plain_set_update_loop _,ih (i + 1) _ (by omega) lt (W.frame _ s2 _ _ st2 (Nat.le_succ _) fun b z o g=>?_) so4 fun s3 mv3 so5=>?_⟩
    · rw [sb.2 b (fun q:b = sa=>nsa (by rw [← q]; exact z))]; exact g
    · refine fin s3 (Moved.trans W.gtrans ((mv.mono more).then_heap (Nat.le_succ _) fun b o z g=>?_) mv3) so5
      rw [sb.2 b (fun q:b = sa=>z (by rw [q]; exact List.mem_cons_self))]; exact g
abbrev pE (led:Bool):Obj:={ cls:=.type "set",dict:=none,data:=.set #[] 0 (.fresh 0 0 led) }
theorem uq {P:Program} {w:World} {A:Around} {E:Value→Shared→Prop} {s:Shared} {l:Addr} {items:Array Value} {f:Nat→Str} {Q:Value→Shared→Prop} (hh:A.handled = none) (hl:s.heap.IsList l items)
    (hi:∀ (i:Nat) (v:Value),items[i]? = some v→∃ t,v = .str (f i) t) (few:items.size + 1 < scanBound)
    (fin:∀ (h':Heap) (tk:Nat),h'.SetOf (strKind P w) s.heap.objs.size (fun y=>(met f items.size).any (· == y)) (met f items.size).length→(∀ b o,b < s.heap.objs.size→s.heap.get? b = some o→h'.get? b = some o)→Q (.ref s.heap.objs.size) { s with heap:=h',toks:=tk }) :
    wpAny (model P w) A (call (.type "set") [.ref l]) Q E s:=by
  obtain ⟨c,tl,mro⟩:=PySem.F.called_set.mro
  have made:=PySem.F.called_set.made
  have sub:=PySem.F.called_set.sub
  refine wpAny_call (codeAny_of_tree ?_)
  show wpAny _ _ (callAny (.type "set") _) _ _ _
  refine wpAny_pure ⟨Code.quiet_builtin _ (by decide +kernel),codeAny_builtin PySem.F.entry_type_call ?_⟩
  rw [Around.under_plain (weight_type_call_type "set" [.ref l] []) rfl]
  have k1:=PySem.F.called_set.notType
  have k2:=PySem.F.called_set.canCreate
  have k3:=PySem.F.typeCall_set_1 (.ref l)
  repeat (any_goals (first | assumption | wp_step))
  refine codeAny_mono (code_set_new_1 (.ref l) (E:=E) (Q₁:=fun obj s1=>∃ led:Bool,obj = .ref s.heap.objs.size∧s1 = { s with heap:=s.heap.push (pE led) }) fun led=>⟨led,rfl,rfl⟩) fun r s1 hr=>?_
  cases r with
  | error e=>exact hr
  | ok fl =>
    cases fl with
    | ret obj =>
      obtain ⟨led,rfl,rfl⟩:=hr
      have g0:(s.heap.push (pE led)).get? s.heap.objs.size = some (pE led):=Heap.get?_push_size _ rfl
      have ty:Shared.TypeIs { s with heap:=s.heap.push (pE led) } (.ref s.heap.objs.size) "set":=⟨_,g0,rfl⟩
      have k4:=PySem.F.called_set.init.lookup
      have k5:=PySem.F.called_set.init.bind (.ref s.heap.objs.size)
      repeat (any_goals (first | assumption | wp_step))
      refine codeAny_mono (codeAny_call_builtin (R:=wants (fun r s2=>r = .none∧∃ h' tk,s2 = { s with heap:=h',toks:=tk }∧h'.SetOf (strKind P w) s.heap.objs.size (fun y=>(met f items.size).any (· == y)) (met f items.size).length ∧
          (∀ b o,b < s.heap.objs.size→s.heap.get? b = some o→h'.get? b = some o)) E) PySem.F.called_set.init.plain PySem.F.entry_set_init (check_set_init_1 ty ?_)) fun r2 s2 hr2=>?_
      · obtain ⟨ol,g1,g2,nl,g3⟩:=hl
        obtain ⟨oc,od,ob,os⟩:=ol
        simp only at g2 g3
        subst g2; subst g3
        have g4:(s.heap.push (pE led)).get? l = some { cls:=.type "list",dict:=od,data:=.seq items nl,slots:=os }:=Heap.get?_push_of_some _ g1
        have m1:=PySem.F.sub_list_set
        have m2:=PySem.F.sub_list_frozenset
        have m3:(Value.type "list" == Value.type "dict") = false:=by decide
        have il:(s.heap.push (pE led)).IsList l items:=⟨_,g4,rfl,nl,rfl⟩
        unfold Builtin.«set.__init__» noKeywords Builtin.Frozenset.updateFrom
        generalize hPI:pyIter = PI
        wp_walk
        subst hPI
        refine wpAny_pyIter_list il (wpAny_bind (wpAny_runValue ?_))
        have ll:l < s.heap.objs.size:=Heap.lt_size g1
        have h3:A.in1.in1.in1.handled = none:=by simp [hh]
        have n1:l ≠ (s.heap.push (pE led)).objs.size:=by rw [Heap.size_push]; exact Nat.ne_of_lt (Nat.lt_succ_of_lt ll)
        have n2:s.heap.objs.size ∉ [(s.heap.push (pE led)).objs.size,l]:=by rw [Heap.size_push]; simp only [List.mem_cons,List.mem_singleton,List.not_mem_nil,or_false,not_or]; exact ⟨Nat.ne_of_lt (Nat.lt_succ_self _),Nat.ne_of_gt ll⟩
        refine yj ((Walks.list h3 _ l n1 items).toS) s.heap.objs.size n2 f hi few (items.size - 0) 0 _ (by omega) (Nat.zero_le _) ⟨⟨_,Heap.get?_push_size _ rfl,rfl,rfl⟩,(il.push _)⟩ ?so ?fi
        case so=>exact SetOf_congr ((setObjOf_fresh (knd:=strKind P w) led).setOf (Heap.get?_push_of_some _ g0) (by unfold scanBound; omega)) (fun _=>rfl) rfl
        case fi =>
          intro s' mv so
          obtain ⟨h',g',d',tk',os'⟩:=s'
          obtain rfl:g' = s.gens:=mv.gens
          obtain rfl:d' = s.drawn:=mv.drawn
          obtain rfl:os' = s.os:=mv.os
          show wpAny _ _ _ _ _ _
          refine wpAny_pure ?_
          show wpAny _ _ (ret Value.none) _ _ _
          refine wpAny_pure ⟨rfl,h',tk',rfl,so,fun b o z g=>?_⟩
          have z1:b ≠ s.heap.objs.size:=Nat.ne_of_lt z
          have z2:b ≠ (s.heap.push (pE led)).objs.size:=by rw [Heap.size_push]; exact Nat.ne_of_lt (Nat.lt_succ_of_lt z)
          exact mv.heap b o (by simp only [List.mem_cons,List.mem_singleton,List.not_mem_nil,or_false,not_or]; exact ⟨z1,z2⟩) (Heap.get?_push_of_some _ (Heap.get?_push_of_some _ g))
      · cases r2 with
        | error e=>exact hr2
        | ok fl2 =>
          cases fl2 with
          | ret r =>
            obtain ⟨rfl,h',tk,rfl,so,kp⟩:=hr2
            repeat (any_goals (first | assumption | wp_step))
            exact fin _ _ so kp
          | _=>exact hr2.elim
    | _=>exact hr.elim
def sE (a:Addr) (n:Nat) (h:Heap):Prop:=∃ o es ep t,h.get? a = some o∧o.ExactSet∧o.data = .set es ep t∧t.fits es.size = true∧es.size = n
section
variable {X:Cx}
theorem ud:∀ {zs:List Str} {us:List Value} (i:Nat) (v:Value),Vals (zs.map V.str) us→us[i]? = some v→∃ t,v = .str (zs.getD i "") t
  | [],us,i,v,h,e=>by cases h; simp at e
  | z :: zs,us,i,v,h,e=>by
    cases h with
    | cons r t =>
      obtain ⟨tk,rfl⟩:=r
      cases i with
      | zero =>
        have e':Value.str z tk = v:=by simpa using e
        exact ⟨tk,e'.symm⟩
      | succ i =>
        obtain ⟨t',e'⟩:=ud (zs:=zs) i v t (by simpa using e)
        exact ⟨t',by simpa using e'⟩
def ow (zs:List Str):Nat:=(met (fun i=>zs.getD i "") zs.length).length
theorem ur (hc:X.calm = true):gz X (.type "set") (fun xs H Q=>∃ (l:Addr) (zs:List Str),xs = [.ref l]∧SqL X.K H l (zs.map V.str)∧zs.length ≤ 100∧∀ p,H p = none→Q (.ref p) (upd H p (.ext (sE p (ow zs))))):=by
  intro pins s σ H xs us Q I r h
  obtain ⟨l,zs,rfl,hq,hz,q⟩:=h
  obtain ⟨u,rfl,ru⟩:=gv r
  cases ru
  obtain ⟨its,rv,p,_⟩:=I.list hq
  have lr:=rv.length
  rw [List.length_map] at lr
  refine uq (f:=fun i=>zs.getD i "") (I.ok.hd hc) p.isList (fun i v e=>ud i v rv (by simpa using e)) (by unfold scanBound; simp; omega) fun h' tk so kp=>?_
  have so':sE s.heap.objs.size (ow zs) h':=by
    obtain ⟨o,es,ep,t,a1,a2,a3,_,_,_,a4,a5⟩:=so
    refine ⟨o,es,ep,t,a1,a2,a3,a4,?_⟩
    rw [a5]
    unfold ow
    rw [lr]
    simp
  refine ⟨.ref s.heap.objs.size,_,I.laid (t':=tk) (fun b o e=>kp b o (Heap.lt_size e) e) (Nat.le_refl _) (show ObjOk X.prog X.w _ h' _ (.ext (sE s.heap.objs.size (ow zs))) from ⟨so',?_,fun h1 h2 z k=>?_⟩),rfl,q _ (I.hok.fresh (Nat.le_refl _))⟩
  · obtain ⟨o,_,_,_,a1,_⟩:=so'
    exact ⟨o,a1⟩
  · obtain ⟨o,es,ep,t,a1,rest⟩:=z
    exact ⟨o,es,ep,t,k _ a1,rest⟩
theorem pT:gz X (.builtin "len") (fun xs H Q=>∃ (p:Addr) (n:Nat),xs = [.ref p]∧H p = some (.ext (sE p n))∧n ≤ 1000∧Q (.int n) H):=by
  intro pins s σ H xs us Q I r h
  obtain ⟨p,n,rfl,hp,hn,q⟩:=h
  obtain ⟨u,rfl,ru⟩:=gv r
  cases ru
  obtain ⟨⟨o,es,ep,t,a1,a2,a3,a4,a5⟩,_⟩:=(show ObjOk X.prog X.w H s.heap p (.ext (sE p n)) from I.hok p _ hp)
  subst a5
  exact call_len_set a1 a2 a3 a4 (by omega) ⟨.int (es.size:Nat),H,I.tok _,⟨_,rfl⟩,q⟩
end
end L2
end
section
namespace L2
open PySem PySem.Spec PyProof.Rows
theorem Same.aLst {K:PySem.W.Frag} {H H':Hp} {a:Addr} {xs:List V} (e:Same H H') (h:aLst K H a xs):aLst K H' a xs:=h.elim (fun z=>.inl (e _ _ z)) .inr
def LD (K:PySem.W.Frag) (H:Hp) (ds:List D) (v:V):Prop:=∃ a vs,v = .ref a∧aLst K H a vs∧Dats K H ds vs
theorem Same.ld {K:PySem.W.Frag} {H H':Hp} {ds:List D} {v:V} (e:Same H H') (h:LD K H ds v):LD K H' ds v:=by
  obtain ⟨a,vs,e1,h1,h2⟩:=h
  exact ⟨a,vs,e1,e.aLst h1,e.dats h2⟩
theorem LD.lst {K:PySem.W.Frag} {H:Hp} {ds:List D} {v:V} (h:LD K H ds v):Dat K H .lst v:=by
  obtain ⟨a,vs,rfl,h1,_⟩:=h
  exact Dat.lstI h1.sqL
theorem LD.of {K:PySem.W.Frag} {H:Hp} {ds:List D} {a:Addr} {vs:List V} (h:H a = some (.lst vs)) (hd:Dats K H ds vs):LD K H ds (.ref a):=⟨a,vs,rfl,.inl h,hd⟩
inductive Ar where
  | d (x:D)
  | l (ds:List D)
def ArI (K:PySem.W.Frag) (H:Hp):Ar→V→Prop
  | .d x,v=>Dat K H x v
  | .l ds,v=>LD K H ds v
inductive Ars (K:PySem.W.Frag) (H:Hp):List Ar→List V→Prop
  | nil:Ars K H [] []
  | cons {a v as vs}:ArI K H a v→Ars K H as vs→Ars K H (a :: as) (v :: vs)
theorem Same.ari {K:PySem.W.Frag} {H H':Hp} {a:Ar} {v:V} (e:Same H H') (h:ArI K H a v):ArI K H' a v:=by
  cases a with
  | d x=>exact e.dat h
  | l ds=>exact e.ld h
theorem Ars.length {K:PySem.W.Frag} {H:Hp} {as:List Ar} {vs:List V} (h:Ars K H as vs):as.length = vs.length:=by
  induction h with
  | nil=>rfl
  | cons _ _ ih=>simp [ih]
theorem Ax {K:PySem.W.Frag} {H:Hp} {a:Ar} {vs:List V} (h:Ars K H [a] vs):∃ u,vs = [u]∧ArI K H a u:=by
  cases h with
  | cons h1 h2=>cases h2; exact ⟨_,rfl,h1⟩
theorem Ay {K:PySem.W.Frag} {H:Hp} {a b:Ar} {vs:List V} (h:Ars K H [a,b] vs):∃ u v,vs = [u,v]∧ArI K H a u∧ArI K H b v:=by
  cases h with
  | cons h1 h2=>obtain ⟨v,rfl,q⟩:=Ax h2; exact ⟨_,v,rfl,h1,q⟩
theorem n6 {K:PySem.W.Frag} {H:Hp} {a b c:Ar} {vs:List V} (h:Ars K H [a,b,c] vs):∃ u v w,vs = [u,v,w]∧ArI K H a u∧ArI K H b v∧ArI K H c w:=by
  cases h with
  | cons h1 h2=>obtain ⟨v,w,rfl,q,q'⟩:=Ay h2; exact ⟨_,v,w,rfl,h1,q,q'⟩
theorem Az {K:PySem.W.Frag} {H:Hp} {a b c d:Ar} {vs:List V} (h:Ars K H [a,b,c,d] vs):∃ u v w x,vs = [u,v,w,x]∧ArI K H a u∧ArI K H b v∧ArI K H c w∧ArI K H d x:=by
  cases h with
  | cons h1 h2=>obtain ⟨v,w,x,rfl,q,q',q''⟩:=n6 h2; exact ⟨_,v,w,x,rfl,h1,q,q',q''⟩
def spA (K:PySem.W.Frag) (R:List Ar→D→Prop):Sp:=fun vs H Q _=>∃ as d,Ars K H as vs∧R as d∧∀ v H',Same H H'→Dat K H' d v→Q v H'
def jk (K:PySem.W.Frag) (R:List Ar→List D→Prop):Sp:=fun vs H Q _=>∃ as es,Ars K H as vs∧R as es∧∀ r us H',Same H H'→H' r = some (.lst us)→H r = none→Dats K H' es us→Q (.ref r) H'
def RL (K:PySem.W.Frag) (t:TE) (σ:St) (H:Hp) (ds:List D):Prop:=∀ H1,Same H H1→∀ Q:VK,(∀ v H',Same H1 H'→LD K H' ds v→Q v H')→t σ H1 Q
def RB (K:PySem.W.Frag) (t:TA) (σ:St) (H:Hp) (as:List Ar):Prop:=∀ H1,Same H H1→∀ Q:List V→Hp→Prop,(∀ vs H',Same H1 H'→Ars K H' as vs→Q vs H')→t σ H1 Q
section
variable {K:PySem.W.Frag} {σ:St} {H H':Hp} {d d':D} {ds es:List D} {t u ta tb te tl:TE} {tt uu:TT} {tA:TA} {i j:Int} {b c:Bool} {mk:St→St} {jj:Nat} {ar:List Ar}
theorem RL.mono (h:RL K t σ H es) (e:Same H H'):RL K t σ H' es:=fun H1 s Q q=>h H1 (e.trans s) Q q
theorem RL.use {Q:VK} (h:RL K t σ H es) (q:∀ v H',Same H H'→LD K H' es v→Q v H'):t σ H Q:=h H (Same.refl H) Q q
theorem RB.use {Q:List V→Hp→Prop} (h:RB K tA σ H ar) (q:∀ vs H',Same H H'→Ars K H' ar vs→Q vs H'):tA σ H Q:=h H (Same.refl H) Q q
theorem b0:RB K dt σ H []:=fun H1 _ Q q=>q _ _ (Same.refl _) .nil
theorem dn (h:RE K t σ H d) (r:RB K tA σ H ar):RB K (bD t tA) σ H (.d d :: ar):=fun H1 s Q q =>
  h H1 s _ fun v H2 s2 q2=>r H2 (s.trans s2) _ fun vs H3 s3 q3=>q _ _ (s2.trans s3) (.cons (s3.ari (a:=.d d) q2) q3)
theorem dP (h:RL K t σ H ds) (r:RB K tA σ H ar):RB K (bD t tA) σ H (.l ds :: ar):=fun H1 s Q q =>
  h H1 s _ fun v H2 s2 q2=>r H2 (s.trans s2) _ fun vs H3 s3 q3=>q _ _ (s2.trans s3) (.cons (s3.ari (a:=.l ds) q2) q3)
theorem bh {k:Nat} {v:V} (h:LD K H ds v) (e:σ[k]? = some (some v):=by rfl):RL K (dJ k) σ H ds:=fun H1 s Q q=>⟨v,e,q _ _ (Same.refl _) (s.ld h)⟩
theorem gd (h:RC K t σ H es):RL K t σ H es:=fun H1 s Q q=>h H1 s _ fun l ys H' _ s' hy hd=>q _ _ s' (LD.of hy hd)
theorem Bi {a:Addr} (h:lY K ds a = true):RL K (tC (.ref a)) σ H ds:=fun H1 _ Q q=>by
  obtain ⟨vs,h1,h2⟩:=oI h H1
  exact q _ _ (Same.refl _) ⟨a,vs,rfl,.inr h1,h2⟩
theorem dD {R:List Ar→D→Prop} {E:XK} (h:RB K tA σ H ar) (e:R ar d):RE K (fB (spA K R) [] E tA) σ H d:=fun H1 s Q q =>
  h H1 s _ fun vs H2 s2 q2=>⟨ar,d,by rw [List.append_nil]; exact q2,e,fun v H3 s3 q3=>q _ _ (s2.trans s3) q3⟩
theorem eF {R:List Ar→List D→Prop} {E:XK} (h:RB K tA σ H ar) (e:R ar es):RC K (fB (jk K R) [] E tA) σ H es:=fun H1 s Q q =>
  h H1 s _ fun vs H2 s2 q2=>⟨ar,es,by rw [List.append_nil]; exact q2,e,fun r us H3 s3 hr hr0 hd=>q r us H3 (s2.free hr0) (s2.trans s3) hr hd⟩
theorem kq {k:Nat} (h1:RL K ta σ H ds) (h2:RE K tb σ H (.int k)) (e:ds[k]? = some d):RE K (tOp (zm K) ta tb) σ H d:=fun H1 s Q q =>
  h1 H1 s _ fun v H2 s2 q2=>h2 H2 (s.trans s2) _ fun w H3 s3 q3=>by
    obtain ⟨a,vs,ev,hq,hd⟩:=s3.ld q2
    obtain ⟨x,ex,hx⟩:=hd.get e
    exact ⟨a,vs,k,x,ev,q3.intE,hq.sqL,fD ex,q _ _ (s2.trans s3) hx⟩
theorem gb (h:RL K t σ H es):RE K (tCB (fun xs H Q=>∃ p ys,xs = [.ref p]∧(SqL K H p ys∨SqT K H p ys)∧Q (.int ys.length) H) (bD t dt)) σ H (.int es.length):=fun H1 s Q q =>
  gH ((h.mono s).use fun v H' s' hd=>by
    obtain ⟨l,ys,rfl,hy,hd⟩:=hd
    exact ⟨l,ys,rfl,.inl hy.sqL,by rw [← hd.length]; exact q _ _ s' (Dat.intI _)⟩)
def isN:D→Bool
  | .non=>true
  | _=>false
theorem tL {v:V} (h:Dat K H d v):decide (v = .non) = isN d:=by
  cases d with
  | non=>rw [h.nonE]; rfl
  | bl b=>rw [h.blE]; rfl
  | int i=>rw [h.intE]; rfl
  | str x=>rw [h.strE]; rfl
  | tup ds=>obtain ⟨a,vs,e,_⟩:=h.tupE; rw [e]; rfl
  | lst=>obtain ⟨a,vs,e,_⟩:=h.lstE; rw [e]; rfl
theorem xT (h:RE K ta σ H d):RE K (tOp (fun x y H Q=>y = .non∧Q (.bl (decide (x = .non))) H) ta (tC .non)) σ H (.bl (isN d)):=fun H1 s Q q =>
  h H1 s _ fun v H2 s2 q2=>⟨rfl,by rw [tL q2]; exact q _ _ s2 (Dat.blI _)⟩
theorem lg (h:RE K ta σ H d):RE K (tOp (fun x y H Q=>y = .non∧Q (.bl (!decide (x = .non))) H) ta (tC .non)) σ H (.bl (!isN d)):=fun H1 s Q q =>
  h H1 s _ fun v H2 s2 q2=>⟨rfl,by rw [tL q2]; exact q _ _ s2 (Dat.blI _)⟩
theorem qX {cs:List D} (h:RL K tl σ H cs) (hc:cs.length ≤ 1000) (es:List D) (hl:es.length = cs.length) (h0:(mk σ).set jj none = mk σ)
    (turn:∀ H1 (i:Nat) c v d,Same H H1→cs[i]? = some c→es[i]? = some d→Dat K H1 c v→RE K te ((mk σ).set jj (some v)) H1 d):RC K (fC (qy K tl) mk (bX jj) dN te) σ H es:=fun H1 s Q q=>by
  refine (h.mono s).use fun v4 H4 s4 q4=>?_
  obtain ⟨l4,ys4,rfl,hy4,hd4⟩:=q4
  have ll:=hd4.length
  refine ⟨l4,rfl,⟨ys4,hy4.sqL⟩,?_⟩
  refine gC (K:=K) (Q:=Q) (n:=ys4.length) (item:=fun i=>ys4.getD i .non) (fun i H' s hi=>lR i H' (s.seq hy4.sqL) hi) (fun H' s=>⟨ys4,s.seq hy4.sqL,Nat.le_refl _⟩) h0 es (by omega) (by omega) (fun i d hi=>?_) (fun l ys H5 hl5 s5=>q l ys H5 (s4.free hl5) (s4.trans s5))
  have hi':i < es.length:=(List.getElem?_eq_some_iff.mp hi).1
  have hic:i < cs.length:=by omega
  obtain ⟨vz,ez,hz⟩:=hd4.get (List.getElem?_eq_getElem hic)
  have q:=turn H4 i cs[i] vz d (s.trans s4) (List.getElem?_eq_getElem hic) hi hz
  rw [List.getD_eq_getElem?_getD,ez]
  exact q
theorem dB (h1:RL K ta σ H ds) (h2:RL K tb σ H es) (hl:ds.length + es.length ≤ 1000):RC K (tOp (zY K) ta tb) σ H (ds ++ es):=fun H1 s Q q =>
  h1 H1 s _ fun v H2 s2 q2=>h2 H2 (s.trans s2) _ fun w H3 s3 q3=>by
    obtain ⟨a,xs,rfl,ha,da⟩:=s3.ld q2
    obtain ⟨b,ys,rfl,hb,db⟩:=q3
    have l1:=da.length
    have l2:=db.length
    exact ⟨a,b,xs,ys,rfl,rfl,ha,hb,by omega,fun p hp=>q p _ _ ((s2.trans s3).free hp) (s2.trans (s3.trans (aD hp _))) au ((aD hp _).dats (Dats.append da db))⟩
theorem AF {vs:List V} {n:Nat}:iX vs none (some (n:Int)) = vs.take n:=by
  unfold iX
  rw [HT.sIx_nat,HT.sIx_none]
  simp only [List.drop_zero,Nat.sub_zero]
  apply List.ext_getElem?
  intro i
  simp only [List.getElem?_take]
  by_cases h1:i < n
  · rw [if_pos h1]
    by_cases h2:i < min n vs.length
    · rw [if_pos h2]
    · rw [if_neg h2,List.getElem?_eq_none (by omega)]
  · rw [if_neg h1,if_neg (by omega)]
theorem Dats.rev:∀ {ds:List D} {vs:List V},Dats K H ds vs→Dats K H ds.reverse vs.reverse
  | [],vs,h=>by rw [h.nilE]; exact Dats.nil
  | d :: ds,vs,h=>by
    obtain ⟨v,r,rfl,h1,h2⟩:=h.consE
    rw [List.reverse_cons,List.reverse_cons]
    exact Dats.append (Dats.rev h2) (Dats.cons h1 Dats.nil)
end
section
variable {K:PySem.W.Frag} {σ:St} {H H':Hp} {d d':D} {ds es:List D} {t u ta tb te tl:TE}
theorem uV {zs:List Str} (h:RC K t σ H (zs.map D.str)) (hz:zs.length ≤ 100):RE K (tCB (fun xs H Q=>∃ (p:Addr) (n:Nat),xs = [.ref p]∧H p = some (.ext (sE p n))∧n ≤ 1000∧Q (.int n) H)
    (bD (tCB (fun xs H Q=>∃ (l:Addr) (zs:List Str),xs = [.ref l]∧SqL K H l (zs.map V.str)∧zs.length ≤ 100∧∀ p,H p = none→Q (.ref p) (upd H p (.ext (sE p (ow zs))))) (bD t dt)) dt)) σ H (.int (ow zs)):=fun H1 s Q q =>
  gH (gH ((h.mono s).use fun l ys H2 _ s2 hy hd=>by
    refine ⟨l,zs,rfl,by rw [← p6 hd]; exact SqL.of hy,hz,fun p hp=>⟨p,ow zs,rfl,au,?_,q _ _ (s2.trans (aD hp _)) (Dat.intI _)⟩⟩
    have:=oJ (fun i=>zs.getD i "") zs.length
    unfold ow
    omega))
theorem tq (zs:List Str):∀ i,i ≤ zs.length→((∀ y,(met (fun i=>zs.getD i "") i).any (· == y) = decide (y ∈ zs.take i))∧((met (fun i=>zs.getD i "") i).length = i↔(zs.take i).Nodup))
  | 0,_=>⟨fun y=>by simp [met],by simp [met]⟩
  | i + 1,h=>by
    obtain ⟨i1,i2⟩:=tq zs i (by omega)
    have hle:=oJ (fun i=>zs.getD i "") i
    have hi:i < zs.length:=h
    have et:zs.take (i + 1) = zs.take i ++ [zs[i]]:=by rw [List.take_add_one,List.getElem?_eq_getElem hi]; rfl
    have eg:zs.getD i "" = zs[i]:=by rw [List.getD_eq_getElem?_getD,List.getElem?_eq_getElem hi]; rfl
    refine ⟨fun y=>?_,?_⟩
    · rw [iE,tm,i1,et]
      simp only [eg,List.mem_append,List.mem_singleton]
      by_cases h1:y ∈ zs.take i <;> by_cases h2:y = zs[i] <;> simp [h1,h2]
    · rw [iE,oy,i1,et]
      simp only [eg]
      rw [List.nodup_append]
      by_cases hm:zs[i] ∈ zs.take i
      · rw [if_pos (decide_eq_true hm)]
        constructor
        · intro z; omega
        · rintro ⟨_,_,z⟩
          exact absurd rfl (z _ hm _ (List.mem_singleton.mpr rfl))
      · rw [if_neg (by simpa using hm)]
        constructor
        · intro z
          refine ⟨i2.mp (by omega),by simp,?_⟩
          rintro a ha b hb rfl
          rw [List.mem_singleton.mp hb] at ha
          exact hm ha
        · rintro ⟨z,_⟩
          have:=i2.mpr z
          omega
theorem yz (zs:List Str):ow zs = zs.length↔zs.Nodup:=by
  have h:=(tq zs zs.length (Nat.le_refl _)).2
  rw [List.take_length] at h
  exact h
end
section
variable {X:Cx}
end
section
variable {K:PySem.W.Frag} {σ:St} {H:Hp} {te:TE}
end
theorem iy {J:It} {n:Nat} {item:Nat→V} {j:Nat} {tt:TT} {te:TE} {σ0:St} {H1:Hp} {Q:VK} (Ok:Hp→Prop)
    (go:∀ i H',Ok H'→i < n→J.go i H'∧∀ x H'',J.yld i H' x H''→H'' = H'∧x = item i) (stop:∀ H',Ok H'→J.stop n H') (h0:σ0.set j none = σ0)
    (D:Addr) (Pn:Nat→Hp→Prop) (p0:Pn 0 (upd H1 D (.lst []))) (ok:∀ i H',i ≤ n→Pn i H'→Ok H')
    (turn:∀ i H',i < n→Pn i H'→tt (σ0.set j (some (item i))) H' fun b H3=>if b = true then te (σ0.set j (some (item i))) H3 fun v H4=>∃ ys,H4 D = some (.lst ys)∧ys.length < sizeLine∧(∃ z,σ0.set j (some (item i)) = σ0.set j z)∧Pn (i + 1) (upd H4 D (.lst (ys ++ [v]))) else (∃ z,σ0.set j (some (item i)) = σ0.set j z)∧Pn (i + 1) H3)
    (fin:∀ H',Pn n H'→Q (.ref D) H') :
    ∃ W:Nat→Nat→St→Hp→Prop,(∃ m,W 0 m σ0 (upd H1 D (.lst [])))∧∀ i m σ' H',W i m σ' H' →
      (J.stop i H'∧Q (.ref D) H') ∨
      (J.go i H'∧∃ Nx:St→Hp→Prop,(∀ σ'' H'',Nx σ'' H''→∃ m',m' < m∧W (i + 1) m' σ'' H'')∧∀ x H'',J.yld i H' x H''→bX j x σ' H'' fun σ2 H2=>tt σ2 H2 fun b H3 =>
        if b = true then te σ2 H3 fun v H4=>∃ ys,H4 D = some (.lst ys)∧ys.length < sizeLine∧Nx σ2 (upd H4 D (.lst (ys ++ [v]))) else Nx σ2 H3):=by
  refine ⟨fun i m σ' H'=>m = n - i∧i ≤ n∧(∃ z,σ' = σ0.set j z)∧Pn i H',⟨n,by omega,Nat.zero_le _,⟨none,h0.symm⟩,p0⟩,?_⟩
  rintro i m σ' H' ⟨rfl,hi,⟨z,rfl⟩,p⟩
  have o:=ok i H' hi p
  by_cases hlt:i < n
  · obtain ⟨g,y⟩:=go i H' o hlt
    refine .inr ⟨g,fun σ'' H''=>(∃ z,σ'' = σ0.set j z)∧Pn (i + 1) H'',fun σ'' H'' q=>⟨n - (i + 1),by omega,rfl,hlt,q.1,q.2⟩,fun x H'' yx=>?_⟩
    obtain ⟨e1,e2⟩:=y x H'' yx
    subst e1 e2
    simp only [bX,jR]
    exact turn i _ hlt p
  · have e:i = n:=by omega
    subst e
    exact .inl ⟨stop H' o,fin H' p⟩
theorem tw:dE [] [] = true:=by rw [dE]
theorem tu (a:D) (r:List D):dE (a :: r) [] = false:=by unfold dE; rfl
theorem wg (a b:List D):eqD (.tup a) (.tup b) = dE a b:=by rw [eqD]
theorem qY {K:PySem.W.Frag} {tl te:TE} {tt:TT} {mk:St→St} {j:Nat} {σ:St} {H:Hp} {Q:VK} (M:Addr→List V→Hp→Prop) (h:∀ R:VK,(∀ r us H1,H1 r = some (.lst us)→M r us H1→R (.ref r) H1)→tl σ H R) (h0:(mk σ).set j none = mk σ)
    (body:∀ r us H1 l,H1 r = some (.lst us)→M r us H1→H1 l = none→∃ Pn:Nat→Hp→Prop,Pn 0 (upd H1 l (.lst []))∧(∀ i G,i ≤ us.length→Pn i G→SqL K G r us) ∧
      (∀ i G,i < us.length→Pn i G→tt ((mk σ).set j (some (us.getD i .non))) G fun b H3=>if b = true then te ((mk σ).set j (some (us.getD i .non))) H3 fun v H4=>∃ ys,H4 l = some (.lst ys)∧ys.length < sizeLine∧(∃ z,(mk σ).set j (some (us.getD i .non)) = (mk σ).set j z)∧Pn (i + 1) (upd H4 l (.lst (ys ++ [v]))) else (∃ z,(mk σ).set j (some (us.getD i .non)) = (mk σ).set j z)∧Pn (i + 1) H3) ∧
      ∀ G,Pn us.length G→Q (.ref l) G):fC (qy K tl) mk (bX j) tt te σ H Q:=by
  refine h _ fun r us H1 hr hM=>⟨r,rfl,⟨us,SqL.of hr⟩,fun l hl=>?_⟩
  obtain ⟨Pn,b1,b2,b3,b4⟩:=body r us H1 l hr hM hl
  exact iy (J:=Itl K r) (n:=us.length) (item:=fun i=>us.getD i .non) (fun G=>SqL K G r us) (fun i G o hi=>lR i G o hi) (fun G o=>⟨us,o,Nat.le_refl _⟩) h0 l Pn b1 b2 b3 b4
end L2
end
section
namespace L2
open PySem PySem.Spec PyProof.Rows
section
variable {P:Program} {w:World} {H H':Hp} {h h1 h2:Heap} {a b T:Addr} {o:HO} {fs:List Addr}
theorem ObjOk.has (x:ObjOk P w H h a o):∃ u,h.get? a = some u:=by
  cases o with
  | lst xs=>obtain ⟨_,_,_,_,e⟩:=x; exact ⟨_,e⟩
  | tup xs=>obtain ⟨_,_,_,ob,e,_⟩:=x; exact ⟨ob,e⟩
  | dK kvs=>obtain ⟨_,_,_,_,o,_,_,e,_⟩:=x; exact ⟨_,e⟩
  | dT kvs=>obtain ⟨_,_,_,_,o,_,_,e,_⟩:=x; exact ⟨_,e⟩
  | set S n=>obtain ⟨o,_,_,_,e,_⟩:=x; exact ⟨_,e⟩
  | ins C dx fs=>obtain ⟨_,_,_,e,_⟩:=x; exact ⟨_,e⟩
  | own y=>exact x
  | xd fs=>obtain ⟨_,⟨_,_,_,e,_⟩,_⟩:=x; exact ⟨_,e⟩
  | rng lo hi=>obtain ⟨_,_,_,e⟩:=x; exact ⟨_,e⟩
  | frz ob u=>obtain ⟨e,_⟩:=x; exact ⟨_,e⟩
  | tbl ps=>exact ⟨_,(show h.get? a = some _ from x)⟩
  | met f y=>exact ⟨_,(show h.get? a = some _ from x)⟩
  | ext φ=>obtain ⟨_,e,_⟩:=x; exact e
theorem HOk.empty (x:HOk P w H h) (e:h.get? a = none):H a = none:=by
  cases q:H a with
  | none=>rfl
  | some u =>
    obtain ⟨v,r⟩:=(x a u q).has
    rw [e] at r; cases r
def Trc (h:Heap) (e T:Addr) (cls a0:Value):Prop :=
  ∃ oe vs oT ts,h.get? e = some oe∧(oe.cls = cls∧vs[0]? = some a0)∧oe.data = .fields vs∧vs[1]? = some (.ref T)∧T ≠ e∧h.get? T = some oT∧oT.data = .fields ts∧ts[3]? = some .none
def CX1 (P:Program) (w:World):CXT:=fun outer H s E e s' =>
  ∃ a T cls a0 H',e = .ref a∧s'.os = s.os∧AllBare s'.gens∧Un (frs outer) [] H H' s.heap s'.heap∧HOk P w H' s'.heap ∧
    (s.heap.get? a = none∧s.heap.get? T = none∧H' a = none∧H' T = none)∧Trc s'.heap a T cls a0∧E cls none H'
theorem yi (U:Un fs [] H H' h h1) (ha:h.get? a = none) (hT:h.get? T = none) (k:∀ b o,h1.get? b = some o→b ≠ a→b ≠ T→b ∉ fs→h2.get? b = some o)
    (sl:∀ b o,h1.get? b = some o→b ∈ fs→∃ sl,h2.get? b = some { o with slots:=sl }):Un fs [] H H' h h2:=by
  have na:∀ b o,h.get? b = some o→b ≠ a:=fun b o q z=>by rw [z,ha] at q; cases q
  have nT:∀ b o,h.get? b = some o→b ≠ T:=fun b o q z=>by rw [z,hT] at q; cases q
  refine ⟨fun b o q n hb hx=>k b o (U.keep b o q n hb hx) (na b o q) (nT b o q) hb,fun b o q n hb hx=>?_,U.free,fun b o q hx=>?_,U.tups,U.frzs,U.tbls⟩
  · obtain ⟨s1,e1⟩:=U.slot b o q n hb hx
    obtain ⟨s2,e2⟩:=sl b _ e1 hb
    exact ⟨s2,e2⟩
  · obtain ⟨o1,e1⟩:=U.there b o q hx
    by_cases hb:b ∈ fs
    · obtain ⟨s2,e2⟩:=sl b _ e1 hb
      exact ⟨_,e2⟩
    · exact ⟨o1,k b o1 e1 (na b o q) (nT b o q) hb⟩
theorem wB (O:HOk P w H h1) (ha:H a = none) (hT:H T = none) (hf:∀ b ∈ fs,H b = none) (k:∀ b o,h1.get? b = some o→b ≠ a→b ≠ T→b ∉ fs→h2.get? b = some o):HOk P w H h2:=fun c u e =>
  (O c u e).stay (fun b v hb q=>by
    have hn:H b ≠ none:=by
      rcases hb with z | z
      · rw [z,e]; exact fun y=>nomatch y
      · rw [z]; exact fun y=>nomatch y
    exact k b v q (fun z=>hn (by rw [z]; exact ha)) (fun z=>hn (by rw [z]; exact hT)) fun z=>hn (hf b z)) (fun _ q=>q) fun _ _ q=>q
theorem AL {base:Heap} {l:List Env} {cls a0:Value} (F:h.FunFrames base l) (t:Trc h a T cls a0):Heap.FlyingW (PySem.W.hideAll h (a :: T :: frs l)) l a cls a0 h:=by
  obtain ⟨oe,vs,oT,ts,he,hc,hd,hv,hne,hT,hdT,h3⟩:=t
  exact ⟨fun b o q=>PySem.W.of_hideAll _ q,PySem.W.hideAll_none _ (.head _),PySem.W.funFrames_hide F fun env hm b hb=>.tail _ (.tail _ (List.mem_filterMap.mpr ⟨env,hm,hb⟩)),
    oe,vs,T,oT,ts,he,hc,hd,hv,PySem.W.hideAll_none _ (.tail _ (.head _)),hne,hT,hdT,h3⟩
theorem qm {base:Heap} {l l':List Env} {cls a0:Value} (F:h.FunFrames base l) (x:Heap.FlyingW (PySem.W.hideAll h (a :: T :: frs l)) l' a cls a0 h2) (U:h.UpToSlots h2) :
    ∃ T2,Trc h2 a T2 cls a0∧(T2 = T∨h.get? T2 = none)∧(∀ b o,h.get? b = some o→b ≠ a→b ≠ T→b ∉ frs l→h2.get? b = some o)∧(∀ b o,h.get? b = some o→b ∈ frs l→∃ sl,h2.get? b = some { o with slots:=sl }):=by
  obtain ⟨f1,f2,f3,oe,vs,T2,oT,ts,he,hc,hd,hv,hn,hne,hT,hdT,h3⟩:=x
  have sl:∀ b o,h.get? b = some o→b ∈ frs l→∃ sl,h2.get? b = some { o with slots:=sl }:=fun b o q hb=>by
    obtain ⟨_,o',ho',hnf⟩:=F.mem hb
    rw [q] at ho'; cases ho'
    exact U b o q hnf
  refine ⟨T2,⟨oe,vs,oT,ts,he,hc,hd,hv,hne,hT,hdT,h3⟩,?_,fun b o q n1 n2 n3=>f1 b o (PySem.W.hideAll_get _ q fun z=>?_),sl⟩
  · cases q:h.get? T2 with
    | none=>exact .inr rfl
    | some o =>
      refine .inl ?_
      by_cases m:T2 ∈ a :: T :: frs l
      · rcases List.mem_cons.mp m with z | m
        · exact absurd z hne
        · rcases List.mem_cons.mp m with z | m
          · exact z
          · obtain ⟨_,o',ho',hnf⟩:=F.mem m
            rw [q] at ho'; cases ho'
            obtain ⟨s2,e2⟩:=sl T2 o q m
            rw [hT] at e2; cases e2
            exact absurd hdT (hnf ts)
      · rw [PySem.W.hideAll_get _ q m] at hn; cases hn
  · rcases List.mem_cons.mp z with z | z
    · exact n1 z
    · rcases List.mem_cons.mp z with z | z
      · exact n2 z
      · exact n3 z
end
section
variable {X:Cx} {pins:List (Addr × Obj)} {σ:St} {H:Hp} {s s':Shared} {E:XK} {e:Value}
theorem CX1.behind (I:Inv X pins σ H s) (x:CX1 X.prog X.w X.stack H s E e s'):∃ a T cls a0 H',e = .ref a∧E cls none H'∧s.heap.get? a = none∧H' a = none∧Inv X pins σ H' s' ∧
    Heap.FlyingW (PySem.W.hideAll s'.heap (a :: T :: frs X.stack)) X.stack a cls a0 s'.heap ∧
    ∀ h2 l',Heap.FlyingW (PySem.W.hideAll s'.heap (a :: T :: frs X.stack)) l' a cls a0 h2→s'.heap.UpToSlots h2 →
      ∃ T2,Inv X pins σ H' { s' with heap:=h2 }∧Trc h2 a T2 cls a0∧s.heap.get? T2 = none∧H' T2 = none∧Un (frs X.stack) [] H H' s.heap h2:=by
  obtain ⟨a,T,cls,a0,H',he,os,bare,un,hok,⟨sa,sT,na,nT⟩,tr,q⟩:=x
  have J:Inv X pins σ H' s':=I.call' (ch:=[]) os un hok bare (fun b z=>absurd z (by simp))
  refine ⟨a,T,cls,a0,H',he,q,sa,na,J,AL J.stack tr,fun h2 l' fl up=>?_⟩
  obtain ⟨T2,t2,hT2,k2,sl2⟩:=qm J.stack fl up
  have nT2:H' T2 = none:=by
    rcases hT2 with z | z
    · rw [z]; exact nT
    · exact hok.empty z
  have sT2:s.heap.get? T2 = none:=by
    rcases hT2 with z | z
    · rw [z]; exact sT
    · cases q:s.heap.get? T2 with
      | none=>rfl
      | some o =>
        obtain ⟨o',r⟩:=un.there T2 o q (by simp)
        rw [z] at r; cases r
  exact ⟨T2,I.call' (s':={ s' with heap:=h2 }) (ch:=[]) os (yi un sa sT k2 sl2) (wB hok na nT J.stkFree k2) bare (fun b z=>absurd z (by simp)),t2,sT2,nT2,yi un sa sT k2 sl2⟩
end
def Fre (h:Heap) (e:Addr) (cls a0:Value):Prop:=∃ oe vs,h.get? e = some oe∧(oe.cls = cls∧vs[0]? = some a0)∧oe.data = .fields vs∧vs[1]? = some .none
def CXn (P:Program) (w:World):CXT:=fun outer H s E e s' =>
  ∃ a cls a0 H',e = .ref a∧s'.os = s.os∧AllBare s'.gens∧Un (frs outer) [] H H' s.heap s'.heap∧HOk P w H' s'.heap ∧
    (s.heap.get? a = none∧H' a = none)∧Fre s'.heap a cls a0∧E cls none H'
theorem Bv {P:Program} {w:World} {K:PySem.W.Frag} {mg:Str→Option Value} {base:Heap} {N:List Str} {qual:Str} {scope:Scope} {f:Addr} {cd:Value} {A:Around} {outer:List Env} {s:Shared} {H:Hp} {E:XK} :
    jV (CXn P w) (jx (CX1 P w) P w K mg base N qual scope f cd A outer s H E) E:=by
  intro pins σ H1 s1 e s' I x
  obtain ⟨a,cls,a0,H',rfl,os,bare,un,hok,⟨sa,na⟩,⟨oe,vs,he,⟨hc,h0⟩,hd,hv⟩,q⟩:=x
  have J:Inv (jx (CX1 P w) P w K mg base N qual scope f cd A outer s H E) pins σ H' s':=I.call' (ch:=[]) os un hok bare (fun b z=>absurd z (by simp))
  subst hc
  refine wpAny_leaving_firstW (base:=PySem.W.hideAll s'.heap (a :: a :: frs (envOfC qual scope s.heap.objs.size f cd :: outer))) (L:=s.heap.objs.size) (a0:=a0) I.ok.frames
    (PySem.W.funFrames_hide J.stack fun env hm b hb=>.tail _ (.tail _ (List.mem_filterMap.mpr ⟨env,hm,hb⟩))) rfl he (fun b o q=>PySem.W.of_hideAll _ q) (PySem.W.hideAll_none _ (.head _)) hd hv h0 fun h2 L2=>?_
  obtain ⟨k1,k2,k3,k4⟩:=L2
  obtain ⟨T2,t2,hT2,kk,sl2⟩:=qm (T:=a) J.stack (show Heap.FlyingW _ _ a oe.cls a0 h2 from ⟨k1,PySem.W.hideAll_none _ (.head _),k2,k3⟩) k4
  have neT:T2 ≠ a:=by obtain ⟨_,_,_,_,_,_,_,_,z,_⟩:=t2; exact z
  have nT:s'.heap.get? T2 = none:=hT2.resolve_left neT
  have sT:s1.heap.get? T2 = none:=by
    cases q:s1.heap.get? T2 with
    | none=>rfl
    | some o =>
      obtain ⟨o',r⟩:=un.there T2 o q (by simp)
      rw [nT] at r; cases r
  have up0:∀ b,s1.heap.get? b = none→s.heap.get? b = none:=fun b z=>by
    cases q:s.heap.get? b with
    | none=>rfl
    | some o =>
      obtain ⟨o',r⟩:=I.base.there b o q (by show b ∉ ([]:List Addr); simp)
      rw [z] at r; cases r
  have J2:Inv (jx (CX1 P w) P w K mg base N qual scope f cd A outer s H E) pins σ H' { s' with heap:=h2 } :=
    I.call' (s':={ s' with heap:=h2 }) (ch:=[]) os (yi un sa sa kk sl2) (wB hok na na J.stkFree kk) bare (fun b z=>absurd z (by simp))
  exact ⟨a,T2,oe.cls,a0,H',rfl,J2.os,J2.bare,J2.base,J2.hok,⟨up0 a sa,up0 T2 sT,na,hok.empty nT⟩,t2,q⟩
def qi (K:PySem.W.Frag) (C:Addr) (bmB:List Value) (newId:String) (ini:Option Value):Bool:=match K.lookup C with
  | some ⟨.type "type",_,.cls cd,slots⟩=>(match cd.mro,slots.toList with
    | .ref C' :: bm,[_,_,_,_,some (.builtin n),_]=>C' == C && n == newId && !cd.hasDel && PySem.W.tailIn K bmB bm && PySem.W.nsOkIn K cd.ns && PySem.W.nsIn K cd.ns "__init__" == some ini
    | _,_=>false)
  | _=>false
theorem rZ {K:PySem.W.Frag} {h:Heap} {N:Addr} {mg:Str→Option Value} {n:Str} {v:Value} (X:K.In h) (G:h.Ns N mg) (e:PySem.W.nsIn K N n = some (some v)):mg n = some v:=by
  obtain ⟨o,es,ep,ho,hd,_,hf⟩:=G
  unfold PySem.W.nsIn at e
  split at e
  · rename_i c d es' n' sl q
    have:=X _ _ q
    rw [ho] at this
    cases this
    cases hd
    split at e
    · rename_i en he
      rw [← hf]
      unfold nsFind findBy
      rw [← Array.find?_toList,he]
      cases e
      rfl
    · split at e <;> cases e
  · cases e
theorem AJ {K:PySem.W.Frag} {h:Heap} {C:Addr} {bmB:List Value} {newId:String} {ini:Option Value} (X:K.In h) (q:qi K C bmB newId ini = true) :
    ∃ bm N nm qn bs hd sn sub ab col dd k0 k1 k2 k3 k5 mN,h.get? C = some (excClassObj nm qn C N bs bm hd sn sub ab col dd k0 k1 k2 k3 k5 newId)∧h.Ns N mN∧mN "__init__" = ini∧OwnTail h bmB bm:=by
  unfold qi at q
  split at q
  · rename_i dd cd sl ho
    split at q
    · rename_i C' bm k0 k1 k2 k3 n k5 hm hs
      rw [Bool.and_eq_true,Bool.and_eq_true,Bool.and_eq_true,Bool.and_eq_true,Bool.and_eq_true] at q
      obtain ⟨⟨⟨⟨⟨e1,e2⟩,hdel⟩,ht⟩,hok⟩,hni⟩:=q
      obtain rfl:=beq_iff_eq.mp e1
      obtain rfl:=beq_iff_eq.mp e2
      have hni:=beq_iff_eq.mp hni
      obtain ⟨cnm,cbs,mro,ns,cqn,chd,csn,csub,cab,ccol,del⟩:=cd
      have hsl:sl.toList.toArray = [k0,k1,k2,k3,some (.builtin n),k5].toArray:=by rw [hs]
      rw [Array.toArray_toList] at hsl
      subst hsl
      have hm:mro = .ref C' :: bm:=hm
      have hde:del = false:=by
        have z:(!del) = true:=hdel
        cases del with
        | true=>cases z
        | false=>rfl
      clear hdel
      subst hm hde
      have hN:h.Ns ns (h.nsMap ns):=.of_isNs (PySem.W.isNs_of_in X hok)
      refine ⟨bm,ns,cnm,cqn,cbs,chd,csn,csub,cab,ccol,dd,k0,k1,k2,k3,k5,_,X _ _ ho,hN,?_,PySem.W.tail_of_in X ht⟩
      cases ini with
      | none=>exact PySem.W.ns_none_of X hN hni
      | some v=>exact rZ X hN hni
    · cases q
  · cases q
theorem xD {X:Cx} {C:Addr} {E:XK} {x:Str} {np cpos pos:Pos} {e₀:Expr} {rest:List Expr} {ta:TA} {B Bn newId nid initId inN:String} {bmB bmN:List Value}
    (Fn:ExcBaseFacts Bn newId inN bmN) (hBn:bmB.contains (.type Bn) = true) (F:ExcBaseFacts B nid initId bmB) (hc:qi X.K C bmB newId none = true)
    (ht:jV (CXn X.prog X.w) X E) (hg:Gl X x) (hm:X.mg x = some (.ref C)) (ha:PA X (e₀ :: rest) ta) (hcalm:X.calm = true:=by rfl)
    (he:starEach (e₀ :: rest) X.env = (false,eval e₀ X.env) :: starEach rest X.env:=by rfl)
    (hplain:(backTo cpos (starEach rest X.env)).any (·.1) = false:=by rfl) (hd:(x == ("__debug__":Str)) = false:=by decide) :
    PS X (.Raise (some (.Call (.Name x np) (e₀ :: rest) [] cpos)) none pos) (fun _ σ H=>ta σ H fun vs H1=>vs.length ≤ sizeLine∧E (.ref C) none H1):=by
  intro pins s σ H D I h
  obtain ⟨bm,N,nm,qn,bs,hdd,sn,sub,ab,col,dd,k0,k1,k2,k3,k5,mN,hC,hN,hni,T⟩:=AJ I.mod.kin hc
  refine wpAny_Raise_call_subU (C:=C) (nm:=nm) (q:=qn) (N:=N) (bs:=bs) (bm:=bm) (hdct:=hdd) (sn:=sn) (sub:=sub) (ab:=ab) (col:=col) (dd:=dd) (k0:=k0) (k1:=k1) (k2:=k2) (k3:=k3) (k5:=k5)
    Fn hBn F (mN:=mN) (T.hasType F.hasBase) (I.ok.hd hcalm) (by rw [he]; show (false || (backTo cpos (starEach rest X.env)).any (·.1)) = false; rw [hplain]; rfl) hni (hE I hg hm ⟨rfl,?_⟩ hd)
  have w:=ha cpos pins s σ H _ I h
  rw [he] at w ⊢
  refine Calls.evalArgs_plain (thn w fun us s2 ⟨vs,H1,I1,r,z,q⟩=>⟨rfl,by rw [← r.length]; exact z,I1.bk _ _ hC,hN.keeps I1.bk,T.keeps I1.bk,fun h' e hm=>?_⟩)
  obtain ⟨t,h1,h2,h3⟩:=hm.there
  exact ht pins σ H1 s2 _ _ I1 ⟨e,.ref C,.ref t,H1,rfl,rfl,I1.bare,Un.kept hm.keeps,I1.hok.kept hm.keeps,⟨hm.new,I1.hok.empty hm.new⟩,⟨_,_,h1,⟨rfl,rfl⟩,rfl,rfl⟩,q⟩
def nY (CX:CXT) (X:Cx) (E:St→XK):Prop:=∀ (pins:List (Addr × Obj)) (σ:St) (H:Hp) (s:Shared) (e:Value) (s':Shared),Inv X pins σ H s→CX X.stack H s (E σ) e s'→X.xe e s'
section
variable {X:Cx} {CX:CXT} {k:Nat} {f C:Addr} {fd:FuncData} {ps:List Str} {sp:Sp} {dvs:List V} {ds:List Value} {E:St→XK} {x m:Str} {p pos apos:Pos} {e o:Expr} {es:List Expr} {ta:TE} {t:TA}
theorem zF {pins:List (Addr × Obj)} {σ:St} {H:Hp} {s:Shared} {Q:VK} {us:List Value} {vs:List V} (F:FnOk X.prog X.w X.K X.mg X.base CX k f fd ps sp) (hr:Room k X.A) (hb:Binds X.K fd ps ds) (hd:Vals dvs ds) (hx:nY CX X E)
    (I:Inv X pins σ H s) (r:Vals vs us) (h:sp (vs ++ dvs) H Q (E σ)):wpAny (model X.prog X.w) X.A (call (.ref f) us) (EP X pins σ Q) X.xe s:=by
  have r2:Vals (vs ++ dvs) (us ++ ds):=r.append hd
  have hl:(us ++ ds).length = ps.length:=by rw [← r2.length]; exact F.len _ _ _ _ h
  refine wpAny_call (codeAny_mono (F.run X.A X.stack s H ⟨us,[]⟩ (us ++ ds) (vs ++ dvs) Q (E σ) hr I.env0 (hb s us I.kIn hl) r2 h) fun r s' hq=>?_)
  cases r with
  | error e=>exact hx pins σ H s e s' I hq
  | ok fl =>
    cases fl with
    | ret u=>exact I.after hq
    | next=>exact False.elim hq
    | brk=>exact False.elim hq
    | cont=>exact False.elim hq
theorem xq (F:FnOk X.prog X.w X.K X.mg X.base CX k f fd ps sp) (hr:Room k X.A) (hg:Gl X x) (hm:X.mg x = some (.ref f)) (hk:PySem.W.keepIn X.K (.ref f) = true) (hb:Binds X.K fd ps ds) (hd:Vals dvs ds) (hx:nY CX X E)
    (ha:PA X (e :: es) t) (hdb:(x == ("__debug__":Str)) = false:=by decide) (he:starEach (e :: es) X.env = (false,eval e X.env) :: starEach es X.env:=by rfl) (hpl:(backTo pos (starEach es X.env)).any (·.1) = false:=by rfl) :
    PE X (.Call (.Name x p) (e :: es) [] pos) (fun σ=>fB sp dvs (E σ) t σ):=by
  intro pins s σ H Q I h
  refine wpAny_Call_Name_kw (hE I hg hm ?_ hdb)
  refine PySem.W.callWith_K (h₀:=X.base) I.ok.mod.kin hk (thn (ha pos pins s σ H _ I h) fun us s1 ⟨vs,H1,I1,r,q⟩=>⟨I1.kIn,?_⟩) he hpl
  exact zF F hr hb hd hx I1 r q
end
def Cx.hand (X:Cx) (e:Value):Cx:={ X with A:=X.A.mark (some e),calm:=false,xe:=fun _ _=>False }
theorem Cx.Ok.hand {X:Cx} {e:Value} (o:X.Ok):(X.hand e).Ok :=
  ⟨o.mod,o.kind,o.glob,o.blt,o.above,o.inj,o.has,o.cab,(fun z=>nomatch z),o.frames,o.stk,o.exf,o.bs,o.bsz,o.noex,o.exfs,o.funs,o.frf⟩
section
variable {X:Cx} {pins pins':List (Addr × Obj)} {σ:St} {H:Hp} {s:Shared} {xe:Value→Shared→Prop} {e:Value}
theorem Inv.hand (I:Inv X pins σ H s):Inv (X.hand e) pins σ H s:=⟨I.ok.hand,I.os,I.bare,I.base,I.loc,I.cell,I.free,I.freeC,I.pin,I.hok,I.len⟩
theorem Inv.unhand (o:X.Ok) (I:Inv (X.hand e) pins σ H s):Inv X pins σ H s:=⟨o,I.os,I.bare,I.base,I.loc,I.cell,I.free,I.freeC,I.pin,I.hok,I.len⟩
theorem Inv.inTry (I:Inv X pins σ H s):Inv { X with pn:=X.pn ++ pins,xe:=xe } [] σ H s :=
  ⟨⟨I.ok.mod,I.ok.kind,I.ok.glob,I.ok.blt,I.ok.above,I.ok.inj,I.ok.has,I.ok.cab,I.ok.hd,I.ok.frames,I.ok.stk,I.ok.exf,I.ok.bs,I.ok.bsz,I.ok.noex,I.ok.exfs,I.ok.funs,I.ok.frf⟩,I.os,I.bare,I.base,I.loc,I.cell,I.free,I.freeC,
    fun p hp=>I.pin p (by simpa using hp),I.hok,I.len⟩
theorem Inv.outTry (o:X.Ok) (I:Inv { X with pn:=X.pn ++ pins,xe:=xe } pins' σ H s):Inv X pins σ H s :=
  ⟨o,I.os,I.bare,I.base,I.loc,I.cell,I.free,I.freeC,fun p hp=>I.pin p (List.mem_append_left _ hp),I.hok,I.len⟩
end
end L2
end
section
namespace L2
open PySem PySem.Spec PySem.Calls PyProof.Rows PySem.W PySem.Builtin PySem.Builtin.ObjectAttr PySem.Builtin.Getset_descriptor
section
variable {prog:Program} {w:World} {A:Around} {E:Value→Shared→Prop} {s:Shared} {K:Frag} {x D:Addr} {ox:Obj} {od:Option Obj} {name:Str}
theorem vN (o:Value):bindSpecial (.builtin "BaseException.__getattribute__") o = pure (.builtin "BaseException.__getattribute__",[o]):=PySem.F.attr_ValueError.ga.bind o
structure nW (K:Frag) (D:Addr):Prop where
  ga:findIn K (.ref D) "__getattribute__" = some (some (.builtin "BaseException.__getattribute__"))
  gt:findIn K (.ref D) "__getattr__" = some none
  dct:hasDictIn K D = true
  a:findIn K (.ref D) "__class__" = some (some (.builtin "object.__class__"))
  n:specialIn K (.builtin "object.__class__") "__get__" = some (some (.builtin "getset_descriptor.__get__"))
  tk:takesIn K (.builtin "object.__class__") = some true
  m:mroIn K D (.type "object") = some true
  b:mroIn K D (.type "BaseException") = some true
theorem yN {R:Result→Shared→Prop} {tp:Value} (X:K.In s.heap) (L0:Looks (model prog w) s.heap (typeOf (.ref x)) (.ref D)) (hm:mroIn K D (.type "object") = some true)
    (h:R (.ok (.ret (.ref D))) s):codeAny (model prog w) A (.call (.builtin "getset_descriptor.__get__") ⟨[.builtin "object.__class__",.ref x,tp],[]⟩) R s:=by
  obtain ⟨hh,g,dr,t,os⟩:=s
  have L1:=looks_mroIn (M:=model prog w) X hm
  refine codeAny_call_builtin KF.slot_gs.plain KF.entry_gs ?_
  refine KF.slot_gs.check _ _ _ _ _ _ _ _ KF.type_class (KF.args_gs _ _ _) ?_
  unfold «getset_descriptor.__get__»
  unfold descrGet
  rw [dga_obj]
  refine wpAny_bind (wpAny_pure ?_)
  unfold descrGetter descrCheckInstance
  unfold descrNameAndClass isInstance
  simp only [KF.owner_class]
  repeat lk
  refine ⟨Code.quiet_builtin _ (by decide +kernel),?_⟩
  refine codeAny_builtin KF.entry_class ?_
  unfold Builtin.«object.__class__» shownTypeOf
  repeat lk
  exact h
theorem wH {M:Model} {h:Heap} (X:K.In h) (kx:nW K D):Looks M h (Builtin.ObjectAttr.find (.ref x) (.ref D) "__class__") (.bind (.builtin "getset_descriptor.__get__") (.builtin "object.__class__")):=by
  have L1:=looks_findIn (M:=M) X kx.a
  have L2:Looks M h (Builtin.ObjectAttr.getOf (some (.builtin "object.__class__"))) (some (.builtin "getset_descriptor.__get__")):=looks_specialIn X kx.n
  have L3:=looks_takesIn (M:=M) X kx.tk
  unfold Builtin.ObjectAttr.find
  refine L1.andThen (L2.andThen ?_)
  unfold Builtin.ObjectAttr.dataDescriptor?
  refine Looks.andThen (a:=some (.builtin "getset_descriptor.__get__",.builtin "object.__class__")) (L3.andThen .now) ?_
  exact Looks.tag .now
theorem uB {Q:Option Value→Shared→Prop} (X:K.In s.heap) (L0:Looks (model prog w) s.heap (typeOf (.ref x)) (.ref D)) (kx:nW K D)
    (h:Q (some (.ref D)) { s with toks:=s.toks + 1 }):wpAny (model prog w) A (getAttr? (.ref x) "__class__") Q E s:=by
  obtain ⟨hh,g,d,t,os⟩:=s
  have L1:=looks_findIn (M:=model prog w) X kx.ga
  have L2:=looks_findIn (M:=model prog w) X kx.gt
  have L3:=wH (M:=model prog w) (x:=x) X kx
  have L4:Looks (model prog w) hh (isInstance (.ref x) (.type "BaseException")) true:=L0.andThen (looks_mroIn X kx.b)
  unfold getAttr? getAttrBy? getAttrBy
  refine wpAny_bind (wpAny_mkText (wpAny_bind (wpAny_attempt (wpAny_holding ?_))))
  refine wpAny_bind (L0.at ?_)
  refine wpAny_bind (L1.at ?_)
  show wpAny _ _ (getAttrByItsOwn _ _ _ _ _ _) _ _ _
  unfold getAttrByItsOwn hookBefore
  refine wpAny_bind ?_
  show wpAny _ _ (typeLookup (.ref D) "__getattr__") _ _ _
  refine L2.at (wpAny_bind (wpAny_attempt (wpAny_holding ?_)))
  show wpAny _ _ (boundAndCalled _ _ _) _ _ _
  unfold boundAndCalled
  rw [vN]
  refine wpAny_bind (wpAny_pure (wpAny_call ?_))
  refine codeAny_call_builtin PySem.F.attr_ValueError.ga.plain PySem.F.entry_bexc_ga (@check_slot (model prog w) _ _ _ "BaseException.__getattribute__" "BaseException" "__getattribute__" (.ref x) _ [] _ (by decide +kernel) (by decide +kernel) L4 (PySem.F.args_bexc_ga _ _) ?_)
  refine wpAny_bind (wpAny_pure (wpAny_bind (wpAny_pure (wpAny_bind (L0.at (wpAny_bind (L3.at ?_)))))))
  show wpAny _ _ (holding [Value.builtin "object.__class__"] (call (.builtin "getset_descriptor.__get__") [.builtin "object.__class__",.ref x,.ref D]) >>= ret) _ _ _
  refine wpAny_bind (wpAny_holding (wpAny_call (yN (s:=⟨hh,g,d,t + 1,os⟩) X L0 kx.m ?_)))
  refine wpAny_pure ?_
  refine handed_on rfl ?_
  exact wpAny_pure h
end
def nX (x:Addr) (D:Addr):HO:=.ext fun h=>∃ oe,h.get? x = some oe∧oe.cls = .ref D
theorem rN {M:Model} {h:Heap} {x D:Addr} (q:∃ oe,h.get? x = some oe∧oe.cls = .ref D):Looks M h (typeOf (.ref x)) (.ref D):=by
  obtain ⟨oe,he,hc⟩:=q
  rw [← hc]
  exact (Looks.ld he).andThen .now
theorem wJ {K:Frag} {x D:Addr} (kx:nW K D):KitX K (.ref x) (.ref D) (fun h=>∃ oe,h.get? x = some oe∧oe.cls = .ref D) where
  ty:=fun _ _ _ q=>rN q
  it:=fun _ _ X _=>by
    obtain ⟨cdD,hcD,_⟩:=any_some kx.dct
    unfold clsIn at hcD
    split at hcD
    · rename_i c' d' cd' sl' ho
      intro A' Q' E' s' k q
      unfold isType loadHead
      have ho':=k _ _ (X _ _ ho)
      exact wpAny_bind (wpAny_loadPart ho' (wpAny_pure q))
    · cases hcD
  ne:=fun h tp dd its n sl X htp=>by
    obtain ⟨cdD,hcD,_⟩:=any_some kx.dct
    refine Bool.eq_false_iff.mpr fun q=>?_
    cases beq_iff_eq.mp q
    unfold clsIn at hcD
    split at hcD
    · rename_i c' d' cd' sl' ho
      have z:=(X _ _ ho).symm.trans htp
      cases z
    · cases hcD
  ca:=fun X q k=>uB X (rN q) kx k
theorem rW {X:Cx} {pins:List (Addr × Obj)} {σ:St} {H:Hp} {s:Shared} {A:Around} {E:Value→Shared→Prop} {Q:Value→Shared→Prop} {c:Value} {b:Bool} {x D:Addr} (I:Inv X pins σ H s) (hx:H x = some (nX x D)) (kx:nW X.K D)
    (e:kitOne X.K (.ref D) c = some b) (h:∀ tk,Q (.bool b) { s with toks:=tk }):wpAny (model X.prog X.w) A (call (.builtin "isinstance") [.ref x,c]) Q E s:=by
  obtain ⟨q,_,_⟩:=(show ObjOk X.prog X.w H s.heap x (nX x D) from I.hok x _ hx)
  exact kia_one (wJ kx) I.kIn q e (fun z=>nomatch z) h
section
variable {X:Cx} {pins:List (Addr × Obj)} {σ:St} {H H':Hp} {s s2:Shared} {a:Addr} {o:HO}
theorem HOk.track {P:Program} {w:World} {h:Heap} (hok:HOk P w H h) (na:H a = none) (new:ObjOk P w (upd H a o) h a o):HOk P w (upd H a o) h:=fun b u e=>by
  by_cases hb:b = a
  · subst hb
    rw [au] at e; cases e
    exact new
  · rw [aJ hb] at e
    exact (hok b u e).stay (fun _ _ _ q=>q) (fun c q=>by rw [aJ (az q na)]; exact q) fun c xs q=>by rw [aJ (az q na)]; exact q
theorem Inv.track (I:Inv X pins σ H s) (J:Inv X pins σ H' s2) (un:Un (frs X.stack) [] H H' s.heap s2.heap) (sa:s.heap.get? a = none) (na:H' a = none) (new:ObjOk X.prog X.w (upd H' a o) s2.heap a o):Inv X pins σ (upd H' a o) s2:=by
  have nb:∀ b u,s.heap.get? b = some u→b ≠ a:=fun b u q z=>by rw [z,sa] at q; cases q
  refine I.call' (ch:=[]) (J.os.trans I.os.symm) ⟨un.keep,un.slot,fun b u q n hx=>by rw [aJ (nb b u q)]; exact un.free b u q n hx,un.there,fun b xs q=>?_,fun b u xs q=>?_,fun b ps q=>?_⟩ (J.hok.track na new) J.bare (fun b z=>absurd z (by simp))
  · have z:=un.tups b xs q
    rw [aJ (az z na)]; exact z
  · have z:=un.frzs b u xs q
    rw [aJ (az z na)]; exact z
  · obtain ⟨m,z⟩:=un.tbls b ps q
    exact ⟨m,by rw [aJ (az z na)]; exact z⟩
theorem Inv.gone {M:Model} {A:Around} {E:Value→Shared→Prop} {i:Nat} {n:Str} {pos:Pos} {Q:Unit→Shared→Prop} (I:Inv X pins σ H s) (hN:X.N.Nodup) (hi:X.N[i]? = some n) (hl:X.env.kindOf n = some .local)
    (h:∀ s',Inv X pins (σ.set i none) H s'→Q () s'):wpAny M A (do bindName X.env n .none; unbindBehindTheSuite X.env n pos) Q E s:=by
  obtain ⟨m,hn,hlo⟩:=id I.loc
  obtain ⟨oL,_,_,hoL,_⟩:=id hn
  have cne:=I.cne
  refine wpAny_nameGoes_keeps hl hn (by rw [I.ok.kind]; rfl) fun h' v hn' hs=>h _ ?_
  have hok:HOk X.prog X.w H h':=fun b ob e=>by
    refine (I.hok b ob e).stay (fun c w' hc q=>(hs.2 c ?_).trans q) (fun _ q=>q) fun _ _ q=>q
    rintro rfl
    rcases hc with z | z
    · rw [← z,I.free] at e; cases e
    · rw [I.free] at z; cases z
  refine ⟨I.ok,I.os,I.bare,⟨fun b o e n hb hx=>?_,fun b o e n hb hx=>?_,I.base.free,fun b o e hx=>?_,I.base.tups,I.base.frzs,I.base.tbls⟩,⟨_,hn',fun j y v' e1 e2 e3=>?_⟩,fun y c e=>?_,I.free,I.freeC,fun p hp=>?_,hok,by simpa using I.len⟩
  · exact (hs.2 b (Nat.ne_of_lt (Nat.lt_of_lt_of_le (Heap.lt_size e) I.ok.above))).trans (I.base.keep b o e n hb hx)
  · obtain ⟨sl,e1⟩:=I.base.slot b o e n hb hx
    exact ⟨sl,(hs.2 b (Nat.ne_of_lt (Nat.lt_of_lt_of_le (Heap.lt_size e) I.ok.above))).trans e1⟩
  · obtain ⟨o',e1⟩:=I.base.there b o e hx
    exact ⟨o',(hs.2 b (Nat.ne_of_lt (Nat.lt_of_lt_of_le (Heap.lt_size e) I.ok.above))).trans e1⟩
  · by_cases hj:j = i
    · subst hj
      rw [List.getElem?_set] at e2
      simp at e2
    · rw [List.getElem?_set_ne (Ne.symm hj)] at e2
      obtain ⟨u',r',q⟩:=hlo j y v' e1 e2 e3
      refine ⟨u',r',?_⟩
      rcases q with ⟨k,e⟩ | ⟨k,c,e,z⟩
      · refine .inl ⟨k,?_⟩
        have:y ≠ n:=fun e=>hj (mj hN e1 (e ▸ hi))
        simp [this,e]
      · exact .inr ⟨k,c,e,z.sameBut hs (cne y c e)⟩
  · obtain ⟨w',z⟩:=I.cell y c e
    exact ⟨w',z.sameBut hs (cne y c e)⟩
  · obtain ⟨e,n,ne,nf,d⟩:=I.pin p hp
    exact ⟨(hs.2 p.1 ne).trans e,n,ne,nf,d⟩
end
def Ends.gone (D:Ends) (i:Nat):Ends:={ nx:=fun σ H=>D.nx (σ.set i none) H,rt:=D.rt,bk:=fun σ H=>D.bk (σ.set i none) H,ct:=fun σ H=>D.ct (σ.set i none) H }
theorem xE {X:Cx} {body:List Stmt} {t:(St→XK)→TS} {th:TS} {x n:Str} {i:Nat} {C:Value} {np hpos pos:Pos} {b₀:Stmt} {suite:List Stmt}
    (hb:∀ (pn:List (Addr × Obj)) (xe:Value→Shared→Prop) (E:St→XK),nY (CX1 X.prog X.w) { X with pn:=pn,xe:=xe } E→PSs { X with pn:=pn,xe:=xe } body (t E))
    (hg:Gl X x) (hm:X.mg x = some C) (hN:X.N.Nodup) (hi:X.N[i]? = some n) (hl:X.env.kindOf n = some .local) (hh:∀ e:Value,PSs (X.hand e) (b₀ :: suite) th)
    (hst:X.stack = X.env :: X.outer:=by rfl) (hfr:X.env.frame = some X.env.locals:=by rfl) (hd:(x == ("__debug__":Str)) = false:=by decide) :
    PS X (.Try body [.ExceptHandler (some (.Name x np)) (some n) (b₀ :: suite) hpos] [] [] pos)
      (fun D σ H=>t (fun σ' cls _ H'=>PySem.W.exmOne X.K cls C = some true∧∃ Dx,cls = .ref Dx∧∀ a,H' a = none→th (D.gone i) (σ'.set i (some (.ref a))) (upd H' a (nX a Dx))) D σ H):=by
  intro pins s σ H D I h
  refine wpAny_Try_except (wpAny_mono (hb (X.pn ++ pins) (fun e s₁=>wpAny (model X.prog X.w) X.A (noteFrame e X.env) (fun _ s₂=>wpAny (model X.prog X.w) X.A (setFlight e none) (fun _ s₃ =>
    wpAny (model X.prog X.w) X.A (handleBy e X.env [.ExceptHandler (some (.Name x np)) (some n) (b₀ :: suite) hpos]) (SP X pins D) X.xe s₃) X.xe s₂) X.xe s₁) _ ?_ [] s σ H D I.inTry h) (fun f s1 hf=>?_) fun e s1 z=>z)
  · intro pins' σ' H1 s1 e s2 I1 x1
    obtain ⟨a,T,cls,a0,H',rfl,⟨hx,Dx,rfl,q⟩,sa,na,J,fl,back⟩:=CX1.behind I1 x1
    have ok:=I.ok
    have fr:X.A.frames = some (X.env :: X.outer):=by rw [← hst]; exact ok.frames
    refine wpAny_looks_onW fr hfr (by rw [← hst]; exact fl) fun h4 held up4=>wpAny_landsW held fun h5 fl5 up5=>?_
    obtain ⟨T5,J5,t5,sT5,nT5,_⟩:=back h5 _ fl5 (up4.trans up5)
    have I5:Inv X pins σ' H' { s2 with heap:=h5 }:=J5.outTry ok
    have LT:PySem.W.Looks (model X.prog X.w) h5 (typeOf (.ref a)) (.ref Dx):=by
      obtain ⟨oe,vs,oT,ts,he,⟨hc,_⟩,_⟩:=t5
      exact rN ⟨oe,he,hc⟩
    refine wpAny_handleBy_cons (codeAny_handlers_test (hE (X:=X.hand (.ref a)) I5.hand hg hm ?_ hd)) (by intro q; cases q)
    refine (PySem.W.exm_one I5.kIn LT hx).here ?_
    refine codeAny_handlers_suite_as (lands_againW fl5 fun h6 fl6 up6=>?_)
    obtain ⟨T6,J6,t6,_,_,un6⟩:=back h6 _ fl6 ((up4.trans up5).trans up6)
    have I6:Inv X pins σ' (upd H' a (nX a Dx)) { s2 with heap:=h6 }:=by
      refine Inv.track (s:=s1) (H:=H1) (I1.outTry ok) (J6.outTry ok) un6 sa na ?_
      obtain ⟨oe,vs,oT,ts,he,⟨hc,_⟩,_⟩:=t6
      exact ⟨⟨oe,he,hc⟩,⟨oe,he⟩,fun h1 h2 ⟨o1,e1,c1⟩ k=>⟨o1,k o1 e1,c1⟩⟩
    refine gN (X:=X.hand (.ref a)) (v:=.ref a) (I6.hand (e:=.ref a)) hN hi (.inl hl) rfl (fun s7 I7=>?_) (.inr hl)
    refine wpAny_mono (hh (.ref a) pins s7 _ _ (D.gone i) I7 (q a na)) (fun f s3 hs=>?_) (fun _ _ z=>z.elim)
    cases f with
    | next=>obtain ⟨σ3,H3,I3,q3⟩:=hs; exact Inv.gone (I3.unhand ok) hN hi hl fun s' J'=>⟨_,H3,J',q3⟩
    | brk=>obtain ⟨σ3,H3,I3,q3⟩:=hs; exact Inv.gone (I3.unhand ok) hN hi hl fun s' J'=>⟨_,H3,J',q3⟩
    | cont=>obtain ⟨σ3,H3,I3,q3⟩:=hs; exact Inv.gone (I3.unhand ok) hN hi hl fun s' J'=>⟨_,H3,J',q3⟩
    | ret u=>obtain ⟨v,σ3,H3,I3,r3,q3⟩:=hs; exact Inv.gone (I3.unhand ok) hN hi hl fun s' J'=>⟨v,_,H3,J',r3,q3⟩
  · cases f with
    | next=>obtain ⟨σ3,H3,I3,q3⟩:=hf; exact aS pins s1 σ3 H3 D (I3.outTry I.ok) q3
    | brk=>obtain ⟨σ3,H3,I3,q3⟩:=hf; exact ⟨σ3,H3,I3.outTry I.ok,q3⟩
    | cont=>obtain ⟨σ3,H3,I3,q3⟩:=hf; exact ⟨σ3,H3,I3.outTry I.ok,q3⟩
    | ret u=>obtain ⟨v,σ3,H3,I3,r3,q3⟩:=hf; exact ⟨v,σ3,H3,I3.outTry I.ok,r3,q3⟩
end L2
end
section
namespace L2
open PySem PySem.Spec PySem.Calls PyProof.Rows
section
variable {P:Program} {w:World} {K:PySem.W.Frag} {mg:Str→Option Value} {base:Heap}
theorem Fun.ok1 {x qual:Str} {st:Stmt} {f:Addr} {fd:FuncData} {N ps:List Str} {k:Nat} {sp:Sp} (F:Fun K x qual st f fd) (S:ba N ps (aB st)) (len:∀ vs H Q E,sp vs H Q E→vs.length = ps.length)
    (hbody:∀ (cdv:Value) (A:Around) (outer:List Env) (s:Shared) (H:Hp) (vs:List V) (Q:VK) (E:XK),Room k (A.deeper (envOfC qual (aB st) s.heap.objs.size f cdv))→sp vs H Q E →
      ∃ t,PSs (jx (CX1 P w) P w K mg base N qual (aB st) f cdv A outer s H E) (fV st) t∧t { nx:=fun _ H'=>Q .non H',rt:=Q } (cX N vs) H):FnOk P w K mg base (CX1 P w) (k + 1) f fd ps sp:=by
  obtain ⟨oc,od,kV,doc,pm,an,cdv,ct,osl,rfl,lk,hcd⟩:=F.ex
  exact zR lk hcd S len fun A outer s H vs Q E hr hsp=>hbody cdv A outer s H vs Q E hr hsp
structure RoomH (k:Nat) (A:Around):Prop where
  dp:A.depth + 3 * k + 5 < recursionLimit
  un:A.units + 16 * k + 200 < cLine
theorem Room.h {k:Nat} {A:Around} (r:Room k A):RoomH k A:=⟨r.dp,r.un⟩
theorem RoomH.mark {k:Nat} {A:Around} {e:Option Value} (r:RoomH k A):RoomH k (A.mark e):=⟨r.dp,r.un⟩
theorem RoomH.deeper {k:Nat} {A:Around} (r:RoomH (k + 1) A) (env:Env):RoomH k (A.deeper env) :=
  ⟨by have:=r.dp; show A.depth + 1 + 3 * k + 5 < _; omega,by have:=r.un; show A.units + 3 + 16 * k + 200 < _; omega⟩
structure sP (P:Program) (w:World) (K:PySem.W.Frag) (mg:Str→Option Value) (base:Heap) (k:Nat) (f:Addr) (fd:FuncData) (ps:List Str) (sp:Sp):Prop where
  len:∀ vs H Q E,sp vs H Q E→vs.length = ps.length
  run:∀ (A:Around) (outer:List Env) (s:Shared) (H:Hp) (args:Args) (us:List Value) (vs:List V) (Q:VK) (E:XK),RoomH k A→ug P w K mg base A outer s H→BindsTo s fd args (ps.zip us)→Vals vs us→sp vs H Q E →
    codeAny (model P w) A (.call (.ref f) args) (CR CX0 outer P w H s Q E) s
def Cx.uncalm (X:Cx):Cx:={ X with calm:=false,xe:=fun _ _=>False }
theorem Fun.okH {x qual:Str} {st:Stmt} {f:Addr} {fd:FuncData} {N ps:List Str} {k:Nat} {sp:Sp} (F:Fun K x qual st f fd) (S:ba N ps (aB st)) (len:∀ vs H Q E,sp vs H Q E→vs.length = ps.length)
    (hbody:∀ (cdv:Value) (A:Around) (outer:List Env) (s:Shared) (H:Hp) (vs:List V) (Q:VK) (E:XK),RoomH k (A.deeper (envOfC qual (aB st) s.heap.objs.size f cdv))→sp vs H Q E →
      ∃ t,PSs (jx CX0 P w K mg base N qual (aB st) f cdv A outer s H E).uncalm (fV st) t∧t { nx:=fun _ H'=>Q .non H',rt:=Q } (cX N vs) H):sP P w K mg base (k + 1) f fd ps sp:=by
  obtain ⟨oc,od,kV,doc,pm,an,cdv,ct,osl,rfl,lk,hcd⟩:=F.ex
  refine ⟨len,fun A outer s H args us vs Q E hr e0 hb r hsp=>?_⟩
  have hl:=len _ _ _ _ hsp
  have KX:K.In s.heap:=e0.mod.kin.keeps fun b o e=>(e0.bs b o e).1
  have lim:s.heap.NoLimit:=e0.mod.nolimit.keeps fun b o e=>(e0.bs b o e).1
  have hkind:∀ y ∈ ps.zip us,(aB st).names.lookup y.1 = some .local∨((aB st).names.lookup y.1 = some .cell∧((cellsFrom (s.heap.objs.size + 1) (aB st).names []).lookup y.1).isSome = true):=fun ⟨n,v⟩ hy=>by
    rcases S.par n (List.of_mem_zip hy).1 with q | q
    · exact .inl q
    · exact .inr ⟨q,PySem.W.cellsFrom_some _ _ _ (.inl q)⟩
  refine codeAny_call_function (by have:=hr.dp; omega) (KX _ _ lk) rfl S.co S.gen rfl (PySem.W.codeRec_of KX hcd) (hb _ _ _ _ ?_)
  refine wpAny_newFunctionEnv_cells S.kind hkind fun env he s1 x=>?_
  subst he
  refine ⟨lim.keeps x.toInCall.keep,codeAny_func ?_⟩
  obtain ⟨t,ht,hq⟩:=hbody cdv A outer s H vs Q E (hr.deeper _) hsp
  have e1:ug P w K mg base { A with handled:=none } outer s H:=⟨e0.frames,e0.mod,e0.bs,e0.bsz,e0.funs,e0.frf,e0.hok,e0.bare⟩
  have I0:Inv (jx CX0 P w K mg base N qual (aB st) f cdv { A with handled:=none } outer s H E) [] (cX N vs) H s1:=nD S rfl e1 hl r x
  have I:Inv (jx CX0 P w K mg base N qual (aB st) f cdv A outer s H E).uncalm [] (cX N vs) H s1 :=
    ⟨⟨I0.ok.mod,I0.ok.kind,I0.ok.glob,I0.ok.blt,I0.ok.above,I0.ok.inj,I0.ok.has,I0.ok.cab,(fun z=>nomatch z),Around.frames_deeper e0.frames,I0.ok.stk,I0.ok.exf,I0.ok.bs,I0.ok.bsz,I0.ok.noex,I0.ok.exfs,I0.ok.funs,I0.ok.frf⟩,
      I0.os,I0.bare,I0.base,I0.loc,I0.cell,I0.free,I0.freeC,I0.pin,I0.hok,I0.len⟩
  refine wpAny_mono (ht [] s1 (cX N vs) H _ I hq) (fun fl s' hs=>?_) fun e s' hs=>hs.elim
  have fin:∀ {σ':St} {H':Hp} {v:V} {u:Value},Inv (jx CX0 P w K mg base N qual (aB st) f cdv A outer s H E).uncalm [] σ' H' s'→RelV v u→Q v H'→CE outer P w H s Q u s' :=
    fun {σ' H' v u} J rv q=>⟨v,H',J.os,J.bare,J.base,J.hok,rv,q⟩
  cases fl with
  | ret u =>
    obtain ⟨v,σ',H',J,rv,q⟩:=hs
    exact fin J rv q
  | next =>
    obtain ⟨σ',H',J,q⟩:=hs
    exact fin (v:=V.non) (u:=Value.none) J rfl q
  | brk =>
    obtain ⟨_,_,_,q⟩:=hs
    exact False.elim q
  | cont =>
    obtain ⟨_,_,_,q⟩:=hs
    exact False.elim q
end
section
variable {X:Cx} {k:Nat} {f:Addr} {fd:FuncData} {ps:List Str} {sp:Sp} {dvs:List V} {ds:List Value} {E:XK} {x:Str} {p pos:Pos} {e:Expr} {es:List Expr} {t:TA}
theorem xp (F:sP X.prog X.w X.K X.mg X.base k f fd ps sp) (hr:RoomH k X.A) (hg:Gl X x) (hm:X.mg x = some (.ref f)) (hk:PySem.W.keepIn X.K (.ref f) = true) (hb:Binds X.K fd ps ds) (hd:Vals dvs ds)
    (ha:PA X (e :: es) t) (hdb:(x == ("__debug__":Str)) = false:=by decide) (he:starEach (e :: es) X.env = (false,eval e X.env) :: starEach es X.env:=by rfl) (hpl:(backTo pos (starEach es X.env)).any (·.1) = false:=by rfl) :
    PE X (.Call (.Name x p) (e :: es) [] pos) (fB sp dvs E t):=by
  intro pins s σ H Q I h
  refine wpAny_Call_Name_kw (hE I hg hm ?_ hdb)
  refine PySem.W.callWith_K (h₀:=X.base) I.ok.mod.kin hk (thn (ha pos pins s σ H _ I h) fun us s1 ⟨vs,H1,I1,r,q⟩=>⟨I1.kIn,?_⟩) he hpl
  have r2:Vals (vs ++ dvs) (us ++ ds):=r.append hd
  have hl:(us ++ ds).length = ps.length:=by rw [← r2.length]; exact F.len _ _ _ _ q
  refine wpAny_call (codeAny_mono (F.run X.A X.stack s1 H1 ⟨us,[]⟩ (us ++ ds) (vs ++ dvs) Q E hr I1.env0 (hb s1 us I1.kIn hl) r2 q) fun r s' hq=>?_)
  cases r with
  | error e=>exact False.elim hq
  | ok fl =>
    cases fl with
    | ret u=>exact I1.after hq
    | next=>exact False.elim hq
    | brk=>exact False.elim hq
    | cont=>exact False.elim hq
end
end L2
end
section
namespace L2
open PySem PySem.Spec PySem.Calls PyProof.Rows
def blV (bs:List Bool):List V:=bs.map V.bl
theorem pO:∀ {bs:List Bool} {us:List Value},Vals (blV bs) us→us = bs.map Value.bool
  | [],_,.nil=>rfl
  | b :: bs,_,.cons r t=>by
    have e:=pO (bs:=bs) t
    rw [e,show _ = Value.bool b from r]
    rfl
theorem mE {h:Heap}:∀ (bs:List Bool),∃ as,ReadsAll h (bs.map Value.bool) (bs.map PyData.bool) as
  | []=>⟨_,.nil⟩
  | b :: bs=>let ⟨_,r⟩:=mE bs; ⟨_,.cons (.bool b) r⟩
theorem rJ:∀ (bs:List Bool),(bs.map PyData.bool).all Shape.bool.has = true
  | []=>rfl
  | b :: bs=>by rw [List.map_cons,List.all_cons,rJ bs]; rfl
theorem pX:∀ (bs:List Bool),(bs.map Value.bool).countP (isBoolOf true) = bs.count true
  | []=>rfl
  | b :: bs=>by
    rw [List.map_cons,List.countP_cons,pX bs,List.count_cons]
    cases b <;> rfl
section
variable {X:Cx}
theorem uG:MtM X "list.count" (fun x vs H Q=>∃ l bs,x = .ref l∧vs = [.bl true]∧H l = some (.lst (blV bs))∧Q (.int (bs.count true:Nat)) H):=by
  intro pins s σ H x vs v us Q I rx rv h
  obtain ⟨l,bs,rfl,rfl,hH,q⟩:=h
  cases rx
  obtain ⟨u,rfl,ru⟩:=gv rv
  obtain rfl:u = Value.bool true:=ru
  obtain ⟨_,its,n,r,e⟩:=(show ObjOk X.prog X.w H s.heap l (.lst (blV bs)) from I.hok l _ hH)
  obtain rfl:=pO r
  obtain ⟨as,ra⟩:=mE (h:=s.heap) bs
  refine call_meets PySem.F.slot_list_count ⟨_,e,rfl⟩ PySem.F.entry_list_count (PySem.F.args_list_count_2 _ _) (SeqAt.list_countAt l (bs.map Value.bool).toArray n none #[] (.bool true) (isBoolOf true)) ⟨e,fun y hy=>eq_isBoolOf true ra (rJ bs) y (by simpa using hy) _ _,?_⟩
  rw [show ∀ (x:List Value),x.toArray.toList = x from fun _=>rfl,pX]
  exact ⟨.int _,H,I.tok _,⟨_,rfl⟩,q⟩
theorem uH:MtM X "list.index" (fun x vs H Q=>∃ l bs j,x = .ref l∧vs = [.bl true]∧H l = some (.lst (blV bs))∧bs.length ≤ 1000∧bs[j]? = some true∧(∀ m,m < j→bs[m]? = some false)∧Q (.int (j:Nat)) H):=by
  intro pins s σ H x vs v us Q I rx rv h
  obtain ⟨l,bs,j,rfl,rfl,hH,hlen,hj,hno,q⟩:=h
  cases rx
  obtain ⟨u,rfl,ru⟩:=gv rv
  obtain rfl:u = Value.bool true:=ru
  obtain ⟨_,its,n,r,e⟩:=(show ObjOk X.prog X.w H s.heap l (.lst (blV bs)) from I.hok l _ hH)
  obtain rfl:=pO r
  obtain ⟨as,ra⟩:=mE (h:=s.heap) bs
  obtain ⟨hj',hjt⟩:=List.getElem?_eq_some_iff.mp hj
  refine call_meets PySem.F.slot_list_index ⟨_,e,rfl⟩ PySem.F.entry_list_index (PySem.F.args_list_index_2 _ _) (SeqAt.list_indexAt l (bs.map Value.bool).toArray n none #[] (.bool true) (isBoolOf true) j (by simpa using hj') (by omega) ?_ ?_) ⟨e,fun y hy=>eq_isBoolOf true ra (rJ bs) y (by simpa using hy) _ _,?_⟩
  · simp [hjt,isBoolOf]
  · intro m hm hmj
    obtain ⟨hm',hmf⟩:=List.getElem?_eq_some_iff.mp (hno m hmj)
    simp [hmf,isBoolOf]
  · exact ⟨.int _,H,I.tok _,⟨_,rfl⟩,q⟩
end
def clV:V→Value
  | .ref a=>.ref a
  | .ty n=>.type n
  | _=>.none
theorem bO {X:Cx}:gz X (.builtin "isinstance") (fun xs H Q=>∃ x D c b,xs = [.ref x,c]∧((∃ a,c = .ref a)∨∃ n,c = .ty n)∧H x = some (nX x D)∧nW X.K D∧PySem.W.kitOne X.K (.ref D) (clV c) = some b∧Q (.bl b) H):=by
  intro pins s σ H xs us Q I r h
  obtain ⟨x,D,c,b,rfl,hc,hx,kx,e,q⟩:=h
  cases r with
  | cons r1 rt =>
    obtain ⟨u,rfl,ru⟩:=gv rt
    obtain rfl:=(show _ = Value.ref x from r1)
    have hu:u = clV c:=by
      rcases hc with ⟨a,rfl⟩ | ⟨n,rfl⟩
      · exact ru
      · exact ru
    subst hu
    exact rW I hx kx e fun tk=>⟨.bl b,H,I.tok _,rfl,q⟩
end L2
end
section
namespace L2
open PySem PySem.Spec PySem.Calls PyProof.Rows
section
variable {P:Program} {w:World} {K:PySem.W.Frag} {mg:Str→Option Value} {base:Heap}
end
section
variable {X:Cx} {CX:CXT} {k:Nat} {f C:Addr} {fd:FuncData} {ps ks:List Str} {sp:Sp} {E:St→XK} {x m:Str} {p pos apos kpos:Pos} {e o:Expr} {es:List Expr} {kws:List Keyword} {te ta:TE} {t tk:TA} {nm:Option Str}
  {g:List Value→List Value→List Value} {gV:List V→List V→List V}
end
section
variable {K:PySem.W.Frag} {σ:St} {H:Hp} {tA tK:TA} {ds es fs:List D} {d e:D} {dvs:List V} {R:List D→D→Prop} {B:List D→Addr→Prop} {E:XK} {Q:VK} {C:Addr} {gV:List V→List V→List V} {ta tb:TE}
theorem zB (h1:RE K ta σ H d) (h2:RE K tb σ H e) (n1:noL d = true) (n2:noL e = true) (dp:cU d ≤ 20):RE K (tOp (A6 K true) ta tb) σ H (.bl (!eqD d e)):=fun H1 s Q q =>
  h1 H1 s _ fun v H2 s2 q2=>h2 H2 (s.trans s2) _ fun w H3 s3 q3=>⟨d,e,s3.dat q2,q3,n1,n2,dp,q _ _ (s2.trans s3) (Dat.blI _)⟩
theorem cu {x D:Addr} {c:V} {b:Bool} {i:Nat} (hx:H x = some (nX x D)) (kx:nW K D) (kit:PySem.W.kitOne K (.ref D) (clV c) = some b) (hc:(∃ a,c = .ref a)∨∃ n,c = .ty n) (e:σ[i]? = some (some (.ref x)):=by rfl) :
    RE K (tCB (fun xs H Q=>∃ x D c b,xs = [.ref x,c]∧((∃ a,c = .ref a)∨∃ n,c = .ty n)∧H x = some (nX x D)∧nW K D∧PySem.W.kitOne K (.ref D) (clV c) = some b∧Q (.bl b) H) (bD (dJ i) (bD (tC c) dt))) σ H (.bl b):=fun H1 s Q q =>
  ⟨_,e,x,D,c,b,rfl,hc,s _ _ hx,kx,kit,q _ _ (Same.refl _) (Dat.blI _)⟩
theorem uS {i:Nat} {l:Addr} {bs:List Bool} (hl:H l = some (.lst (blV bs))) (e:σ[i]? = some (some (.ref l)):=by rfl) :
    RE K (tBM K "list" (fun x vs H Q=>∃ l bs,x = .ref l∧vs = [.bl true]∧H l = some (.lst (blV bs))∧Q (.int (bs.count true:Nat)) H) (dJ i) (bD (tC (.bl true)) dt)) σ H (.int (bs.count true:Nat)):=fun H1 s Q q =>
  ⟨_,e,.inl ⟨rfl,_,SqL.of (s _ _ hl)⟩,l,bs,rfl,rfl,s _ _ hl,q _ _ (Same.refl _) (Dat.intI _)⟩
theorem uT {i j:Nat} {l:Addr} {bs:List Bool} (hl:H l = some (.lst (blV bs))) (hn:bs.length ≤ 1000) (h1:bs[j]? = some true) (h2:∀ m,m < j→bs[m]? = some false) (e:σ[i]? = some (some (.ref l)):=by rfl) :
    RE K (tBM K "list" (fun x vs H Q=>∃ l bs j,x = .ref l∧vs = [.bl true]∧H l = some (.lst (blV bs))∧bs.length ≤ 1000∧bs[j]? = some true∧(∀ m,m < j→bs[m]? = some false)∧Q (.int (j:Nat)) H) (dJ i) (bD (tC (.bl true)) dt)) σ H (.int (j:Nat)):=fun H1 s Q q =>
  ⟨_,e,.inl ⟨rfl,_,SqL.of (s _ _ hl)⟩,l,bs,j,rfl,rfl,s _ _ hl,hn,h1,h2,q _ _ (Same.refl _) (Dat.intI _)⟩
end
section
variable {X:Cx}
end
end L2
end
section
namespace L2
open PySem PySem.Spec PySem.Calls PyProof.Rows PySem.W PySem.Builtin PySem.Builtin.ObjectAttr
section
variable {prog:Program} {w:World} {A:Around} {E:Value→Shared→Prop} {K:Frag} {C fI:Addr} {us:List Value}
end
section
variable {h:Heap} {x b:Addr} {o:Obj} {vs:Array Value}
end
section
variable {prog:Program} {w:World} {A:Around} {E:Value→Shared→Prop} {s:Shared} {K:Frag} {x C:Addr} {ox:Obj} {name:Str} {v:Value} {vs:Array Value}
end
section
variable {X:Cx} {pins:List (Addr × Obj)} {σ:St} {H:Hp} {s s':Shared} {C fI e:Addr} {fd:FuncData} {k:Nat} {ps:List Str} {a0:Value}
end
end L2
end
section
namespace L2
open PySem PySem.Spec PySem.Calls PyProof.Rows
abbrev cz (h:Heap) (it t:Addr) (i:Nat):Prop:=h.get? it = some { cls:=.type "tuple_iterator",dict:=none,data:=.fields #[.ref t,rawInt i],slots:=#[] }
section
variable {prog:Program} {w:World} {A:Around} {E:Value→Shared→Prop} {s:Shared} {it t:Addr} {i:Nat} {items:Array Value}
theorem jl {x:Value} {Q:Value→Shared→Prop} (a1:cz s.heap it t i) (a2:s.heap.IsTuple t items) (hx:items[i]? = some x)
    (q:∀ h',cz h' it t (i + 1)→Heap.SameBut it s.heap h'→Q x { s with heap:=h' }):wpAny (model prog w) A (Builtin.SmallTypes.nextOf (.ref it)) Q E s:=by
  have ty:s.TypeIs (.ref it) "tuple_iterator":=⟨_,a1,rfl⟩
  obtain ⟨⟨c2,d2,dt2,s2⟩,a2,hc,n,hd⟩:=a2
  obtain rfl:c2 = .type "tuple":=hc
  obtain rfl:dt2 = .seq items n:=hd
  unfold Builtin.SmallTypes.nextOf
  refine wpAny_bind (wpAny_callSpecial?_slot (name:=Str.ofString "__next__") ty PySem.F.slot_tuple_iterator_next (wpAny_call_entry PySem.F.slot_tuple_iterator_next ty PySem.F.entry_tuple_iterator_next ?_ (PySem.F.args_tuple_iterator_next_1 _)))
  obtain ⟨h0,g0,d0,t0,o0⟩:=s
  unfold cz rawInt at a1
  wp_walk
  rw [Int.toNat_natCast,hx]
  refine wpAny_bind (wpAny_setField_rec a1 (by simp) fun h' b1 b2=>wpAny_pure ⟨x,rfl,wpAny_pure (q h' ?_ b2)⟩)
  show h'.get? it = some _
  have e:((i + 1:Nat):Int) = (i:Int) + 1:=by omega
  rw [e]
  exact b1
theorem sH {Q:Value→Shared→Prop} (hh:A.handled = none) (a1:cz s.heap it t i) (a2:s.heap.IsTuple t items) (hx:items[i]? = none)
    (q:∀ h' e,Heap.ExtBut it s.heap h'→(∃ o,h'.get? e = some o∧o.cls = .type "StopIteration")→E (.ref e) { s with heap:=h' }):wpAny (model prog w) A (Builtin.SmallTypes.nextOf (.ref it)) Q E s:=by
  have ty:s.TypeIs (.ref it) "tuple_iterator":=⟨_,a1,rfl⟩
  obtain ⟨⟨c2,d2,dt2,s2⟩,a2,hc,n,hd⟩:=a2
  obtain rfl:c2 = .type "tuple":=hc
  obtain rfl:dt2 = .seq items n:=hd
  unfold Builtin.SmallTypes.nextOf
  refine wpAny_bind (wpAny_callSpecial?_slot (name:=Str.ofString "__next__") ty PySem.F.slot_tuple_iterator_next (wpAny_call_entry PySem.F.slot_tuple_iterator_next ty PySem.F.entry_tuple_iterator_next ?_ (PySem.F.args_tuple_iterator_next_1 _)))
  obtain ⟨h0,g0,d0,t0,o0⟩:=s
  unfold cz rawInt at a1
  wp_walk
  rw [Int.toNat_natCast,hx]
  refine wpAny_bind (wpAny_rule (wpAny_bind (wpAny_setField_rec a1 (by simp) fun h' b1 b2=>?_)))
  unfold Builtin.SmallTypes.stopIteration
  wp_walk
  exact wpAny_raiseNew_none hh (q _ _ ((b2.extBut.push _).push _) ⟨_,Heap.get?_push_size _ rfl,rfl⟩)
end
abbrev yc (t:Addr):Obj:={ cls:=.type "tuple_iterator",data:=.fields #[.ref t,.int 0 0] }
theorem Inv.turnedL {X:Cx} {pins:List (Addr × Obj)} {σ:St} {H:Hp} {s:Shared} {h':Heap} {t':Nat} {its:List Addr} (I:Inv X pins σ H s) (k:∀ b o,b ∉ its→s.heap.get? b = some o→h'.get? b = some o)
    (ok:∀ b ∈ its,H b = none∧b ≠ X.env.locals∧(b ∈ X.ex∨X.s₀.heap.objs.size ≤ b)∧(∀ x c,X.env.cells.lookup x = some c→c ≠ b)∧∀ p ∈ X.pn ++ pins,p.1 ≠ b):Inv X pins σ H { s with heap:=h',toks:=t' }:=by
  have out:∀ b u,H b = some u→b ∉ its:=fun b u e z=>by rw [(ok b z).1] at e; cases e
  refine I.step (g':=s.gens) (d':=s.drawn) (ch:=its) (fun b hb=>⟨(ok b hb).2.2.1,(ok b hb).2.1,(ok b hb).2.2.2⟩) (fun b o _ _ hc e _=>k b o hc e) (fun b o _ _ hc e _=>⟨o.slots,k b o hc e⟩) (fun _ _ _ _ n=>n)
    (fun b o hc e=>⟨o,k b o hc e⟩) (fun _ _ e=>e) (fun _ _ _ e=>e) (fun b ps e=>⟨#[],by rw [Array.append_empty]; exact e⟩) (fun m hm=>?_) (fun b u e=>?_) I.bare
  · obtain ⟨o,es,ep,ho,r⟩:=hm
    exact ⟨o,es,ep,k _ o (fun z=>(ok _ z).2.1 rfl) ho,r⟩
  · refine (I.hok b u e).stay (fun c v hc q=>k c v ?_ q) (fun _ q=>q) fun _ _ q=>q
    rcases hc with z | z
    · rw [z]; exact out b u e
    · exact out c _ z
end L2
end
section
namespace L2
open PySem PySem.Spec PySem.Calls PyProof.Rows
section
variable {prog:Program} {w:World} {A:Around} {E:Value→Shared→Prop} {s:Shared} {z TI TO i1 i2 t1 t2:Addr} {k:Nat} {xs ys:Array Value}
theorem vv {x y a b:Value} {Q:Value→Shared→Prop} (hz:IsZip s.heap z TI TO .none) (hI:IsPair s.heap TI (.ref i1) (.ref i2)) (hO:IsPair s.heap TO a b) (h1:cz s.heap i1 t1 k) (h2:cz s.heap i2 t2 k)
    (l1:s.heap.IsTuple t1 xs) (l2:s.heap.IsTuple t2 ys) (hx:xs[k]? = some x) (hy:ys[k]? = some y) (D:ZipApart z TI TO i1 i2 t1 t2)
    (q:∀ h',IsZip h' z TI TO (rawInt s.heap.objs.size)→IsPair h' TO x y→cz h' i1 t1 (k + 1)→cz h' i2 t2 (k + 1)→h'.get? s.heap.objs.size = some { cls:=.type "tuple",data:=.seq #[x,y] } →
      (∀ b o,b ≠ z→b ≠ TO→b ≠ i1→b ≠ i2→s.heap.get? b = some o→h'.get? b = some o)→Q (.ref s.heap.objs.size) { s with heap:=h' }):wpAny (model prog w) A (Builtin.«zip.__next__» ⟨[.ref z],[]⟩) (fun fin s'=>∃ v,fin = .done (.ret v)∧Q v s') E s:=by
  show wpAny _ _ (field (.ref z) 2 >>= _) _ _ _
  refine wpAny_bind (wpAny_field hz rfl rfl ?_)
  show wpAny _ _ (field (.ref z) 3 >>= _) _ _ _
  refine wpAny_bind (wpAny_field hz rfl rfl ?_)
  refine wpAny_bind (wpAny_seqItems hI rfl ?_)
  refine wpAny_bind (wpAny_bind (wpAny_field hz rfl rfl (wpAny_pure ?_)))
  refine wpAny_bind (wpAny_rule ?_)
  refine wpAny_bind (wpAny_field hz rfl rfl ?_)
  refine wpAny_bind (wpAny_setField_rec hz (by simp) fun ha za sa=>?_)
  replace za:IsZip ha z TI TO .ellipsis:=za
  rw [show (#[Value.ref i1,Value.ref i2]:Array Value).toList.zipIdx = [(.ref i1,0),(.ref i2,1)] from rfl,List.forIn_cons]
  have h1a:cz ha i1 t1 k:=(sa.2 i1 D.i1z).trans h1
  have h2a:cz ha i2 t2 k:=(sa.2 i2 D.i2z).trans h2
  have l1a:ha.IsTuple t1 xs:=l1.extBut sa.extBut D.l1z
  have l2a:ha.IsTuple t2 ys:=l2.extBut sa.extBut D.l2z
  have hOa:IsPair ha TO a b:=(sa.2 TO D.TOz).trans hO
  refine wpAny_bind (wpAny_bind (wpAny_bind (wpAny_onRaise (wpAny_bind (jl (s:={ s with heap:=ha }) h1a l1a hx fun hb h1b sb=>wpAny_pure ?_)))))
  replace sb:Heap.SameBut i1 ha hb:=sb
  have hOb:IsPair hb TO a b:=(sb.2 TO D.TOi1).trans hOa
  refine wpAny_bind (wpAny_seqItems (s:={ s with heap:=hb }) hOb rfl ?_)
  refine wpAny_bind (wpAny_updateSeq_pair (s:={ s with heap:=hb }) hOb fun hc hOc sc=>?_)
  replace sc:Heap.SameBut TO hb hc:=sc
  replace hOc:IsPair hc TO x b:=hOc
  refine wpAny_bind (wpAny_letGo (wpAny_pure ?_))
  have h2c:cz hc i2 t2 k:=(sc.2 i2 (Ne.symm D.TOi2)).trans ((sb.2 i2 (Ne.symm D.i12)).trans h2a)
  have l2c:hc.IsTuple t2 ys:=(l2a.extBut sb.extBut D.l2i1).extBut sc.extBut D.l2TO
  show wpAny _ _ (forIn [(Value.ref i2,1)] _ _) _ _ _
  rw [List.forIn_cons]
  refine wpAny_bind (wpAny_bind (wpAny_onRaise (wpAny_bind (jl (s:={ s with heap:=hc }) h2c l2c hy fun hd h2d sd=>wpAny_pure ?_))))
  replace sd:Heap.SameBut i2 hc hd:=sd
  have hOd:IsPair hd TO x b:=(sd.2 TO D.TOi2).trans hOc
  refine wpAny_bind (wpAny_seqItems (s:={ s with heap:=hd }) hOd rfl ?_)
  refine wpAny_bind (wpAny_updateSeq_pair (s:={ s with heap:=hd }) hOd fun he hOe se=>?_)
  replace se:Heap.SameBut TO hd he:=se
  replace hOe:IsPair he TO x y:=hOe
  refine wpAny_bind (wpAny_letGo (wpAny_pure ?_))
  show wpAny _ _ (forIn [] _ _) _ _ _
  rw [List.forIn_nil]
  refine wpAny_pure ?_
  show wpAny _ _ (seqItems? (.ref TO) >>= _) _ _ _
  refine wpAny_bind (wpAny_seqItems (s:={ s with heap:=he }) hOe rfl ?_)
  refine wpAny_bind (wpAny_newTuple ?_)
  have sze:he.objs.size = s.heap.objs.size:=by rw [se.1,sd.1,sc.1,sb.1,sa.1]
  have ze:IsZip he z TI TO .ellipsis:=(se.2 z (Ne.symm D.TOz)).trans ((sd.2 z (Ne.symm D.i2z)).trans ((sc.2 z (Ne.symm D.TOz)).trans ((sb.2 z (Ne.symm D.i1z)).trans za)))
  have zf:IsZip (he.push { cls:=.type "tuple",data:=.seq #[x,y] }) z TI TO .ellipsis:=Heap.get?_push_of_some _ ze
  have tf:(he.push { cls:=.type "tuple",data:=.seq #[x,y] }).get? s.heap.objs.size = some { cls:=.type "tuple",data:=.seq #[x,y] }:=Heap.get?_push_at sze.symm rfl
  have of:IsPair (he.push { cls:=.type "tuple",data:=.seq #[x,y] }) TO x y:=Heap.get?_push_of_some _ hOe
  have f1:cz (he.push { cls:=.type "tuple",data:=.seq #[x,y] }) i1 t1 (k + 1):=Heap.get?_push_of_some _ ((se.2 i1 (Ne.symm D.TOi1)).trans ((sd.2 i1 D.i12).trans ((sc.2 i1 (Ne.symm D.TOi1)).trans h1b)))
  have f2:cz (he.push { cls:=.type "tuple",data:=.seq #[x,y] }) i2 t2 (k + 1):=Heap.get?_push_of_some _ ((se.2 i2 (Ne.symm D.TOi2)).trans h2d)
  have kf:∀ b o,b ≠ z→b ≠ TO→b ≠ i1→b ≠ i2→s.heap.get? b = some o→(he.push { cls:=.type "tuple",data:=.seq #[x,y] }).get? b = some o:=fun b o n1 n2 n3 n4 e =>
    Heap.get?_push_of_some _ ((se.2 b n2).trans ((sd.2 b n4).trans ((sc.2 b n2).trans ((sb.2 b n3).trans ((sa.2 b n1).trans e)))))
  generalize he.push { cls:=.type "tuple",data:=.seq #[x,y] } = hf at zf tf of f1 f2 kf
  have lz:z < s.heap.objs.size:=Heap.lt_size hz
  show wpAny _ _ (Builtin.SmallTypes.ownedTupleHandOut (.ref z) (.ref he.objs.size) >>= _) _ _ _
  rw [sze]
  refine wpAny_bind (wpAny_bind (wpAny_setField_rec (s:={ s with heap:=hf }) zf (by simp) fun hg zg sg=>wpAny_setField_rec (s:={ s with heap:=hg }) zg (by simp) fun hh zh sh=>wpAny_pure ⟨_,rfl,?_⟩))
  replace sg:Heap.SameBut z hf hg:=sg
  replace sh:Heap.SameBut z hg hh:=sh
  have on:∀ b,b ≠ z→hh.get? b = hf.get? b:=fun b n=>(sh.2 b n).trans (sg.2 b n)
  refine q hh zh ?_ ?_ ?_ ?_ fun b o n1 n2 n3 n4 e=>(on b n1).trans (kf b o n1 n2 n3 n4 e)
  · exact (on TO D.TOz).trans of
  · exact (on i1 D.i1z).trans f1
  · exact (on i2 D.i2z).trans f2
  · exact (on _ (Nat.ne_of_gt lz)).trans tf
theorem vq {a b:Value} {Q:Fin→Shared→Prop} (hh:A.handled = none) (hz:IsZip s.heap z TI TO .none) (hI:IsPair s.heap TI (.ref i1) (.ref i2)) (hO:IsPair s.heap TO a b) (h1:cz s.heap i1 t1 k)
    (l1:s.heap.IsTuple t1 xs) (hx:xs[k]? = none) (D:ZipApart z TI TO i1 i2 t1 t2)
    (q:∀ h' e,(∀ b o,b ≠ z→b ≠ i1→s.heap.get? b = some o→h'.get? b = some o)→(∃ o,h'.get? e = some o∧o.cls = .type "StopIteration")→E (.ref e) { s with heap:=h' }):wpAny (model prog w) A (Builtin.«zip.__next__» ⟨[.ref z],[]⟩) Q E s:=by
  show wpAny _ _ (field (.ref z) 2 >>= _) _ _ _
  refine wpAny_bind (wpAny_field hz rfl rfl ?_)
  show wpAny _ _ (field (.ref z) 3 >>= _) _ _ _
  refine wpAny_bind (wpAny_field hz rfl rfl ?_)
  refine wpAny_bind (wpAny_seqItems hI rfl ?_)
  refine wpAny_bind (wpAny_bind (wpAny_field hz rfl rfl (wpAny_pure ?_)))
  refine wpAny_bind (wpAny_rule ?_)
  refine wpAny_bind (wpAny_field hz rfl rfl ?_)
  refine wpAny_bind (wpAny_setField_rec hz (by simp) fun ha za sa=>?_)
  replace za:IsZip ha z TI TO .ellipsis:=za
  rw [show (#[Value.ref i1,Value.ref i2]:Array Value).toList.zipIdx = [(.ref i1,0),(.ref i2,1)] from rfl,List.forIn_cons]
  have h1a:cz ha i1 t1 k:=(sa.2 i1 D.i1z).trans h1
  have l1a:ha.IsTuple t1 xs:=l1.extBut sa.extBut D.l1z
  refine wpAny_bind (wpAny_bind (wpAny_bind (wpAny_onRaise (wpAny_bind (sH (s:={ s with heap:=ha }) hh h1a l1a hx fun hb e sb he=>?_)))))
  replace sb:Heap.ExtBut i1 ha hb:=sb
  have zb:IsZip hb z TI TO .ellipsis:=sb z _ (Ne.symm D.i1z) za
  obtain ⟨oe,hoe,hce⟩:=he
  have nez:e ≠ z:=fun y=>by rw [y,zb] at hoe; cases hoe; simp at hce
  refine wpAny_setField_rec (s:={ s with heap:=hb }) zb (by simp) fun hc zc sc=>q hc e (fun b o n1 n2 hb'=>?_) ⟨oe,(sc.2 e nez).trans hoe,hce⟩
  exact (sc.2 b n1).trans (sb b o n2 ((sa.2 b n1).trans hb'))
end
theorem yp (t1 t2:Addr) (xs ys:Array Value) :
    Meets (Builtin.«zip.__new__» ⟨[.type "zip",.ref t1,.ref t2],[]⟩) (fun _ R s=>s.heap.IsTuple t1 xs∧s.heap.IsTuple t2 ys ∧
      ∀ h',IsZip h' (s.heap.objs.size + 4) (s.heap.objs.size + 2) (s.heap.objs.size + 3) .none→IsPair h' (s.heap.objs.size + 2) (.ref s.heap.objs.size) (.ref (s.heap.objs.size + 1))→IsPair h' (s.heap.objs.size + 3) .none .none →
        cz h' s.heap.objs.size t1 0→cz h' (s.heap.objs.size + 1) t2 0→(∀ b o,s.heap.get? b = some o→h'.get? b = some o)→R (.ok (.ret (.ref (s.heap.objs.size + 4)))) { s with heap:=h' }) :=
  .of_wp fun _ _ _ _ s q=>by
    obtain ⟨h0,g0,d0,t0,o0⟩:=s
    obtain ⟨a1,a2,q⟩:=q
    have self1:=sub_zip
    have b1:Heap.IsTuple (Shared.heap ⟨h0,g0,d0,t0,o0⟩) t1 xs:=a1
    have b2:Heap.IsTuple (Shared.heap ⟨h0.push (yc t1),g0,d0,t0,o0⟩) t2 ys:=Heap.IsTuple.push a2 _
    wp_walk using wpAny_pyIter_tuple b1,wpAny_pyIter_tuple b2
    refine ⟨_,rfl,?_⟩
    have n1:(h0.push (yc t1)).objs.size = h0.objs.size + 1:=Heap.size_push _ _
    simp only [Heap.size_push]
    refine q _ ?_ ?_ ?_ ?_ ?_ fun b o e=>?_
    · exact Heap.get?_push_at (by simp [Heap.size_push]) rfl
    · exact Heap.get?_push_of_some _ (Heap.get?_push_of_some _ (Heap.get?_push_at (by simp [Heap.size_push]) rfl))
    · exact Heap.get?_push_of_some _ (Heap.get?_push_at (by simp [Heap.size_push]) rfl)
    · exact Heap.get?_push_of_some _ (Heap.get?_push_of_some _ (Heap.get?_push_of_some _ (Heap.get?_push_of_some _ (Heap.get?_push_at (by simp [Heap.size_push]) rfl))))
    · exact Heap.get?_push_of_some _ (Heap.get?_push_of_some _ (Heap.get?_push_of_some _ (Heap.get?_push_at (by simp [Heap.size_push]) rfl)))
    · exact Heap.get?_push_of_some _ (Heap.get?_push_of_some _ (Heap.get?_push_of_some _ (Heap.get?_push_of_some _ (Heap.get?_push_of_some _ e))))
theorem uw {prog:Program} {w:World} {A:Around} {E:Value→Shared→Prop} {s:Shared} {t1 t2:Addr} {xs ys:Array Value} {Q:Value→Shared→Prop} (a1:s.heap.IsTuple t1 xs) (a2:s.heap.IsTuple t2 ys)
    (q:∀ h',IsZip h' (s.heap.objs.size + 4) (s.heap.objs.size + 2) (s.heap.objs.size + 3) .none→IsPair h' (s.heap.objs.size + 2) (.ref s.heap.objs.size) (.ref (s.heap.objs.size + 1))→IsPair h' (s.heap.objs.size + 3) .none .none →
      cz h' s.heap.objs.size t1 0→cz h' (s.heap.objs.size + 1) t2 0→(∀ b o,s.heap.get? b = some o→h'.get? b = some o)→Q (.ref (s.heap.objs.size + 4)) { s with heap:=h' }):wpAny (model prog w) A (call (.type "zip") [.ref t1,.ref t2]) Q E s :=
  callType_new PySem.F.called_zip (by decide) (PySem.F.typeCall_zip_2 _ _) (PySem.F.newCall_zip_2 _ _) (fun o=>PySem.F.args_object_init_3 o _ _) PySem.F.entry_zip_new (yp t1 t2 xs ys) ⟨a1,a2,fun h' z1 z2 z3 z4 z5 kk=>⟨⟨_,z1,rfl⟩,q h' z1 z2 z3 z4 z5 kk⟩⟩
def Itz (K:PySem.W.Frag) (a b:Addr) (xs ys:List V):It:=⟨fun i H=>i < xs.length∧i < ys.length∧SqT K H a xs∧SqT K H b ys,fun i H x H'=>∃ p u v,H p = none∧x = .ref p∧xs[i]? = some u∧ys[i]? = some v∧H' = upd H p (.tup [u,v]),fun i H=>i = xs.length∧SqT K H a xs⟩
theorem yg {P:Program} {w:World} {K:PySem.W.Frag} {elts:List Expr} {c1} {ps:Pos} (a b z TI TO i1 i2:Addr) (xs ys:List V) (D:ZipApart z TI TO i1 i2 a b):mO P w K (.Tuple elts c1 ps) (Itz K a b xs ys) [z,TI,TO,i1,i2] z
    (fun i h=>∃ c d,IsZip h z TI TO .none∧IsPair h TI (.ref i1) (.ref i2)∧IsPair h TO c d∧cz h i1 a i∧cz h i2 b i) where
  mem:=by simp
  obj:=fun i h ⟨c,d,q1,q2,q3,q4,q5⟩ b hb=>by
    simp only [List.mem_cons,List.not_mem_nil,or_false] at hb
    rcases hb with rfl | rfl | rfl | rfl | rfl
    · exact ⟨_,q1,fun v e=>by cases e⟩
    · exact ⟨_,q2,fun v e=>by cases e⟩
    · exact ⟨_,q3,fun v e=>by cases e⟩
    · exact ⟨_,q4,fun v e=>by cases e⟩
    · exact ⟨_,q5,fun v e=>by cases e⟩
  keep:=fun i h h' ⟨c,d,q1,q2,q3,q4,q5⟩ k=>⟨c,d,k z (by simp) _ q1,k TI (by simp) _ q2,k TO (by simp) _ q3,k i1 (by simp) _ q4,k i2 (by simp) _ q5⟩
  item:=by
    intro X hP hw hK hc i pins s σ H E I hf st hg
    subst hP hw hK
    obtain ⟨c,d,q1,q2,q3,q4,q5⟩:=st
    obtain ⟨hi,hj,ha,hb⟩:=hg
    obtain ⟨us,ru,pu,_⟩:=I.tuple ha
    obtain ⟨vs,rv,pv,_⟩:=I.tuple hb
    have hx:xs[i]? = some xs[i]:=List.getElem?_eq_getElem hi
    have hy:ys[i]? = some ys[i]:=List.getElem?_eq_getElem hj
    obtain ⟨u,hu,r1⟩:=ru.get hx
    obtain ⟨v,hv,r2⟩:=rv.get hy
    have ty:s.TypeIs (.ref z) "zip":=⟨_,q1,rfl⟩
    unfold pyNext
    refine wpAny_bind (wpAny_attempt (wpAny_callSpecial?_slot (name:=Str.ofString "__next__") ty PySem.F.slot_zip_next (wpAny_call_entry PySem.F.slot_zip_next ty PySem.F.entry_zip_next ?_ (PySem.F.args_zip_next_1 _))))
    refine vv (x:=u) (y:=v) q1 q2 q3 q4 q5 (show s.heap.IsTuple a us.toArray from pu) (show s.heap.IsTuple b vs.toArray from pv) (by simpa using hu) (by simpa using hv) D fun h' w1 w2 w3 w4 w5 w6=>wpAny_pure ⟨_,rfl,?_⟩
    refine wpAny_letOwnedTupleGo_zip (s:={ s with heap:=h' }) w1 fun h2 e2 same=>?_
    replace same:Heap.SameBut z h' h2:=same
    have lz:z < s.heap.objs.size:=Heap.lt_size q1
    have lTI:TI < s.heap.objs.size:=Heap.lt_size q2
    have lTO:TO < s.heap.objs.size:=Heap.lt_size q3
    have l1:i1 < s.heap.objs.size:=Heap.lt_size q4
    have l2:i2 < s.heap.objs.size:=Heap.lt_size q5
    have low:∀ b ∈ [z,TI,TO,i1,i2],b < s.heap.objs.size:=fun b hb=>by
      simp only [List.mem_cons,List.not_mem_nil,or_false] at hb
      rcases hb with rfl | rfl | rfl | rfl | rfl <;> assumption
    have tup2:h2.get? s.heap.objs.size = some { cls:=.type "tuple",data:=.seq #[u,v] }:=(same.2 _ (Nat.ne_of_gt lz)).trans w5
    have I1:Inv X pins σ (upd H s.heap.objs.size (.tup [xs[i],ys[i]])) { s with heap:=s.heap.push { cls:=.type "tuple",data:=.seq #[u,v] },toks:=s.toks } :=
      I.laid (o:=.tup [xs[i],ys[i]]) (fun b ob q=>Heap.get?_push_of_some _ q) (Nat.le_refl _) ⟨by rw [sizeLine_eq]; simp,[u,v],.cons r1 (.cons r2 .nil),IsTup.new _ _⟩
    have frees:∀ b,b < s.heap.objs.size→upd H s.heap.objs.size (.tup [xs[i],ys[i]]) b = H b:=fun b hb=>aJ (Nat.ne_of_lt hb)
    have I2:Inv X pins σ (upd H s.heap.objs.size (.tup [xs[i],ys[i]])) { s with heap:=h2,toks:=s.toks }:=by
      refine Inv.turnedL (s:={ s with heap:=s.heap.push { cls:=.type "tuple",data:=.seq #[u,v] },toks:=s.toks }) (h':=h2) (its:=[z,TI,TO,i1,i2]) (t':=s.toks) I1 (fun b o hb q=>?_) (fun b hb=>?_)
      · simp only [List.mem_cons,List.not_mem_nil,or_false,not_or] at hb
        obtain ⟨n1,n2,n3,n4,n5⟩:=hb
        by_cases hbs:b = s.heap.objs.size
        · subst hbs
          have q':(s.heap.push { cls:=.type "tuple",data:=.seq #[u,v] }).get? s.heap.objs.size = some o:=q
          rw [Heap.get?_push_at rfl rfl] at q'
          cases q'
          exact tup2
        · have q':s.heap.get? b = some o:=(Heap.get?_push_ne _ _ _ hbs).symm.trans q
          exact (same.2 b n1).trans (w6 b o n1 n3 n4 n5 q')
      · obtain ⟨f0,f1,f2,f3,f4,f5⟩:=hf b hb
        exact ⟨by rw [frees b (low b hb)]; exact f0,f1,f3,f4,f5⟩
    refine ⟨.ref s.heap.objs.size,_,I2,rfl,⟨_,_,_,I.hok.fresh (Nat.le_refl _),rfl,hx,hy,rfl⟩,⟨u,v,e2,?_,?_,?_,?_⟩,fun b hb=>?_⟩
    · exact (same.2 TI D.TIz).trans (w6 TI _ D.TIz D.TITO D.TIi1 D.TIi2 q2)
    · exact (same.2 TO D.TOz).trans w2
    · exact (same.2 i1 D.i1z).trans w3
    · exact (same.2 i2 D.i2z).trans w4
    · rw [frees b (low b hb)]; exact (hf b hb).1
  done:=by
    intro X hP hw hK hc i pins s σ H E I hf st hg
    subst hP hw hK
    obtain ⟨c,d,q1,q2,q3,q4,q5⟩:=st
    obtain ⟨hi,ha⟩:=hg
    obtain ⟨us,ru,pu,_⟩:=I.tuple ha
    have lr:=ru.length
    have ty:s.TypeIs (.ref z) "zip":=⟨_,q1,rfl⟩
    unfold pyNext
    refine wpAny_bind (wpAny_attempt (wpAny_callSpecial?_slot (name:=Str.ofString "__next__") ty PySem.F.slot_zip_next (wpAny_call_entry PySem.F.slot_zip_next ty PySem.F.entry_zip_next ?_ (PySem.F.args_zip_next_1 _))))
    refine vq (I.ok.hd hc) q1 q2 q3 q4 (show s.heap.IsTuple a us.toArray from pu) (by simp; omega) D fun h' e kk ⟨o,ho,hco⟩=>?_
    refine wpAny_bind (wpAny_isInstance (T:="StopIteration") (b:=true) ⟨o,ho,hco⟩ isSubtype_stop (wpAny_pure ⟨rfl,?_⟩))
    refine Inv.turnedL (s:=s) (h':=h') (its:=[z,i1]) (t':=s.toks) I (fun b o hb q=>kk b o (fun y=>hb (by simp [y])) (fun y=>hb (by simp [y])) q) (fun b hb=>?_)
    obtain ⟨f0,f1,f2,f3,f4,f5⟩:=hf b (by
      simp only [List.mem_cons,List.not_mem_nil,or_false] at hb
      rcases hb with rfl | rfl <;> simp)
    exact ⟨f0,f1,f3,f4,f5⟩
  self:=fun A i s Q E ⟨_,_,q1,_⟩ q=>wpAny_pyIter_zip q1 q
def yI (K:PySem.W.Frag) (ta:TA):TI:=fun σ H R=>ta σ H fun vs H1=>∃ a b xs ys,vs = [.ref a,.ref b]∧SqT K H1 a xs∧SqT K H1 b ys∧R (Itz K a b xs ys) H1
theorem o5 {X:Cx} {a b:Expr} {ta:TA} {p pos ps:Pos} {elts:List Expr} {c1} (hg:Gl X "zip") (hm:X.mg "zip" = none) (ha:PA X [a,b] ta) (hs:starEach [a,b] X.env = (false,eval a X.env) :: starEach [b] X.env:=by rfl) (hpl:(backTo pos (starEach [b] X.env)).any (·.1) = false:=by rfl) :
    PI X (.Tuple elts c1 ps) (.Call (.Name "zip" p) [a,b] [] pos) (yI X.K ta):=by
  intro pins s σ H R I h
  refine Call_ (kg I hg hm vS (PyProof.Rows.callWith_type1 (thn (ha pos pins s σ H _ I h) fun us s1 ⟨vs,H1,I1,r1,q1⟩=>?_) hs hpl))
  obtain ⟨t1,t2,xs,ys,ev,hq1,hq2,q⟩:=q1
  subst ev
  cases r1 with
  | cons e1 rt =>
    obtain ⟨u2,rfl,e2⟩:=gv rt
    cases e1
    cases e2
    obtain ⟨us,ru,pu,_⟩:=I1.tuple hq1
    obtain ⟨vs,rv,pv,_⟩:=I1.tuple hq2
    have lt1:t1 < s1.heap.objs.size:=pu.lt
    have lt2:t2 < s1.heap.objs.size:=pv.lt
    refine uw pu pv fun h' z1 z2 z3 z4 z5 kk=>?_
    refine wpAny_pyIter_zip (s:={ s1 with heap:=h' }) z1 ?_
    have ne:∀ {x y:Nat},x < y→x ≠ y:=fun h=>Nat.ne_of_lt h
    have gt:∀ {x y:Nat},y < x→x ≠ y:=fun h=>Nat.ne_of_gt h
    have ap:ZipApart (s1.heap.objs.size + 4) (s1.heap.objs.size + 2) (s1.heap.objs.size + 3) s1.heap.objs.size (s1.heap.objs.size + 1) t1 t2 :=
      ⟨ne (by omega),ne (by omega),ne (by omega),ne (by omega),ne (by omega),gt (by omega),gt (by omega),gt (by omega),gt (by omega),ne (by omega),ne (Nat.lt_of_lt_of_le lt1 (by omega)),ne (Nat.lt_of_lt_of_le lt1 (by omega)),ne lt1,ne (Nat.lt_of_lt_of_le lt1 (by omega)),
        ne (Nat.lt_of_lt_of_le lt2 (by omega)),ne (Nat.lt_of_lt_of_le lt2 (by omega)),ne lt2,ne (Nat.lt_of_lt_of_le lt2 (by omega))⟩
    refine ⟨s1.heap.objs.size + 4,[s1.heap.objs.size + 4,s1.heap.objs.size + 2,s1.heap.objs.size + 3,s1.heap.objs.size,s1.heap.objs.size + 1],_,_,H1,rfl,I1.kept (t':=s1.toks) kk,yg t1 t2 _ _ _ _ _ xs ys ap,⟨.none,.none,z1,z2,z3,z4,z5⟩,fun b hb=>?_,q⟩
    have lb:s1.heap.objs.size ≤ b:=by
      simp only [List.mem_cons,List.not_mem_nil,or_false] at hb
      rcases hb with rfl | rfl | rfl | rfl | rfl
      · exact Nat.le_add_right _ _
      · exact Nat.le_add_right _ _
      · exact Nat.le_add_right _ _
      · exact Nat.le_refl _
      · exact Nat.le_add_right _ _
    exact I1.fpOk lb (I1.hok.fresh lb)
end L2
end
section
namespace L2
open PySem PySem.Spec PySem.Calls PyProof.Rows
theorem lB (σ:St) {i j:Nat} (ne:i ≠ j) (a b c d:Option V):((((σ.set i a).set j b).set i c).set j d) = (σ.set i c).set j d:=by
  rw [List.set_comm _ _ (Ne.symm ne),List.set_set,List.set_set]
theorem Bc {K:PySem.W.Frag} {σ:St} {H:Hp} {ta:TA} {te:TE} {mk:St→St} {i j:Nat} {cs ds:List D} (h:RA K ta σ H [.tup cs,.tup ds]) (hl:cs.length = ds.length) (hc:cs.length ≤ 1000) (es:List D) (hn:es.length = cs.length) (ne:i ≠ j)
    (h0:((mk σ).set i none).set j none = mk σ)
    (turn:∀ H1 (k:Nat) c d e v w,Same H H1→cs[k]? = some c→ds[k]? = some d→es[k]? = some e→Dat K H1 c v→Dat K H1 d w→RE K te (((mk σ).set i (some v)).set j (some w)) H1 e) :
    RC K (fC (yI K ta) mk (qo K 2 (fY (bX i) (fY (bX j) rP))) dN te) σ H es:=fun H1 s Q q=>by
  refine h H1 s _ fun vs H2 s2 q2=>?_
  obtain ⟨v1,v2,e,k1,k2⟩:=fA q2
  subst e
  obtain ⟨a,us,e1,ha,da⟩:=k1.tupE
  obtain ⟨b,ws,e2,hb,db⟩:=k2.tupE
  subst e1 e2
  have lu:=da.length
  have lw:=db.length
  refine ⟨a,b,us,ws,rfl,ha,hb,fun l hl2=>?_⟩
  have s02:Same H H2:=s.trans s2
  refine ⟨fun n m σ' G=>m = us.length - n∧n ≤ us.length∧(∃ z1 z2,σ' = ((mk σ).set i z1).set j z2)∧Same H2 G∧∃ ys,G l = some (.lst ys)∧Dats K G (es.take n) ys,⟨us.length,by omega,Nat.zero_le _,⟨none,none,h0.symm⟩,aD hl2 _,[],au,by rw [List.take_zero]; exact Dats.nil⟩,?_⟩
  rintro n m σ' G ⟨rfl,hle,⟨z1,z2,rfl⟩,sG,ys,hy,dy⟩
  by_cases hlt:n < us.length
  · refine .inr ⟨⟨hlt,by omega,sG.sqT ha,sG.sqT hb⟩,fun σ'' G'=>(∃ z1 z2,σ'' = ((mk σ).set i z1).set j z2)∧Same H2 G'∧∃ ys,G' l = some (.lst ys)∧Dats K G' (es.take (n + 1)) ys,fun σ'' G' w=>⟨us.length - (n + 1),by omega,rfl,hlt,w.1,w.2⟩,fun x G' y=>?_⟩
    obtain ⟨p,u,w,hp,rfl,hu,hw,rfl⟩:=y
    have sn:Same G (upd G p (.tup [u,w])):=aD hp _
    have s2n:=sG.trans sn
    obtain ⟨c,ec,hcv⟩:=da.getV hu
    obtain ⟨d,ed,hdv⟩:=db.getV hw
    have hne:n < es.length:=by omega
    refine ⟨p,[u,w],rfl,SqT.of au,rfl,u,_,rfl,w,_,rfl,rfl,?_⟩
    simp only [dN,if_true]
    rw [lB _ ne]
    refine RE.use (turn _ n c d es[n] u w (s02.trans s2n) ec ed (List.getElem?_eq_getElem hne) (s2n.dat hcv) (s2n.dat hdv)) fun v G4 s4 q4=>?_
    have hy4:=s4 _ _ (sn _ _ hy)
    have lys:ys.length = n:=by rw [← dy.length,List.length_take]; omega
    refine ⟨ys,hy4,bJ (by omega),⟨_,_,rfl⟩,fun x o hx=>?_,ys ++ [v],au,?_⟩
    · rw [aJ (az hx hl2)]
      exact s4 _ _ (s2n _ _ hx)
    · have g:cQ K G4 (upd G4 l (.lst (ys ++ [v]))):=But.grow (t:=l) (But.upd (Same.refl G4).but) hy4 au
      rw [List.take_add_one,List.getElem?_eq_getElem hne]
      exact Dats.append (Dats.mono g _ (s4.dats (sn.dats dy))) (Dats.cons (Dat.mono g _ q4) Dats.nil)
  · have e:n = us.length:=by omega
    subst e
    refine .inl ⟨⟨rfl,sG.sqT ha⟩,?_⟩
    rw [List.take_of_length_le (by omega)] at dy
    exact q l ys G (s2.free hl2) (s2.trans sG) hy dy
end L2
end
section
namespace L2
open PySem PySem.Spec PySem.Calls PyProof.Rows
end L2
end
section
namespace L2
open PySem PySem.Spec PySem.Calls PyProof.Rows
section
variable {K:PySem.W.Frag} {σ:St} {H:Hp} {tA:TA} {ar:List Ar} {d:D} {R:List Ar→D→Prop} {B:List Ar→Addr→Prop} {E:XK} {Q:VK} {C:Addr}
end
end L2
end
section
namespace L2
open PySem PySem.Spec PyProof.Rows
section
variable {X:Cx}
end
section
variable {K:PySem.W.Frag} {σ:St} {H H':Hp} {d d':D} {ds es:List D} {t u ta tb te tl:TE} {tA:TA} {mk:St→St} {jj:Nat}
inductive LDs (K:PySem.W.Frag) (H:Hp):List (List D)→List V→Prop
  | nil:LDs K H [] []
  | cons {es:List D} {v:V} {ess:List (List D)} {vs:List V}:LD K H es v→LDs K H ess vs→LDs K H (es :: ess) (v :: vs)
theorem LDs.length {ess:List (List D)} {vs:List V} (h:LDs K H ess vs):ess.length = vs.length:=by
  induction h with
  | nil=>rfl
  | cons _ _ ih=>simp [ih]
theorem LDs.map {ess:List (List D)} {vs:List V} (h:LDs K H ess vs) (f:∀ es v,LD K H es v→LD K H' es v):LDs K H' ess vs:=by
  induction h with
  | nil=>exact .nil
  | cons h1 _ ih=>exact .cons (f _ _ h1) ih
theorem Same.lds {ess:List (List D)} {vs:List V} (e:Same H H') (h:LDs K H ess vs):LDs K H' ess vs:=h.map fun _ _ z=>e.ld z
theorem LDs.snoc {ess:List (List D)} {vs:List V} {es:List D} {v:V} (h:LDs K H ess vs) (h1:LD K H es v):LDs K H (ess ++ [es]) (vs ++ [v]):=by
  induction h with
  | nil=>exact .cons h1 .nil
  | cons k _ ih=>exact .cons k ih
theorem LDs.get {ess:List (List D)} {vs:List V} (h:LDs K H ess vs):∀ {i:Nat} {es:List D},ess[i]? = some es→∃ v,vs[i]? = some v∧LD K H es v:=by
  induction h with
  | nil=>intro i es e; cases e
  | cons k _ ih =>
    intro i es e
    cases i with
    | zero=>cases e; exact ⟨_,rfl,k⟩
    | succ i=>exact ih e
def RCL (K:PySem.W.Frag) (t:TE) (σ:St) (H:Hp) (ess:List (List D)):Prop:=∀ H1,Same H H1→∀ Q:VK,(∀ l ys H',H1 l = none→Same H1 H'→H' l = some (.lst ys)→LDs K H' ess ys→Q (.ref l) H')→t σ H1 Q
theorem RCL.use {Q:VK} {ess:List (List D)} (h:RCL K t σ H ess) (q:∀ l ys H',H l = none→Same H H'→H' l = some (.lst ys)→LDs K H' ess ys→Q (.ref l) H'):t σ H Q:=h H (Same.refl H) Q q
def Off (K:PySem.W.Frag) (H:Hp) (l:Addr) (vs:List V):Prop:=∀ v ∈ vs,v ≠ .ref l
theorem LDs.grown {l:Addr} {zs zs':List V} {ess:List (List D)} {vs:List V} (h:LDs K H ess vs) (off:Off K H l vs) (e:But l H H') (h1:H l = some (.lst zs)) (h2:H' l = some (.lst zs')):LDs K H' ess vs:=by
  have g:cQ K H H':=e.grow h1 h2
  induction h with
  | nil=>exact .nil
  | cons k _ ih =>
    refine .cons ?_ (ih fun v hv=>off v (List.mem_cons_of_mem _ hv))
    obtain ⟨a,us,rfl,ha,hd⟩:=k
    have na:a ≠ l:=fun z=>off _ List.mem_cons_self (by rw [z])
    refine ⟨a,us,rfl,?_,Dats.mono g _ hd⟩
    exact ha.elim (fun z=>.inl (e _ _ na z)) .inr
theorem lq {k j:Nat} {l:Addr} {ys:List V} {ess:List (List D)} (hl:H l = some (.lst ys)) (hd:LDs K H ess ys) (h2:RE K tb σ H (.int j)) (e:ess[j]? = some es) (hv:σ[k]? = some (some (.ref l)):=by rfl):RL K (tOp (zm K) (dJ k) tb) σ H es:=fun H1 s Q q =>
  ⟨_,hv,h2 H1 s _ fun w H3 s3 q3=>by
    obtain ⟨v,ev,hx⟩:=((s.trans s3).lds hd).get e
    exact ⟨l,ys,j,v,rfl,q3.intE,SqL.of ((s.trans s3) _ _ hl),fD ev,q _ _ s3 hx⟩⟩
end
end L2
end
section
namespace L2
open PySem PySem.Spec PySem.Calls PyProof.Rows
abbrev wK (t:Addr):Obj:={ cls:=.type "list_iterator",data:=.fields #[.ref t,.int 0 0] }
section
variable {prog:Program} {w:World} {A:Around} {E:Value→Shared→Prop} {s:Shared} {z TI TO i1 i2 t1 t2:Addr} {k:Nat} {xs ys:Array Value}
theorem vp {x y a b:Value} {Q:Value→Shared→Prop} (hz:IsZip s.heap z TI TO .none) (hI:IsPair s.heap TI (.ref i1) (.ref i2)) (hO:IsPair s.heap TO a b) (h1:s.heap.IsListIter i1 t1 k) (h2:cz s.heap i2 t2 k)
    (l1:s.heap.IsList t1 xs) (l2:s.heap.IsTuple t2 ys) (hx:xs[k]? = some x) (hy:ys[k]? = some y) (D:ZipApart z TI TO i1 i2 t1 t2)
    (q:∀ h',IsZip h' z TI TO (rawInt s.heap.objs.size)→IsPair h' TO x y→h'.IsListIter i1 t1 (k + 1)→cz h' i2 t2 (k + 1)→h'.get? s.heap.objs.size = some { cls:=.type "tuple",data:=.seq #[x,y] } →
      (∀ b o,b ≠ z→b ≠ TO→b ≠ i1→b ≠ i2→s.heap.get? b = some o→h'.get? b = some o)→Q (.ref s.heap.objs.size) { s with heap:=h' }):wpAny (model prog w) A (Builtin.«zip.__next__» ⟨[.ref z],[]⟩) (fun fin s'=>∃ v,fin = .done (.ret v)∧Q v s') E s:=by
  show wpAny _ _ (field (.ref z) 2 >>= _) _ _ _
  refine wpAny_bind (wpAny_field hz rfl rfl ?_)
  show wpAny _ _ (field (.ref z) 3 >>= _) _ _ _
  refine wpAny_bind (wpAny_field hz rfl rfl ?_)
  refine wpAny_bind (wpAny_seqItems hI rfl ?_)
  refine wpAny_bind (wpAny_bind (wpAny_field hz rfl rfl (wpAny_pure ?_)))
  refine wpAny_bind (wpAny_rule ?_)
  refine wpAny_bind (wpAny_field hz rfl rfl ?_)
  refine wpAny_bind (wpAny_setField_rec hz (by simp) fun ha za sa=>?_)
  replace za:IsZip ha z TI TO .ellipsis:=za
  rw [show (#[Value.ref i1,Value.ref i2]:Array Value).toList.zipIdx = [(.ref i1,0),(.ref i2,1)] from rfl,List.forIn_cons]
  have h1a:ha.IsListIter i1 t1 k:=h1.at fun o e=>(sa.2 i1 D.i1z).trans e
  have h2a:cz ha i2 t2 k:=(sa.2 i2 D.i2z).trans h2
  have l1a:ha.IsList t1 xs:=l1.extBut sa.extBut D.l1z
  have l2a:ha.IsTuple t2 ys:=l2.extBut sa.extBut D.l2z
  have hOa:IsPair ha TO a b:=(sa.2 TO D.TOz).trans hO
  refine wpAny_bind (wpAny_bind (wpAny_bind (wpAny_onRaise (wpAny_bind (wpAny_nextOf_list_item (s:={ s with heap:=ha }) h1a l1a hx fun hb h1b sb=>wpAny_pure ?_)))))
  replace sb:Heap.SameBut i1 ha hb:=sb
  have hOb:IsPair hb TO a b:=(sb.2 TO D.TOi1).trans hOa
  refine wpAny_bind (wpAny_seqItems (s:={ s with heap:=hb }) hOb rfl ?_)
  refine wpAny_bind (wpAny_updateSeq_pair (s:={ s with heap:=hb }) hOb fun hc hOc sc=>?_)
  replace sc:Heap.SameBut TO hb hc:=sc
  replace hOc:IsPair hc TO x b:=hOc
  refine wpAny_bind (wpAny_letGo (wpAny_pure ?_))
  have h2c:cz hc i2 t2 k:=(sc.2 i2 (Ne.symm D.TOi2)).trans ((sb.2 i2 (Ne.symm D.i12)).trans h2a)
  have l2c:hc.IsTuple t2 ys:=(l2a.extBut sb.extBut D.l2i1).extBut sc.extBut D.l2TO
  show wpAny _ _ (forIn [(Value.ref i2,1)] _ _) _ _ _
  rw [List.forIn_cons]
  refine wpAny_bind (wpAny_bind (wpAny_onRaise (wpAny_bind (jl (s:={ s with heap:=hc }) h2c l2c hy fun hd h2d sd=>wpAny_pure ?_))))
  replace sd:Heap.SameBut i2 hc hd:=sd
  have hOd:IsPair hd TO x b:=(sd.2 TO D.TOi2).trans hOc
  refine wpAny_bind (wpAny_seqItems (s:={ s with heap:=hd }) hOd rfl ?_)
  refine wpAny_bind (wpAny_updateSeq_pair (s:={ s with heap:=hd }) hOd fun he hOe se=>?_)
  replace se:Heap.SameBut TO hd he:=se
  replace hOe:IsPair he TO x y:=hOe
  refine wpAny_bind (wpAny_letGo (wpAny_pure ?_))
  show wpAny _ _ (forIn [] _ _) _ _ _
  rw [List.forIn_nil]
  refine wpAny_pure ?_
  show wpAny _ _ (seqItems? (.ref TO) >>= _) _ _ _
  refine wpAny_bind (wpAny_seqItems (s:={ s with heap:=he }) hOe rfl ?_)
  refine wpAny_bind (wpAny_newTuple ?_)
  have sze:he.objs.size = s.heap.objs.size:=by rw [se.1,sd.1,sc.1,sb.1,sa.1]
  have ze:IsZip he z TI TO .ellipsis:=(se.2 z (Ne.symm D.TOz)).trans ((sd.2 z (Ne.symm D.i2z)).trans ((sc.2 z (Ne.symm D.TOz)).trans ((sb.2 z (Ne.symm D.i1z)).trans za)))
  have zf:IsZip (he.push { cls:=.type "tuple",data:=.seq #[x,y] }) z TI TO .ellipsis:=Heap.get?_push_of_some _ ze
  have tf:(he.push { cls:=.type "tuple",data:=.seq #[x,y] }).get? s.heap.objs.size = some { cls:=.type "tuple",data:=.seq #[x,y] }:=Heap.get?_push_at sze.symm rfl
  have of:IsPair (he.push { cls:=.type "tuple",data:=.seq #[x,y] }) TO x y:=Heap.get?_push_of_some _ hOe
  have f1:(he.push { cls:=.type "tuple",data:=.seq #[x,y] }).IsListIter i1 t1 (k + 1):=h1b.at fun o e=>Heap.get?_push_of_some _ ((se.2 i1 (Ne.symm D.TOi1)).trans ((sd.2 i1 D.i12).trans ((sc.2 i1 (Ne.symm D.TOi1)).trans e)))
  have f2:cz (he.push { cls:=.type "tuple",data:=.seq #[x,y] }) i2 t2 (k + 1):=Heap.get?_push_of_some _ ((se.2 i2 (Ne.symm D.TOi2)).trans h2d)
  have kf:∀ b o,b ≠ z→b ≠ TO→b ≠ i1→b ≠ i2→s.heap.get? b = some o→(he.push { cls:=.type "tuple",data:=.seq #[x,y] }).get? b = some o:=fun b o n1 n2 n3 n4 e =>
    Heap.get?_push_of_some _ ((se.2 b n2).trans ((sd.2 b n4).trans ((sc.2 b n2).trans ((sb.2 b n3).trans ((sa.2 b n1).trans e)))))
  generalize he.push { cls:=.type "tuple",data:=.seq #[x,y] } = hf at zf tf of f1 f2 kf
  have lz:z < s.heap.objs.size:=Heap.lt_size hz
  show wpAny _ _ (Builtin.SmallTypes.ownedTupleHandOut (.ref z) (.ref he.objs.size) >>= _) _ _ _
  rw [sze]
  refine wpAny_bind (wpAny_bind (wpAny_setField_rec (s:={ s with heap:=hf }) zf (by simp) fun hg zg sg=>wpAny_setField_rec (s:={ s with heap:=hg }) zg (by simp) fun hh zh sh=>wpAny_pure ⟨_,rfl,?_⟩))
  replace sg:Heap.SameBut z hf hg:=sg
  replace sh:Heap.SameBut z hg hh:=sh
  have on:∀ b,b ≠ z→hh.get? b = hf.get? b:=fun b n=>(sh.2 b n).trans (sg.2 b n)
  refine q hh zh ?_ ?_ ?_ ?_ fun b o n1 n2 n3 n4 e=>(on b n1).trans (kf b o n1 n2 n3 n4 e)
  · exact (on TO D.TOz).trans of
  · exact f1.at fun o e=>(on i1 D.i1z).trans e
  · exact (on i2 D.i2z).trans f2
  · exact (on _ (Nat.ne_of_gt lz)).trans tf
theorem vn {a b:Value} {Q:Fin→Shared→Prop} (hh:A.handled = none) (hz:IsZip s.heap z TI TO .none) (hI:IsPair s.heap TI (.ref i1) (.ref i2)) (hO:IsPair s.heap TO a b) (h1:s.heap.IsListIter i1 t1 k)
    (l1:s.heap.IsList t1 xs) (hx:xs[k]? = none) (D:ZipApart z TI TO i1 i2 t1 t2)
    (q:∀ h' e,(∀ b o,b ≠ z→b ≠ i1→s.heap.get? b = some o→h'.get? b = some o)→(∃ o,h'.get? e = some o∧o.cls = .type "StopIteration")→E (.ref e) { s with heap:=h' }):wpAny (model prog w) A (Builtin.«zip.__next__» ⟨[.ref z],[]⟩) Q E s:=by
  show wpAny _ _ (field (.ref z) 2 >>= _) _ _ _
  refine wpAny_bind (wpAny_field hz rfl rfl ?_)
  show wpAny _ _ (field (.ref z) 3 >>= _) _ _ _
  refine wpAny_bind (wpAny_field hz rfl rfl ?_)
  refine wpAny_bind (wpAny_seqItems hI rfl ?_)
  refine wpAny_bind (wpAny_bind (wpAny_field hz rfl rfl (wpAny_pure ?_)))
  refine wpAny_bind (wpAny_rule ?_)
  refine wpAny_bind (wpAny_field hz rfl rfl ?_)
  refine wpAny_bind (wpAny_setField_rec hz (by simp) fun ha za sa=>?_)
  replace za:IsZip ha z TI TO .ellipsis:=za
  rw [show (#[Value.ref i1,Value.ref i2]:Array Value).toList.zipIdx = [(.ref i1,0),(.ref i2,1)] from rfl,List.forIn_cons]
  have h1a:ha.IsListIter i1 t1 k:=h1.at fun o e=>(sa.2 i1 D.i1z).trans e
  have l1a:ha.IsList t1 xs:=l1.extBut sa.extBut D.l1z
  refine wpAny_bind (wpAny_bind (wpAny_bind (wpAny_onRaise (wpAny_bind (wpAny_nextOf_list_end (s:={ s with heap:=ha }) hh h1a l1a hx fun hb e sb he=>?_)))))
  replace sb:Heap.ExtBut i1 ha hb:=sb
  have zb:IsZip hb z TI TO .ellipsis:=sb z _ (Ne.symm D.i1z) za
  obtain ⟨oe,hoe,hce⟩:=he
  have nez:e ≠ z:=fun y=>by rw [y,zb] at hoe; cases hoe; simp at hce
  refine wpAny_setField_rec (s:={ s with heap:=hb }) zb (by simp) fun hc zc sc=>q hc e (fun b o n1 n2 hb'=>?_) ⟨oe,(sc.2 e nez).trans hoe,hce⟩
  exact (sc.2 b n1).trans (sb b o n2 ((sa.2 b n1).trans hb'))
end
theorem yo (t1 t2:Addr) (xs ys:Array Value) :
    Meets (Builtin.«zip.__new__» ⟨[.type "zip",.ref t1,.ref t2],[]⟩) (fun _ R s=>s.heap.IsList t1 xs∧s.heap.IsTuple t2 ys ∧
      ∀ h',IsZip h' (s.heap.objs.size + 4) (s.heap.objs.size + 2) (s.heap.objs.size + 3) .none→IsPair h' (s.heap.objs.size + 2) (.ref s.heap.objs.size) (.ref (s.heap.objs.size + 1))→IsPair h' (s.heap.objs.size + 3) .none .none →
        h'.IsListIter s.heap.objs.size t1 0→cz h' (s.heap.objs.size + 1) t2 0→(∀ b o,s.heap.get? b = some o→h'.get? b = some o)→R (.ok (.ret (.ref (s.heap.objs.size + 4)))) { s with heap:=h' }) :=
  .of_wp fun _ _ _ _ s q=>by
    obtain ⟨h0,g0,d0,t0,o0⟩:=s
    obtain ⟨a1,a2,q⟩:=q
    have self1:=sub_zip
    have b1:Heap.IsList (Shared.heap ⟨h0,g0,d0,t0,o0⟩) t1 xs:=a1
    have b2:Heap.IsTuple (Shared.heap ⟨h0.push (wK t1),g0,d0,t0,o0⟩) t2 ys:=Heap.IsTuple.push a2 _
    wp_walk using wpAny_pyIter_list b1,wpAny_pyIter_tuple b2
    refine ⟨_,rfl,?_⟩
    have n1:(h0.push (wK t1)).objs.size = h0.objs.size + 1:=Heap.size_push _ _
    simp only [Heap.size_push]
    refine q _ ?_ ?_ ?_ ?_ ?_ fun b o e=>?_
    · exact Heap.get?_push_at (by simp [Heap.size_push]) rfl
    · exact Heap.get?_push_of_some _ (Heap.get?_push_of_some _ (Heap.get?_push_at (by simp [Heap.size_push]) rfl))
    · exact Heap.get?_push_of_some _ (Heap.get?_push_at (by simp [Heap.size_push]) rfl)
    · exact ⟨_,Heap.get?_push_of_some _ (Heap.get?_push_of_some _ (Heap.get?_push_of_some _ (Heap.get?_push_of_some _ (Heap.get?_push_at (by simp [Heap.size_push]) rfl)))),rfl,rfl⟩
    · exact Heap.get?_push_of_some _ (Heap.get?_push_of_some _ (Heap.get?_push_of_some _ (Heap.get?_push_at (by simp [Heap.size_push]) rfl)))
    · exact Heap.get?_push_of_some _ (Heap.get?_push_of_some _ (Heap.get?_push_of_some _ (Heap.get?_push_of_some _ (Heap.get?_push_of_some _ e))))
theorem uv {prog:Program} {w:World} {A:Around} {E:Value→Shared→Prop} {s:Shared} {t1 t2:Addr} {xs ys:Array Value} {Q:Value→Shared→Prop} (a1:s.heap.IsList t1 xs) (a2:s.heap.IsTuple t2 ys)
    (q:∀ h',IsZip h' (s.heap.objs.size + 4) (s.heap.objs.size + 2) (s.heap.objs.size + 3) .none→IsPair h' (s.heap.objs.size + 2) (.ref s.heap.objs.size) (.ref (s.heap.objs.size + 1))→IsPair h' (s.heap.objs.size + 3) .none .none →
      h'.IsListIter s.heap.objs.size t1 0→cz h' (s.heap.objs.size + 1) t2 0→(∀ b o,s.heap.get? b = some o→h'.get? b = some o)→Q (.ref (s.heap.objs.size + 4)) { s with heap:=h' }):wpAny (model prog w) A (call (.type "zip") [.ref t1,.ref t2]) Q E s :=
  callType_new PySem.F.called_zip (by decide) (PySem.F.typeCall_zip_2 _ _) (PySem.F.newCall_zip_2 _ _) (fun o=>PySem.F.args_object_init_3 o _ _) PySem.F.entry_zip_new (yo t1 t2 xs ys) ⟨a1,a2,fun h' z1 z2 z3 z4 z5 kk=>⟨⟨_,z1,rfl⟩,q h' z1 z2 z3 z4 z5 kk⟩⟩
def Itm (K:PySem.W.Frag) (a b:Addr) (xs ys:List V):It:=⟨fun i H=>i < xs.length∧i < ys.length∧SqL K H a xs∧SqT K H b ys,fun i H x H'=>∃ p u v,H p = none∧x = .ref p∧xs[i]? = some u∧ys[i]? = some v∧H' = upd H p (.tup [u,v]),fun i H=>i = xs.length∧SqL K H a xs⟩
theorem vm {P:Program} {w:World} {K:PySem.W.Frag} {elts:List Expr} {c1} {ps:Pos} (a b z TI TO i1 i2:Addr) (xs ys:List V) (D:ZipApart z TI TO i1 i2 a b):mO P w K (.Tuple elts c1 ps) (Itm K a b xs ys) [z,TI,TO,i1,i2] z
    (fun i h=>∃ c d,IsZip h z TI TO .none∧IsPair h TI (.ref i1) (.ref i2)∧IsPair h TO c d∧h.IsListIter i1 a i∧cz h i2 b i) where
  mem:=by simp
  obj:=fun i h ⟨c,d,q1,q2,q3,q4,q5⟩ b hb=>by
    simp only [List.mem_cons,List.not_mem_nil,or_false] at hb
    rcases hb with rfl | rfl | rfl | rfl | rfl
    · exact ⟨_,q1,fun v e=>by cases e⟩
    · exact ⟨_,q2,fun v e=>by cases e⟩
    · exact ⟨_,q3,fun v e=>by cases e⟩
    · obtain ⟨o,e,c,d⟩:=q4; exact ⟨o,e,fun v z=>by rw [d] at z; cases z⟩
    · exact ⟨_,q5,fun v e=>by cases e⟩
  keep:=fun i h h' ⟨c,d,q1,q2,q3,q4,q5⟩ k=>⟨c,d,k z (by simp) _ q1,k TI (by simp) _ q2,k TO (by simp) _ q3,q4.at fun o e=>k i1 (by simp) o e,k i2 (by simp) _ q5⟩
  item:=by
    intro X hP hw hK hc i pins s σ H E I hf st hg
    subst hP hw hK
    obtain ⟨c,d,q1,q2,q3,q4,q5⟩:=st
    obtain ⟨hi,hj,ha,hb⟩:=hg
    obtain ⟨us,ru,pu,_⟩:=I.list ha
    obtain ⟨vs,rv,pv,_⟩:=I.tuple hb
    have hx:xs[i]? = some xs[i]:=List.getElem?_eq_getElem hi
    have hy:ys[i]? = some ys[i]:=List.getElem?_eq_getElem hj
    obtain ⟨u,hu,r1⟩:=ru.get hx
    obtain ⟨v,hv,r2⟩:=rv.get hy
    have ty:s.TypeIs (.ref z) "zip":=⟨_,q1,rfl⟩
    unfold pyNext
    refine wpAny_bind (wpAny_attempt (wpAny_callSpecial?_slot (name:=Str.ofString "__next__") ty PySem.F.slot_zip_next (wpAny_call_entry PySem.F.slot_zip_next ty PySem.F.entry_zip_next ?_ (PySem.F.args_zip_next_1 _))))
    refine vp (x:=u) (y:=v) q1 q2 q3 q4 q5 (show s.heap.IsList a us.toArray from pu.isList) (show s.heap.IsTuple b vs.toArray from pv) (by simpa using hu) (by simpa using hv) D fun h' w1 w2 w3 w4 w5 w6=>wpAny_pure ⟨_,rfl,?_⟩
    refine wpAny_letOwnedTupleGo_zip (s:={ s with heap:=h' }) w1 fun h2 e2 same=>?_
    replace same:Heap.SameBut z h' h2:=same
    have lz:z < s.heap.objs.size:=Heap.lt_size q1
    have lTI:TI < s.heap.objs.size:=Heap.lt_size q2
    have lTO:TO < s.heap.objs.size:=Heap.lt_size q3
    have l1:i1 < s.heap.objs.size:=by obtain ⟨o,e,_⟩:=q4; exact Heap.lt_size e
    have l2:i2 < s.heap.objs.size:=Heap.lt_size q5
    have low:∀ b ∈ [z,TI,TO,i1,i2],b < s.heap.objs.size:=fun b hb=>by
      simp only [List.mem_cons,List.not_mem_nil,or_false] at hb
      rcases hb with rfl | rfl | rfl | rfl | rfl <;> assumption
    have tup2:h2.get? s.heap.objs.size = some { cls:=.type "tuple",data:=.seq #[u,v] }:=(same.2 _ (Nat.ne_of_gt lz)).trans w5
    have I1:Inv X pins σ (upd H s.heap.objs.size (.tup [xs[i],ys[i]])) { s with heap:=s.heap.push { cls:=.type "tuple",data:=.seq #[u,v] },toks:=s.toks } :=
      I.laid (o:=.tup [xs[i],ys[i]]) (fun b ob q=>Heap.get?_push_of_some _ q) (Nat.le_refl _) ⟨by rw [sizeLine_eq]; simp,[u,v],.cons r1 (.cons r2 .nil),IsTup.new _ _⟩
    have frees:∀ b,b < s.heap.objs.size→upd H s.heap.objs.size (.tup [xs[i],ys[i]]) b = H b:=fun b hb=>aJ (Nat.ne_of_lt hb)
    have I2:Inv X pins σ (upd H s.heap.objs.size (.tup [xs[i],ys[i]])) { s with heap:=h2,toks:=s.toks }:=by
      refine Inv.turnedL (s:={ s with heap:=s.heap.push { cls:=.type "tuple",data:=.seq #[u,v] },toks:=s.toks }) (h':=h2) (its:=[z,TI,TO,i1,i2]) (t':=s.toks) I1 (fun b o hb q=>?_) (fun b hb=>?_)
      · simp only [List.mem_cons,List.not_mem_nil,or_false,not_or] at hb
        obtain ⟨n1,n2,n3,n4,n5⟩:=hb
        by_cases hbs:b = s.heap.objs.size
        · subst hbs
          have q':(s.heap.push { cls:=.type "tuple",data:=.seq #[u,v] }).get? s.heap.objs.size = some o:=q
          rw [Heap.get?_push_at rfl rfl] at q'
          cases q'
          exact tup2
        · have q':s.heap.get? b = some o:=(Heap.get?_push_ne _ _ _ hbs).symm.trans q
          exact (same.2 b n1).trans (w6 b o n1 n3 n4 n5 q')
      · obtain ⟨f0,f1,f2,f3,f4,f5⟩:=hf b hb
        exact ⟨by rw [frees b (low b hb)]; exact f0,f1,f3,f4,f5⟩
    refine ⟨.ref s.heap.objs.size,_,I2,rfl,⟨_,_,_,I.hok.fresh (Nat.le_refl _),rfl,hx,hy,rfl⟩,⟨u,v,e2,?_,?_,?_,?_⟩,fun b hb=>?_⟩
    · exact (same.2 TI D.TIz).trans (w6 TI _ D.TIz D.TITO D.TIi1 D.TIi2 q2)
    · exact (same.2 TO D.TOz).trans w2
    · exact w3.at fun o e=>(same.2 i1 D.i1z).trans e
    · exact (same.2 i2 D.i2z).trans w4
    · rw [frees b (low b hb)]; exact (hf b hb).1
  done:=by
    intro X hP hw hK hc i pins s σ H E I hf st hg
    subst hP hw hK
    obtain ⟨c,d,q1,q2,q3,q4,q5⟩:=st
    obtain ⟨hi,ha⟩:=hg
    obtain ⟨us,ru,pu,_⟩:=I.list ha
    have lr:=ru.length
    have ty:s.TypeIs (.ref z) "zip":=⟨_,q1,rfl⟩
    unfold pyNext
    refine wpAny_bind (wpAny_attempt (wpAny_callSpecial?_slot (name:=Str.ofString "__next__") ty PySem.F.slot_zip_next (wpAny_call_entry PySem.F.slot_zip_next ty PySem.F.entry_zip_next ?_ (PySem.F.args_zip_next_1 _))))
    refine vn (I.ok.hd hc) q1 q2 q3 q4 (show s.heap.IsList a us.toArray from pu.isList) (by simp; omega) D fun h' e kk ⟨o,ho,hco⟩=>?_
    refine wpAny_bind (wpAny_isInstance (T:="StopIteration") (b:=true) ⟨o,ho,hco⟩ isSubtype_stop (wpAny_pure ⟨rfl,?_⟩))
    refine Inv.turnedL (s:=s) (h':=h') (its:=[z,i1]) (t':=s.toks) I (fun b o hb q=>kk b o (fun y=>hb (by simp [y])) (fun y=>hb (by simp [y])) q) (fun b hb=>?_)
    obtain ⟨f0,f1,f2,f3,f4,f5⟩:=hf b (by
      simp only [List.mem_cons,List.not_mem_nil,or_false] at hb
      rcases hb with rfl | rfl <;> simp)
    exact ⟨f0,f1,f3,f4,f5⟩
  self:=fun A i s Q E ⟨_,_,q1,_⟩ q=>wpAny_pyIter_zip q1 q
def zT (K:PySem.W.Frag) (ta:TA):TI:=fun σ H R=>ta σ H fun vs H1=>∃ a b xs ys,vs = [.ref a,.ref b]∧SqL K H1 a xs∧SqT K H1 b ys∧R (Itm K a b xs ys) H1
theorem zj {X:Cx} {a b:Expr} {ta:TA} {p pos ps:Pos} {elts:List Expr} {c1} (hg:Gl X "zip") (hm:X.mg "zip" = none) (ha:PA X [a,b] ta) (hs:starEach [a,b] X.env = (false,eval a X.env) :: starEach [b] X.env:=by rfl) (hpl:(backTo pos (starEach [b] X.env)).any (·.1) = false:=by rfl) :
    PI X (.Tuple elts c1 ps) (.Call (.Name "zip" p) [a,b] [] pos) (zT X.K ta):=by
  intro pins s σ H R I h
  refine Call_ (kg I hg hm vS (PyProof.Rows.callWith_type1 (thn (ha pos pins s σ H _ I h) fun us s1 ⟨vs,H1,I1,r1,q1⟩=>?_) hs hpl))
  obtain ⟨t1,t2,xs,ys,ev,hq1,hq2,q⟩:=q1
  subst ev
  cases r1 with
  | cons e1 rt =>
    obtain ⟨u2,rfl,e2⟩:=gv rt
    cases e1
    cases e2
    obtain ⟨us,ru,pu,_⟩:=I1.list hq1
    obtain ⟨vs,rv,pv,_⟩:=I1.tuple hq2
    have lt1:t1 < s1.heap.objs.size:=by obtain ⟨o,e,_⟩:=pu.isList; exact Heap.lt_size e
    have lt2:t2 < s1.heap.objs.size:=pv.lt
    refine uv pu.isList pv fun h' z1 z2 z3 z4 z5 kk=>?_
    refine wpAny_pyIter_zip (s:={ s1 with heap:=h' }) z1 ?_
    have ne:∀ {x y:Nat},x < y→x ≠ y:=fun h=>Nat.ne_of_lt h
    have gt:∀ {x y:Nat},y < x→x ≠ y:=fun h=>Nat.ne_of_gt h
    have ap:ZipApart (s1.heap.objs.size + 4) (s1.heap.objs.size + 2) (s1.heap.objs.size + 3) s1.heap.objs.size (s1.heap.objs.size + 1) t1 t2 :=
      ⟨ne (by omega),ne (by omega),ne (by omega),ne (by omega),ne (by omega),gt (by omega),gt (by omega),gt (by omega),gt (by omega),ne (by omega),ne (Nat.lt_of_lt_of_le lt1 (by omega)),ne (Nat.lt_of_lt_of_le lt1 (by omega)),ne lt1,ne (Nat.lt_of_lt_of_le lt1 (by omega)),
        ne (Nat.lt_of_lt_of_le lt2 (by omega)),ne (Nat.lt_of_lt_of_le lt2 (by omega)),ne lt2,ne (Nat.lt_of_lt_of_le lt2 (by omega))⟩
    refine ⟨s1.heap.objs.size + 4,[s1.heap.objs.size + 4,s1.heap.objs.size + 2,s1.heap.objs.size + 3,s1.heap.objs.size,s1.heap.objs.size + 1],_,_,H1,rfl,I1.kept (t':=s1.toks) kk,vm t1 t2 _ _ _ _ _ xs ys ap,⟨.none,.none,z1,z2,z3,z4,z5⟩,fun b hb=>?_,q⟩
    have lb:s1.heap.objs.size ≤ b:=by
      simp only [List.mem_cons,List.not_mem_nil,or_false] at hb
      rcases hb with rfl | rfl | rfl | rfl | rfl
      · exact Nat.le_add_right _ _
      · exact Nat.le_add_right _ _
      · exact Nat.le_add_right _ _
      · exact Nat.le_refl _
      · exact Nat.le_add_right _ _
    exact I1.fpOk lb (I1.hok.fresh lb)
end L2
end
section
namespace L2
open PySem PySem.Spec PySem.Calls PyProof.Rows
theorem zt {K:PySem.W.Frag} {σ:St} {H:Hp} {ta:TA} {te:TE} {mk:St→St} {i j:Nat} {cs ds:List D} (h:RA K ta σ H [.tup cs,.tup ds]) (hl:cs.length = ds.length) (hc:cs.length ≤ 1000) (ess:List (List D)) (hn:ess.length = cs.length) (ne:i ≠ j)
    (h0:((mk σ).set i none).set j none = mk σ)
    (turn:∀ H1 (k:Nat) c d es v w,Same H H1→cs[k]? = some c→ds[k]? = some d→ess[k]? = some es→Dat K H1 c v→Dat K H1 d w→RC K te (((mk σ).set i (some v)).set j (some w)) H1 es) :
    RCL K (fC (yI K ta) mk (qo K 2 (fY (bX i) (fY (bX j) rP))) dN te) σ H ess:=fun H1 s Q q=>by
  refine h H1 s _ fun vs H2 s2 q2=>?_
  obtain ⟨v1,v2,e,k1,k2⟩:=fA q2
  subst e
  obtain ⟨a,us,e1,ha,da⟩:=k1.tupE
  obtain ⟨b,ws,e2,hb,db⟩:=k2.tupE
  subst e1 e2
  have lu:=da.length
  have lw:=db.length
  refine ⟨a,b,us,ws,rfl,ha,hb,fun l hl2=>?_⟩
  have s02:Same H H2:=s.trans s2
  refine ⟨fun n m σ' G=>m = us.length - n∧n ≤ us.length∧(∃ z1 z2,σ' = ((mk σ).set i z1).set j z2)∧Same H2 G∧∃ ys,G l = some (.lst ys)∧LDs K G (ess.take n) ys∧Off K G l ys,⟨us.length,by omega,Nat.zero_le _,⟨none,none,h0.symm⟩,aD hl2 _,[],au,by rw [List.take_zero]; exact .nil,fun v hv=>by cases hv⟩,?_⟩
  rintro n m σ' G ⟨rfl,hle,⟨z1,z2,rfl⟩,sG,ys,hy,dy,off⟩
  by_cases hlt:n < us.length
  · refine .inr ⟨⟨hlt,by omega,sG.sqT ha,sG.sqT hb⟩,fun σ'' G'=>(∃ z1 z2,σ'' = ((mk σ).set i z1).set j z2)∧Same H2 G'∧∃ ys,G' l = some (.lst ys)∧LDs K G' (ess.take (n + 1)) ys∧Off K G' l ys,fun σ'' G' w=>⟨us.length - (n + 1),by omega,rfl,hlt,w.1,w.2⟩,fun x G' y=>?_⟩
    obtain ⟨p,u,w,hp,rfl,hu,hw,rfl⟩:=y
    have sn:Same G (upd G p (.tup [u,w])):=aD hp _
    have s2n:=sG.trans sn
    obtain ⟨c,ec,hcv⟩:=da.getV hu
    obtain ⟨d,ed,hdv⟩:=db.getV hw
    have hne:n < ess.length:=by omega
    refine ⟨p,[u,w],rfl,SqT.of au,rfl,u,_,rfl,w,_,rfl,rfl,?_⟩
    simp only [dN,if_true]
    rw [lB _ ne]
    refine RC.use (turn _ n c d ess[n] u w (s02.trans s2n) ec ed (List.getElem?_eq_getElem hne) (s2n.dat hcv) (s2n.dat hdv)) fun r zs G4 hr s4 hz dz=>?_
    have hy4:=s4 _ _ (sn _ _ hy)
    have nrl:r ≠ l:=fun z=>by rw [z,sn _ _ hy] at hr; cases hr
    have lys:ys.length = n:=by rw [← dy.length,List.length_take]; omega
    refine ⟨ys,hy4,bJ (by omega),⟨_,_,rfl⟩,fun x o hx=>?_,ys ++ [.ref r],au,?_,?_⟩
    · rw [aJ (az hx hl2)]
      exact s4 _ _ (s2n _ _ hx)
    · have bl:But l G4 (upd G4 l (.lst (ys ++ [.ref r]))):=But.upd (Same.refl G4).but
      have g:cQ K G4 (upd G4 l (.lst (ys ++ [.ref r]))):=bl.grow hy4 au
      rw [List.take_add_one,List.getElem?_eq_getElem hne]
      exact LDs.snoc (LDs.grown (s4.lds (sn.lds dy)) off bl hy4 au) (LD.of (bl _ _ nrl hz) (Dats.mono g _ dz))
    · intro v hv
      rcases List.mem_append.mp hv with hv | hv
      · exact off v hv
      · rw [List.mem_singleton.mp hv]
        exact fun z=>nrl (by injection z)
  · have e:n = us.length:=by omega
    subst e
    refine .inl ⟨⟨rfl,sG.sqT ha⟩,?_⟩
    rw [List.take_of_length_le (by omega)] at dy
    exact q l ys G (s2.free hl2) (s2.trans sG) hy dy
theorem tW {K:PySem.W.Frag} {σ:St} {H:Hp} {tl te:TE} {tt:TT} {mk:St→St} {jj:Nat} {cs:List D} (h:RL K tl σ H cs) (hc:cs.length ≤ 1000) (p:D→Bool) (h0:(mk σ).set jj none = mk σ)
    (turn:∀ H1 (i:Nat) c v,Same H H1→cs[i]? = some c→Dat K H1 c v→RT tt ((mk σ).set jj (some v)) H1 (p c)∧RE K te ((mk σ).set jj (some v)) H1 c):RC K (fC (qy K tl) mk (bX jj) tt te) σ H (cs.filter p):=fun H1 s Q q=>by
  refine (h.mono s).use fun v4 H4 s4 q4=>?_
  obtain ⟨l4,ys4,rfl,hy4,hd4⟩:=q4
  have ll:=hd4.length
  refine ⟨l4,rfl,⟨ys4,hy4.sqL⟩,fun l hl=>?_⟩
  refine iy (J:=Itl K l4) (n:=ys4.length) (item:=fun i=>ys4.getD i .non) (fun G=>SqL K G l4 ys4) (fun i G o hi=>lR i G o hi) (fun G o=>⟨ys4,o,Nat.le_refl _⟩) h0 l (fun i G=>Same H4 G∧∃ zs,G l = some (.lst zs)∧Dats K G ((cs.take i).filter p) zs) ⟨aD hl _,[],au,by rw [List.take_zero]; exact Dats.nil⟩ (fun i G _ w=>w.1.seq hy4.sqL) (fun i G hi w=>?_) (fun G w=>?_)
  · obtain ⟨sG,zs,hz,dz⟩:=w
    have hic:i < cs.length:=by omega
    obtain ⟨vz,ez,hv⟩:=(sG.dats hd4).get (List.getElem?_eq_getElem hic)
    have e1:ys4.getD i .non = vz:=by rw [List.getD_eq_getElem?_getD,ez]; rfl
    simp only [e1]
    obtain ⟨t1,t2⟩:=turn G i cs[i] vz (s.trans (s4.trans sG)) (List.getElem?_eq_getElem hic) hv
    have et:cs.take (i + 1) = cs.take i ++ [cs[i]]:=by rw [List.take_add_one,List.getElem?_eq_getElem hic]; rfl
    have lz:zs.length ≤ 1000:=by
      rw [← dz.length]
      exact Nat.le_trans (List.length_filter_le _ _) (by rw [List.length_take]; omega)
    have lz':zs.length < 1000:=by
      rw [← dz.length]
      exact Nat.lt_of_le_of_lt (List.length_filter_le _ _) (by rw [List.length_take]; omega)
    refine t1.use fun G2 s2=>?_
    cases hp:p cs[i] with
    | true =>
      refine jH ((t2.mono s2).use fun v3 G3 s3 q3=>?_)
      have hz3:=(s2.trans s3) _ _ hz
      have bl:But l G3 (upd G3 l (.lst (zs ++ [v3]))):=But.upd (Same.refl G3).but
      have g:cQ K G3 (upd G3 l (.lst (zs ++ [v3]))):=bl.grow hz3 au
      refine ⟨zs,hz3,bJ (by omega),⟨_,rfl⟩,fun x o hx=>?_,zs ++ [v3],au,?_⟩
      · rw [aJ (az hx hl)]
        exact (s2.trans s3) _ _ (sG _ _ hx)
      · rw [et,List.filter_append]
        have e2:[cs[i]].filter p = [cs[i]]:=by rw [List.filter_cons,if_pos hp]; rfl
        rw [e2]
        exact Dats.append (Dats.mono g _ ((s2.trans s3).dats dz)) (Dats.cons (Dat.mono g _ q3) Dats.nil)
    | false =>
      refine kR ⟨⟨_,rfl⟩,sG.trans s2,zs,s2 _ _ hz,?_⟩
      rw [et,List.filter_append]
      have e2:[cs[i]].filter p = []:=by rw [List.filter_cons,if_neg (by rw [hp]; exact Bool.false_ne_true)]; rfl
      rw [e2,List.append_nil]
      exact s2.dats dz
  · obtain ⟨sG,zs,hz,dz⟩:=w
    rw [← ll,List.take_length] at dz
    exact q l zs G (s4.free hl) (s4.trans sG) hz dz
theorem kY {X:Cx} {K:PySem.W.Frag} {es:List Expr} {k:Nat} {t:TGs} {n:Nat} {pos:Pos} (hK:X.K = K) (hc:X.calm = true) (h:PGs X es t)
    (hn:(assignEach es X.env).length = n:=by rfl) (hst:(assignEach es X.env).findIdx? (·.1) = none:=by rfl):PG X (.Tuple es k pos) (qo K n t):=by
  subst hK
  exact eQ hc h hn hst
end L2
end
section
namespace L2
open PySem PySem.Spec PySem.Calls PyProof.Rows
def OD (K:PySem.W.Frag) (H:Hp):Option (List D)→V→Prop
  | none,v=>v = .non
  | some es,v=>LD K H es v
inductive LOs (K:PySem.W.Frag) (H:Hp):List (Option (List D))→List V→Prop
  | nil:LOs K H [] []
  | cons {o:Option (List D)} {v:V} {os:List (Option (List D))} {vs:List V}:OD K H o v→LOs K H os vs→LOs K H (o :: os) (v :: vs)
section
variable {K:PySem.W.Frag} {σ:St} {H H':Hp} {d d':D} {ds es:List D} {t u ta tb te tl:TE} {tA:TA} {mk:St→St} {jj:Nat} {o:Option (List D)} {os:List (Option (List D))} {vs:List V} {ar:List Ar}
theorem Same.od {v:V} (e:Same H H') (h:OD K H o v):OD K H' o v:=by
  cases o with
  | none=>exact h
  | some es=>exact e.ld h
theorem LOs.length (h:LOs K H os vs):os.length = vs.length:=by
  induction h with
  | nil=>rfl
  | cons _ _ ih=>simp [ih]
theorem Same.los (e:Same H H') (h:LOs K H os vs):LOs K H' os vs:=by
  induction h with
  | nil=>exact .nil
  | cons k _ ih=>exact .cons (e.od k) ih
theorem LOs.snoc {v:V} (h:LOs K H os vs) (h1:OD K H o v):LOs K H (os ++ [o]) (vs ++ [v]):=by
  induction h with
  | nil=>exact .cons h1 .nil
  | cons k _ ih=>exact .cons k ih
theorem LOs.grown {l:Addr} {zs zs':List V} (h:LOs K H os vs) (off:Off K H l vs) (e:But l H H') (h1:H l = some (.lst zs)) (h2:H' l = some (.lst zs')):LOs K H' os vs:=by
  have g:cQ K H H':=e.grow h1 h2
  induction h with
  | nil=>exact .nil
  | @cons o v os vs k _ ih =>
    refine .cons ?_ (ih fun v hv=>off v (List.mem_cons_of_mem _ hv))
    cases o with
    | none=>exact k
    | some es =>
      obtain ⟨a,us,rfl,ha,hd⟩:=k
      have na:a ≠ l:=fun z=>off _ List.mem_cons_self (by rw [z])
      exact ⟨a,us,rfl,ha.elim (fun z=>.inl (e _ _ na z)) .inr,Dats.mono g _ hd⟩
theorem LOs.all:∀ {ess:List (List D)} {vs:List V},LOs K H (ess.map some) vs→LDs K H ess vs
  | [],_,h=>by cases h; exact .nil
  | es :: ess,_,h=>by
    cases h with
    | cons k r=>exact .cons k (LOs.all r)
theorem LOs.lst (h:LOs K H os vs):(∀ v ∈ vs,v = .non∨∃ a us,v = .ref a∧SqL K H a us)∧(vs.any fun v=>decide (v = .non)) = os.any Option.isNone:=by
  induction h with
  | nil=>exact ⟨(fun v hv=>by cases hv),rfl⟩
  | @cons o v os vs k _ ih =>
    refine ⟨fun x hx=>?_,?_⟩
    · rcases List.mem_cons.mp hx with rfl | hx
      · cases o with
        | none=>exact .inl k
        | some es=>obtain ⟨a,us,e,h1,_⟩:=k; exact .inr ⟨a,us,e,h1.sqL⟩
      · exact ih.1 x hx
    · rw [List.any_cons,List.any_cons,ih.2]
      cases o with
      | none=>rw [show v = .non from k]; rfl
      | some es=>obtain ⟨a,us,e,_⟩:=k; rw [e]; rfl
def RO (K:PySem.W.Frag) (t:TE) (σ:St) (H:Hp) (o:Option (List D)):Prop:=∀ H1,Same H H1→∀ Q:VK,(o = none→∀ H',Same H1 H'→Q .non H')→(∀ es,o = some es→∀ l ys H',H1 l = none→Same H1 H'→H' l = some (.lst ys)→Dats K H' es ys→Q (.ref l) H')→t σ H1 Q
def va (K:PySem.W.Frag) (R:List Ar→Option (List D)→Prop):Sp:=fun vs H Q _=>∃ as o,Ars K H as vs∧R as o∧(o = none→∀ H',Same H H'→Q .non H')∧∀ es,o = some es→∀ r us H',Same H H'→H' r = some (.lst us)→H r = none→Dats K H' es us→Q (.ref r) H'
theorem iI {R:List Ar→Option (List D)→Prop} {E:XK} (h:RB K tA σ H ar) (e:R ar o):RO K (fB (va K R) [] E tA) σ H o:=fun H1 s Q q0 q1 =>
  h H1 s _ fun vs H2 s2 q2=>⟨ar,o,by rw [List.append_nil]; exact q2,e,fun z H3 s3=>q0 z H3 (s2.trans s3),fun es z r us H3 s3 hr hr0 hd=>q1 es z r us H3 (s2.free hr0) (s2.trans s3) hr hd⟩
def RCO (K:PySem.W.Frag) (t:TE) (σ:St) (H:Hp) (os:List (Option (List D))):Prop:=∀ H1,Same H H1→∀ Q:VK,(∀ l ys H',H1 l = none→Same H1 H'→H' l = some (.lst ys)→LOs K H' os ys→Q (.ref l) H')→t σ H1 Q
theorem RCO.use {Q:VK} (h:RCO K t σ H os) (q:∀ l ys H',H l = none→Same H H'→H' l = some (.lst ys)→LOs K H' os ys→Q (.ref l) H'):t σ H Q:=h H (Same.refl H) Q q
def z7 (K:PySem.W.Frag):R2:=fun x y H Q=>∃ p xs,x = .non∧y = .ref p∧SqL K H p xs∧(∀ v ∈ xs,v = .non∨∃ a vs,v = .ref a∧SqL K H a vs)∧Q (.bl (xs.any fun v=>decide (v = .non))) H
def jG:Value→Bool
  | .none=>true
  | _=>false
theorem tR {X:Cx} {k:Nat} (hr:Room k X.A):OpR X (compareOp .In) (z7 X.K):=by
  intro pins s σ H x y v u Q I rx ry h
  obtain ⟨p,xs,rfl,rfl,hq,hls,q⟩:=h
  cases ry
  cases rx
  obtain ⟨its,r,pl,hz⟩:=I.list hq
  have hu:X.A.in1.units < cLine:=by have:=hr.un; show X.A.units + 1 < cLine; omega
  have each:∀ (zs:List V) (ws:List Value),Vals zs ws→(∀ v ∈ zs,v = .non∨∃ a vs,v = .ref a∧SqL X.K H a vs)→(∀ w ∈ ws,SeqAt.EqAt X.A.in1 s w .none (jG w))∧ws.any jG = zs.any fun v=>decide (v = .non):=by
    intro zs ws rr
    induction rr with
    | nil=>intro _; exact ⟨(fun w hw=>by cases hw),rfl⟩
    | cons r1 _ ih =>
      intro hv
      have ih:=ih fun v h=>hv v (List.mem_cons_of_mem _ h)
      rcases hv _ List.mem_cons_self with rfl | ⟨a,vs,rfl,hs⟩
      · cases r1
        refine ⟨fun w hw=>?_,by rw [List.any_cons,List.any_cons,ih.2]; rfl⟩
        rcases List.mem_cons.mp hw with rfl | hw
        · exact SeqAt.EqAt.same _
        · exact ih.1 w hw
      · obtain ⟨js,_,pj,_⟩:=I.list hs
        cases r1
        refine ⟨fun w hw=>?_,by rw [List.any_cons,List.any_cons,ih.2]; rfl⟩
        rcases List.mem_cons.mp hw with rfl | hw
        · exact SeqAt.EqAt.list_none pj.isList hu
        · exact ih.1 w hw
  have ea:=each xs its r hls
  refine SeqAt.in_listAt jG pl.isList (fun w hw=>ea.1 w (by simpa using hw)) ⟨.bl _,H,I,rfl,?_⟩
  rw [show its.toArray.any jG = its.any jG by simp,ea.2]
  exact q
theorem tX {k:Nat} {l:Addr} {ys:List V} (hl:H l = some (.lst ys)) (hd:LOs K H os ys) (hv:σ[k]? = some (some (.ref l)):=by rfl):RE K (tOp (z7 K) (tC .non) (dJ k)) σ H (.bl (os.any Option.isNone)):=fun H1 s Q q=>by
  have z:=(s.los hd).lst
  exact ⟨_,hv,l,ys,rfl,rfl,SqL.of (s _ _ hl),z.1,by rw [z.2]; exact q _ _ (Same.refl _) (Dat.blI _)⟩
theorem iK:∀ {os:List (Option (List D))},os.any Option.isNone = false→∃ ess:List (List D),os = ess.map some
  | [],_=>⟨[],rfl⟩
  | none :: os,h=>by cases h
  | some es :: os,h=>by
    rw [List.any_cons] at h
    obtain ⟨ess,e⟩:=iK (os:=os) (by simpa using h)
    exact ⟨es :: ess,by rw [e]; rfl⟩
theorem zE {En:Ends} {G:Hp} {j:Nat} {l:Addr} {xs:List V} (h:RC K te σ G es) (hl:G l = some (.lst xs)) (hx:xs.length + es.length ≤ 1000)
    (q:∀ ys G',But l G G'→G' l = some (.lst (xs ++ ys))→Dats K G' es ys→En.nx σ G') (hv:σ[j]? = some (some (.ref l)):=by rfl):nS (tBM K "list" o8 (dJ j) (bD te dt)) En σ G:=by
  refine ⟨_,hv,.inl ⟨rfl,_,SqL.of hl⟩,h.use fun p vs H1 hp s1 hv1 q1=>?_⟩
  have hl1:=s1 _ _ hl
  have lv:=q1.length
  refine ⟨l,p,xs,vs,rfl,rfl,hl1,hv1,bW (by omega),?_⟩
  have b:But l H1 (upd H1 l (.lst (xs ++ vs))):=But.upd (Same.refl _).but
  exact q vs _ (s1.but.trans b) au (Dats.mono (b.grow hl1 au) _ q1)
end
theorem yF {K:PySem.W.Frag} {a b:Addr} {xs ys:List V} {g:TG} {tb:TS} {D:Ends} {σ:St} {H:Hp} (Pv:Nat→St→Hp→Prop) (ll:xs.length = ys.length) (h0:Pv 0 σ H) (hl:∀ i σ H,i ≤ xs.length→Pv i σ H→SqT K H a xs∧SqT K H b ys)
    (hs:∀ i u v p σ H,xs[i]? = some u→ys[i]? = some v→H p = none→Pv i σ H→g (.ref p) σ (upd H p (.tup [u,v])) fun σ2 H2=>tb { D with nx:=Pv (i + 1),ct:=Pv (i + 1),bk:=D.nx } σ2 H2) (hd:∀ σ H,Pv xs.length σ H→D.nx σ H) :
    ∃ W:Nat→Nat→St→Hp→Prop,(∃ m,W 0 m σ H)∧∀ i m σ H,W i m σ H →
      ((Itz K a b xs ys).stop i H∧D.nx σ H)∨((Itz K a b xs ys).go i H∧∃ N:St→Hp→Prop,(∀ σ' H',N σ' H'→∃ m',m' < m∧W (i + 1) m' σ' H')∧∀ x H',(Itz K a b xs ys).yld i H x H'→g x σ H' fun σ2 H2=>tb { D with nx:=N,ct:=N,bk:=D.nx } σ2 H2):=by
  refine ⟨fun i m σ H=>m = xs.length - i∧i ≤ xs.length∧Pv i σ H,⟨xs.length,by simp,Nat.zero_le _,h0⟩,?_⟩
  rintro i m σ H ⟨rfl,hi,p⟩
  have q:=hl i σ H hi p
  by_cases hlt:i < xs.length
  · refine .inr ⟨⟨hlt,by omega,q.1,q.2⟩,Pv (i + 1),fun σ' H' p'=>⟨xs.length - (i + 1),by omega,rfl,hlt,p'⟩,fun x H' y=>?_⟩
    obtain ⟨r,u,v,hr,rfl,hu,hv,rfl⟩:=y
    exact hs i u v r σ H hu hv hr p
  · have e:i = xs.length:=by omega
    subst e
    exact .inl ⟨⟨rfl,q.1⟩,hd σ H p⟩
def BE (K:PySem.W.Frag) (n:Nat) (t:TGs):TG:=fun v σ H Q=>∃ a xs,v = .ref a∧SqL K H a xs∧xs.length = n∧t xs σ H Q
theorem zi {X:Cx} {es:List Expr} {k:Nat} {t:TGs} {n:Nat} {pos:Pos} (hc:X.calm = true) (h:PGs X es t)
    (hn:(assignEach es X.env).length = n:=by rfl) (hst:(assignEach es X.env).findIdx? (·.1) = none:=by rfl):PG X (.Tuple es k pos) (BE X.K n t):=fun pins s σ H v u Q I r ⟨a,xs,ev,hq,hl,hw⟩=>by
  subst ev
  cases r
  obtain ⟨its,rv,pl,hz⟩:=I.list hq
  have en:(assignEach es X.env).length = its.toArray.size:=by rw [hn,← hl,rv.length,List.size_toArray]
  rw [assign_Tuple]
  refine wpAny_bind (wpAny_standAt ?_)
  unfold unpack
  rw [en,hst]
  refine wpAny_bind (wpAny_holding (PySem.W.kun_itemsOf (I.ok.hd hc) pl.isList fun h' hx=>?_))
  exact h pins _ σ H xs _ Q (I.kept (t':=s.toks) fun b o e=>hx b o (Nat.ne_of_lt (Heap.lt_size e)) e) (by simpa using rv) hw
theorem zu {K:PySem.W.Frag} {σ:St} {H:Hp} {ta:TA} {te:TE} {mk:St→St} {i j:Nat} {cs ds:List D} (h:RA K ta σ H [.tup cs,.tup ds]) (hl:cs.length = ds.length) (hc:cs.length ≤ 1000) (os:List (Option (List D))) (hn:os.length = cs.length) (ne:i ≠ j)
    (h0:((mk σ).set i none).set j none = mk σ)
    (turn:∀ H1 (k:Nat) c d o v w,Same H H1→cs[k]? = some c→ds[k]? = some d→os[k]? = some o→Dat K H1 c v→Dat K H1 d w→RO K te (((mk σ).set i (some v)).set j (some w)) H1 o) :
    RCO K (fC (yI K ta) mk (qo K 2 (fY (bX i) (fY (bX j) rP))) dN te) σ H os:=fun H1 s Q q=>by
  refine h H1 s _ fun vs H2 s2 q2=>?_
  obtain ⟨v1,v2,e,k1,k2⟩:=fA q2
  subst e
  obtain ⟨a,us,e1,ha,da⟩:=k1.tupE
  obtain ⟨b,ws,e2,hb,db⟩:=k2.tupE
  subst e1 e2
  have lu:=da.length
  have lw:=db.length
  refine ⟨a,b,us,ws,rfl,ha,hb,fun l hl2=>?_⟩
  have s02:Same H H2:=s.trans s2
  refine ⟨fun n m σ' G=>m = us.length - n∧n ≤ us.length∧(∃ z1 z2,σ' = ((mk σ).set i z1).set j z2)∧Same H2 G∧∃ ys,G l = some (.lst ys)∧LOs K G (os.take n) ys∧Off K G l ys,⟨us.length,by omega,Nat.zero_le _,⟨none,none,h0.symm⟩,aD hl2 _,[],au,by rw [List.take_zero]; exact .nil,fun v hv=>by cases hv⟩,?_⟩
  rintro n m σ' G ⟨rfl,hle,⟨z1,z2,rfl⟩,sG,ys,hy,dy,off⟩
  by_cases hlt:n < us.length
  · refine .inr ⟨⟨hlt,by omega,sG.sqT ha,sG.sqT hb⟩,fun σ'' G'=>(∃ z1 z2,σ'' = ((mk σ).set i z1).set j z2)∧Same H2 G'∧∃ ys,G' l = some (.lst ys)∧LOs K G' (os.take (n + 1)) ys∧Off K G' l ys,fun σ'' G' w=>⟨us.length - (n + 1),by omega,rfl,hlt,w.1,w.2⟩,fun x G' y=>?_⟩
    obtain ⟨p,u,w,hp,rfl,hu,hw,rfl⟩:=y
    have sn:Same G (upd G p (.tup [u,w])):=aD hp _
    have s2n:=sG.trans sn
    obtain ⟨c,ec,hcv⟩:=da.getV hu
    obtain ⟨d,ed,hdv⟩:=db.getV hw
    have hne:n < os.length:=by omega
    refine ⟨p,[u,w],rfl,SqT.of au,rfl,u,_,rfl,w,_,rfl,rfl,?_⟩
    simp only [dN,if_true]
    rw [lB _ ne]
    have lys:ys.length = n:=by rw [← dy.length,List.length_take]; omega
    have fin:∀ (v:V) (G4:Hp),Same (upd G p (.tup [u,w])) G4→v ≠ .ref l→(∀ G5,But l G4 G5→(∃ zs,G5 l = some (.lst zs))→OD K G5 os[n] v)→∃ ys,G4 l = some (.lst ys)∧ys.length < sizeLine∧(∃ z1 z2,((mk σ).set i (some u)).set j (some w) = ((mk σ).set i z1).set j z2)∧Same H2 (upd G4 l (.lst (ys ++ [v])))∧∃ ys',upd G4 l (.lst (ys ++ [v])) l = some (.lst ys')∧LOs K (upd G4 l (.lst (ys ++ [v]))) (os.take (n + 1)) ys'∧Off K (upd G4 l (.lst (ys ++ [v]))) l ys':=fun v G4 s4 nv od=>by
      have hy4:=s4 _ _ (sn _ _ hy)
      have bl:But l G4 (upd G4 l (.lst (ys ++ [v]))):=But.upd (Same.refl G4).but
      refine ⟨ys,hy4,bJ (by omega),⟨_,_,rfl⟩,fun x o hx=>?_,ys ++ [v],au,?_,?_⟩
      · rw [aJ (az hx hl2)]
        exact s4 _ _ (s2n _ _ hx)
      · rw [List.take_add_one,List.getElem?_eq_getElem hne]
        exact LOs.snoc (LOs.grown (s4.los (sn.los dy)) off bl hy4 au) (od _ bl ⟨_,au⟩)
      · intro x hx
        rcases List.mem_append.mp hx with hx | hx
        · exact off x hx
        · rw [List.mem_singleton.mp hx]; exact nv
    refine turn _ n c d os[n] u w (s02.trans s2n) ec ed (List.getElem?_eq_getElem hne) (s2n.dat hcv) (s2n.dat hdv) _ (Same.refl _) _ (fun eo G4 s4=>?_) (fun es eo r zs G4 hr s4 hz dz=>?_)
    · exact fin .non G4 s4 (by intro z; cases z) fun G5 _ _=>by rw [eo]; rfl
    · have nrl:r ≠ l:=fun z=>by rw [z,sn _ _ hy] at hr; cases hr
      refine fin (.ref r) G4 s4 (fun z=>nrl (by injection z)) fun G5 b5 ⟨z5,h5⟩=>?_
      rw [eo]
      exact LD.of (b5 _ _ nrl hz) (Dats.mono (b5.grow (s4 _ _ (sn _ _ hy)) h5) _ dz)
  · have e:n = us.length:=by omega
    subst e
    refine .inl ⟨⟨rfl,sG.sqT ha⟩,?_⟩
    rw [List.take_of_length_le (by omega)] at dy
    exact q l ys G (s2.free hl2) (s2.trans sG) hy dy
theorem xR {K:PySem.W.Frag} {σ:St} {H:Hp} {ta:TA} {te:TE} {mk:St→St} {i j:Nat} {cs ds:List D} (h:RB K ta σ H [.l cs,.d (.tup ds)]) (hl:cs.length = ds.length) (hc:cs.length ≤ 1000) (os:List (Option (List D))) (hn:os.length = cs.length) (ne:i ≠ j)
    (h0:((mk σ).set i none).set j none = mk σ)
    (turn:∀ H1 (k:Nat) c d o v w,Same H H1→cs[k]? = some c→ds[k]? = some d→os[k]? = some o→Dat K H1 c v→Dat K H1 d w→RO K te (((mk σ).set i (some v)).set j (some w)) H1 o) :
    RCO K (fC (zT K ta) mk (qo K 2 (fY (bX i) (fY (bX j) rP))) dN te) σ H os:=fun H1 s Q q=>by
  refine h H1 s _ fun vs H2 s2 q2=>?_
  obtain ⟨v1,v2,e,k1,k2⟩:=Ay q2
  subst e
  obtain ⟨a,us,e1,ha,da⟩:=k1
  obtain ⟨b,ws,e2,hb,db⟩:=Dat.tupE k2
  subst e1 e2
  have lu:=da.length
  have lw:=db.length
  refine ⟨a,b,us,ws,rfl,ha.sqL,hb,fun l hl2=>?_⟩
  have s02:Same H H2:=s.trans s2
  refine ⟨fun n m σ' G=>m = us.length - n∧n ≤ us.length∧(∃ z1 z2,σ' = ((mk σ).set i z1).set j z2)∧Same H2 G∧∃ ys,G l = some (.lst ys)∧LOs K G (os.take n) ys∧Off K G l ys,⟨us.length,by omega,Nat.zero_le _,⟨none,none,h0.symm⟩,aD hl2 _,[],au,by rw [List.take_zero]; exact .nil,fun v hv=>by cases hv⟩,?_⟩
  rintro n m σ' G ⟨rfl,hle,⟨z1,z2,rfl⟩,sG,ys,hy,dy,off⟩
  by_cases hlt:n < us.length
  · refine .inr ⟨⟨hlt,by omega,(sG.aLst ha).sqL,sG.sqT hb⟩,fun σ'' G'=>(∃ z1 z2,σ'' = ((mk σ).set i z1).set j z2)∧Same H2 G'∧∃ ys,G' l = some (.lst ys)∧LOs K G' (os.take (n + 1)) ys∧Off K G' l ys,fun σ'' G' w=>⟨us.length - (n + 1),by omega,rfl,hlt,w.1,w.2⟩,fun x G' y=>?_⟩
    obtain ⟨p,u,w,hp,rfl,hu,hw,rfl⟩:=y
    have sn:Same G (upd G p (.tup [u,w])):=aD hp _
    have s2n:=sG.trans sn
    obtain ⟨c,ec,hcv⟩:=da.getV hu
    obtain ⟨d,ed,hdv⟩:=db.getV hw
    have hne:n < os.length:=by omega
    refine ⟨p,[u,w],rfl,SqT.of au,rfl,u,_,rfl,w,_,rfl,rfl,?_⟩
    simp only [dN,if_true]
    rw [lB _ ne]
    have lys:ys.length = n:=by rw [← dy.length,List.length_take]; omega
    have fin:∀ (v:V) (G4:Hp),Same (upd G p (.tup [u,w])) G4→v ≠ .ref l→(∀ G5,But l G4 G5→(∃ zs,G5 l = some (.lst zs))→OD K G5 os[n] v)→∃ ys,G4 l = some (.lst ys)∧ys.length < sizeLine∧(∃ z1 z2,((mk σ).set i (some u)).set j (some w) = ((mk σ).set i z1).set j z2)∧Same H2 (upd G4 l (.lst (ys ++ [v])))∧∃ ys',upd G4 l (.lst (ys ++ [v])) l = some (.lst ys')∧LOs K (upd G4 l (.lst (ys ++ [v]))) (os.take (n + 1)) ys'∧Off K (upd G4 l (.lst (ys ++ [v]))) l ys':=fun v G4 s4 nv od=>by
      have hy4:=s4 _ _ (sn _ _ hy)
      have bl:But l G4 (upd G4 l (.lst (ys ++ [v]))):=But.upd (Same.refl G4).but
      refine ⟨ys,hy4,bJ (by omega),⟨_,_,rfl⟩,fun x o hx=>?_,ys ++ [v],au,?_,?_⟩
      · rw [aJ (az hx hl2)]
        exact s4 _ _ (s2n _ _ hx)
      · rw [List.take_add_one,List.getElem?_eq_getElem hne]
        exact LOs.snoc (LOs.grown (s4.los (sn.los dy)) off bl hy4 au) (od _ bl ⟨_,au⟩)
      · intro x hx
        rcases List.mem_append.mp hx with hx | hx
        · exact off x hx
        · rw [List.mem_singleton.mp hx]; exact nv
    refine turn _ n c d os[n] u w (s02.trans s2n) ec ed (List.getElem?_eq_getElem hne) (s2n.dat hcv) (s2n.dat hdv) _ (Same.refl _) _ (fun eo G4 s4=>?_) (fun es eo r zs G4 hr s4 hz dz=>?_)
    · exact fin .non G4 s4 (by intro z; cases z) fun G5 _ _=>by rw [eo]; rfl
    · have nrl:r ≠ l:=fun z=>by rw [z,sn _ _ hy] at hr; cases hr
      refine fin (.ref r) G4 s4 (fun z=>nrl (by injection z)) fun G5 b5 ⟨z5,h5⟩=>?_
      rw [eo]
      exact LD.of (b5 _ _ nrl hz) (Dats.mono (b5.grow (s4 _ _ (sn _ _ hy)) h5) _ dz)
  · have e:n = us.length:=by omega
    subst e
    refine .inl ⟨⟨rfl,(sG.aLst ha).sqL⟩,?_⟩
    rw [List.take_of_length_le (by omega)] at dy
    exact q l ys G (s2.free hl2) (s2.trans sG) hy dy
end L2
end
section
namespace L2
open PySem PySem.Spec PySem.Calls PyProof.Rows
section
variable {prog:Program} {w:World} {A:Around} {E:Value→Shared→Prop} {s:Shared}
theorem fL {t sl:Addr} {items:Array Value} {x y z:Value} {Q:Value→Shared→Prop} (ht:IsTup s.heap t items) (hs:s.heap.IsSliceOf sl x y z)
    (h:wpAny (model prog w) A.in1 (Builtin.Slice.sliceApplied (.ref sl) (pure (items.size:Int))) (fun r s1=>wpAny (model prog w) A.in1 (do
      if r.1 == 0 && r.2.1 == 1 && r.2.2 == items.size then
        if ← Builtin.Tuple.tupleIsExact (.ref t) then rule "tuple.getitem.whole"; return ← ret (.ref t)
      return ← ret (← Builtin.Tuple.tupleExact ((List.range r.2.2).filterMap fun (k:Nat)=>items[(r.1 + (k:Int) * r.2.1).toNat]?).toArray)) (fun fin s'=>∃ v,fin = .done (.ret v)∧Q v s') E s1) E s):wpAny (model prog w) A (getItem (.ref t) (.ref sl)) Q E s:=by
  obtain ⟨os,hos,hcs,hds⟩:=id hs
  have hTs:s.TypeIs (.ref sl) "slice":=⟨os,hos,hcs⟩
  unfold getItem
  try with_reducible refine wpAny_holding ?_
  first | refine wpAny_bind (wpAny_pure ?_) | skip
  refine wpAny_bind (wpAny_sequenceKey ht.typeIs (by decide) (wpAny_bind (wpAny_callSpecial?_slot (name:=Str.ofString "__getitem__") ht.typeIs PyProof.Rows.slot_tuple_getitem
    (wpAny_call_entry PyProof.Rows.slot_tuple_getitem ht.typeIs entry_tuple_getitem ?_ (args_tuple_getitem _ _)))))
  show wpAny _ _ (Builtin.Tuple.tupleItemsOf (.ref t) >>= _) _ _ s
  refine wpAny_bind (tupleItemsOf_ ht (wpAny_bind (wpAny_typeOf hTs ?_)))
  rw [if_pos (by decide)]
  refine wpAny_bind (wpAny_mono h (fun r s1 k=>?_) fun _ _ z=>z)
  obtain ⟨lo,step,n⟩:=r
  refine wpAny_mono k (fun fin s2 ⟨v,e,q⟩=>⟨v,e,wpAny_pure q⟩) fun _ _ z=>z
theorem jE {t sl:Addr} {items:Array Value} {vl vu:Value} {lo hi:Option Int} {Q:Value→Shared→Prop} (ht:IsTup s.heap t items) (hs:s.heap.IsSliceOf sl vl vu .none) (pl:IsPart vl lo) (pu:IsPart vu hi)
    (hw:HT.sIx items.size 0 lo = 0∧HT.sIx items.size items.size hi = items.size) (h:Q (.ref t) s):wpAny (model prog w) A (getItem (.ref t) (.ref sl)) Q E s:=by
  refine fL ht hs (HT.sliceApplied_gen hs pl pu ?_)
  rw [hw.1,hw.2]
  dsimp only
  rw [if_pos (by simp)]
  unfold Builtin.Tuple.tupleIsExact
  refine wpAny_bind (wpAny_bind (wpAny_typeOf ht.typeIs (wpAny_pure ?_)))
  rw [if_pos (by decide)]
  refine wpAny_bind (wpAny_rule ?_)
  exact wpAny_bind (wpAny_pure (wpAny_pure ⟨_,rfl,h⟩))
theorem ky {sl:Addr} {tk:Tok} {n:Nat} {Q:Int × Int × Nat→Shared→Prop} (hs:s.heap.IsSliceOf sl .none .none (.int (-1) tk)) (h:Q ((n:Int) - 1,-1,n) s):wpAny (model prog w) A (Builtin.Slice.sliceApplied (.ref sl) (pure (n:Int))) Q E s:=by
  obtain ⟨os,hos,hcs,hds⟩:=id hs
  unfold Builtin.Slice.sliceApplied Builtin.Slice.sliceFields
  refine wpAny_bind (wpAny_bind (wpAny_field hos hds rfl (wpAny_bind (wpAny_field hos hds rfl (wpAny_bind (wpAny_field hos hds rfl (wpAny_pure ?_)))))))
  refine wpAny_bind (slicePart_int ?_)
  show wpAny _ _ (if ((-1:Int) == 0) = true then _ else _) _ _ s
  rw [if_neg (by decide)]
  refine wpAny_bind (slicePart_none (wpAny_bind (slicePart_none (wpAny_bind (wpAny_pure ?_)))))
  have e:Builtin.Slice.slicePlaces ((n:Int) - 1) (-1) (-1) = n:=by
    unfold Builtin.Slice.slicePlaces
    rw [if_neg (by decide),show (- -1:Int) = 1 by decide,Int.ediv_one]
    split <;> omega
  show wpAny _ _ (pure ((n:Int) - 1,(-1:Int),Builtin.Slice.slicePlaces ((n:Int) - 1) (-1) (-1))) _ _ s
  rw [e]
  exact wpAny_pure h
theorem jF {t sl:Addr} {items:Array Value} {tk:Tok} {Q:Value→Shared→Prop} (ht:IsTup s.heap t items) (hs:s.heap.IsSliceOf sl .none .none (.int (-1) tk)) (hsz:items.size ≤ sizeLine)
    (h:Q (.ref s.heap.objs.size) { s with heap:=s.heap.push { cls:=.type "tuple",data:=.seq items.toList.reverse.toArray } }):wpAny (model prog w) A (getItem (.ref t) (.ref sl)) Q E s:=by
  refine fL ht hs (ky hs ?_)
  dsimp only
  rw [if_neg (by simp)]
  have e:((List.range items.size).filterMap fun (k:Nat)=>items[((items.size:Int) - 1 + (k:Int) * (-1)).toNat]?).toArray = items.toList.reverse.toArray:=by
    rw [← PySem.W.krv_pick]
    unfold slicePick
    rw [PySem.W.krv_bounds]
    show _ = ((sliceRange ((items.size:Int) - 1) (-1) (-1)).filterMap (items[·]?)).toArray
    rw [PySem.W.krv_sliceRange,List.filterMap_map]
    congr 1
    congr 1
    funext k
    show items[((items.size:Int) - 1 + (k:Int) * (-1)).toNat]? = items[items.size - 1 - k]?
    have:((items.size:Int) - 1 + (k:Int) * (-1)).toNat = items.size - 1 - k:=by omega
    rw [this]
  rw [e]
  have ok:sizeOk (.seq items.toList.reverse.toArray):=by
    show items.toList.reverse.toArray.size ≤ sizeLine
    rw [List.size_toArray,List.length_reverse,Array.length_toList]
    exact hsz
  first
    | exact wpAny_bind (m:=Builtin.Tuple.tupleExact _) (wpAny_newObj_type (wpAny_bind (wpAny_pure (wpAny_pure ⟨_,rfl,h⟩))) ok)
    | exact wpAny_bind (wpAny_bind (m:=Builtin.Tuple.tupleExact _) (wpAny_newObj_type (wpAny_pure (wpAny_pure ⟨_,rfl,h⟩)) ok))
    | exact wpAny_bind (m:=Builtin.Tuple.tupleExact _) (wpAny_newObj_type (wpAny_pure ⟨_,rfl,h⟩) ok)
    | exact wpAny_bind (wpAny_bind (m:=Builtin.Tuple.tupleExact _) (wpAny_newObj_type (wpAny_pure ⟨_,rfl,h⟩) ok))
end
def xJ (K:PySem.W.Frag):V→Option Int→Option Int→Hp→VK→Prop:=fun x lo hi H Q=>∃ a xs,x = .ref a∧SqT K H a xs∧(HT.sIx xs.length 0 lo = 0∧HT.sIx xs.length xs.length hi = xs.length→Q x H) ∧
  (¬ (HT.sIx xs.length 0 lo = 0∧HT.sIx xs.length xs.length hi = xs.length)→∀ p,H p = none→Q (.ref p) (upd H p (.tup (iX xs lo hi))))
theorem pG {X:Cx}:SlR X (xJ X.K):=fun pins s σ H x v vl vu lo hi sl Q I rx hs pl pu ⟨a,xs,ex,hx,h1,h2⟩=>by
  by_cases hw:HT.sIx xs.length 0 lo = 0∧HT.sIx xs.length xs.length hi = xs.length
  · subst ex
    cases rx
    obtain ⟨its,r,ht,hz⟩:=I.tuple hx
    have hlen:its.toArray.size = xs.length:=by rw [List.size_toArray]; exact r.length.symm
    exact ⟨"tuple",_,PyProof.Rows.slot_tuple_getitem.lookup,ht.typeIs,jE ht hs pl pu (by rw [hlen]; exact hw) ⟨.ref a,H,I,rfl,h1 hw⟩⟩
  · exact ji pins s σ H x v vl vu lo hi sl Q I rx hs pl pu ⟨a,xs,ex,hx,hw,h2 hw⟩
def Ah (K:PySem.W.Frag) (te:TE) (tk:TO):TE:=fun σ H Q=>te σ H fun x H1=>tk σ H1 fun k H2=>k = some (-1)∧∃ a xs,x = .ref a∧SqT K H2 a xs∧∀ p,H2 p = none→Q (.ref p) (upd H2 p (.tup xs.reverse))
theorem uN {X:Cx} {e:Expr} {te:TE} {k:Expr} {tk:TO} {pos p2:Pos} (he:PE X e te) (hk:PO X (some k) tk):PE X (.Subscript e (.Slice none none (some k) p2) pos) (Ah X.K te tk):=by
  intro pins s σ H Q I h
  refine Subscript_ (thn (he pins s σ H _ I h) fun v s1 ⟨x,H1,I1,r1,q1⟩=>?_)
  refine wpAny_Slice ?_
  rw [evalPart_none]
  refine wpAny_pure (wpAny_pure ?_)
  refine thn (hk pins s1 σ H1 _ I1 q1) fun vk s3 ⟨o,H3,I3,pk,q3⟩=>?_
  obtain ⟨rfl,a,xs,rfl,hx,q⟩:=q3
  cases r1
  obtain ⟨tk',rfl⟩:∃ tk',vk = .int (-1) tk':=by cases pk; exact ⟨_,rfl⟩
  have I4:Inv X pins σ H3 { s3 with heap:=s3.heap.push { cls:=.type "slice",data:=.fields #[.none,.none,.int (-1) tk'] } }:=I3.kept (t':=s3.toks) fun b ob q=>Heap.get?_push_of_some _ q
  obtain ⟨its,r,ht,hz⟩:=I4.tuple hx
  have hlen:its.toArray.size = xs.length:=by rw [List.size_toArray]; exact r.length.symm
  refine tail_any (T:="tuple") (ops:=[.ref a,.ref s3.heap.objs.size]) (s:={ s3 with heap:=s3.heap.push { cls:=.type "slice",data:=.fields #[.none,.none,.int (-1) tk'] } }) ht.typeIs PyProof.Rows.slot_tuple_getitem.lookup ?_ (by with_unfolding_all rfl)
  refine jF ht (Heap.IsSliceOf.new ..) (by rw [hlen]; exact hz) ?_
  refine ⟨.ref _,_,I4.laid (t':=s3.toks) (o:=.tup xs.reverse) (fun b ob q=>Heap.get?_push_of_some _ q) (Nat.le_refl _) ?_,rfl,q _ (I4.hok.fresh (Nat.le_refl _))⟩
  refine ⟨by rw [List.length_reverse]; exact hz,its.reverse,r.reverse,?_⟩
  exact IsTup.new _ _
def zX (K:PySem.W.Frag):R2:=fun x y H Q=>∃ a b ys,x = .ref a∧y = .ref b∧SqT K H a []∧SqT K H b ys∧Q (.ref b) H
theorem op_catE {X:Cx}:OpR X (binaryOp .Add) (zX X.K):=fun pins s σ H x y v u Q I rx ry ⟨a,b,ys,ex,ey,ha,hb,q⟩=>by
  subst ex ey
  cases rx
  cases ry
  obtain ⟨i1,r1,p1,_⟩:=I.tuple ha
  obtain ⟨i2,r2,p2,_⟩:=I.tuple hb
  have e1:=r1.nil_iff.mpr rfl
  subst e1
  obtain ⟨⟨c1,d1,t1,l1⟩,o1,k1,n1,m1⟩:=id p1
  obtain ⟨⟨c2,d2,t2,l2⟩,o2,k2,n2,m2⟩:=id p2
  simp only at k1 m1 k2 m2
  subst k1 m1 k2 m2
  exact concat_meets ⟨_,o1,rfl⟩ ⟨_,o2,rfl⟩ noFill_tuple_add seq_tuple_add PySem.F.slot_tuple_add PySem.F.entry_tuple_add (PySem.F.args_tuple_add_2 _ _) (tuple_addW0 a b _ _ n1 n2 d1 d2 l1 l2 rfl) ⟨o1,o2,.ref b,H,I,rfl,q⟩
def xH (K:PySem.W.Frag):R2:=fun x y H Q=>zX K x y H Q∨zZ K x y H Q
theorem oX {X:Cx}:OpR X (binaryOp .Add) (xH X.K):=op_catE.or tQ
section
variable {K:PySem.W.Frag} {σ:St} {H H':Hp} {d:D} {ds es:List D} {t u ta tb te:TE} {n:Nat}
theorem pd {tl th:TO} {lo hi:Option Int} (h:RE K t σ H (.tup ds)) (hl:∀ H1,Same H H1→∀ Q:Option Int→Hp→Prop,(∀ H2,Same H1 H2→Q lo H2)→tl σ H1 Q) (hh:∀ H1,Same H H1→∀ Q:Option Int→Hp→Prop,(∀ H2,Same H1 H2→Q hi H2)→th σ H1 Q)
    (ec:∀ {α:Type} (xs:List α),xs.length = ds.length→True) (es:List D) (cut:∀ H1 vs,Dats K H1 ds vs→Dats K H1 es (iX vs lo hi)) (whole:∀ H1 vs,Dats K H1 ds vs→HT.sIx vs.length 0 lo = 0∧HT.sIx vs.length vs.length hi = vs.length→Dats K H1 es vs):RE K (tSl (xJ K) t tl th) σ H (.tup es):=fun H1 s Q q =>
  h H1 s _ fun v H2 s2 q2=>hl H2 (s.trans s2) _ fun H3 s3=>hh H3 (s.trans (s2.trans s3)) _ fun H4 s4=>by
    obtain ⟨a,vs,ev,hq,hd⟩:=((s3.trans s4).dat q2).tupE
    subst ev
    refine ⟨a,vs,rfl,hq,fun hw=>q _ _ (s2.trans (s3.trans s4)) (Dat.tupI hq (whole _ _ hd hw)),fun _ p hp=>?_⟩
    exact q _ _ (s2.trans (s3.trans (s4.trans (aD hp _)))) (Dat.tupI (SqT.of au) ((aD hp _).dats (cut _ _ hd)))
theorem pM (H:Hp):∀ H1,Same H H1→∀ Q:Option Int→Hp→Prop,(∀ H2,Same H1 H2→Q none H2)→iU σ H1 Q:=fun H1 _ Q q=>q _ (Same.refl _)
theorem sI {i:Int} (h:RE K te σ H (.int i)):∀ H1,Same H H1→∀ Q:Option Int→Hp→Prop,(∀ H2,Same H1 H2→Q (some i) H2)→jS te σ H1 Q:=fun H1 s Q q=>h H1 s _ fun v H2 s2 q2=>⟨i,q2.intE,q _ s2⟩
theorem Bg (h:RE K t σ H (.tup ds)) (h2:RE K tb σ H (.int n)):RE K (tSl (xJ K) t iU (jS tb)) σ H (.tup (ds.take n)) :=
  pd h (pM H) (sI h2) (fun _ _=>trivial) (ds.take n) (fun H1 vs hd=>by rw [AF]; exact Dats.takeN hd) fun H1 vs hd hw=>by
    have hl:=hd.length
    have k:=hw.2
    rw [HT.sIx_nat] at k
    rw [List.take_of_length_le (by omega)]
    exact hd
theorem vX {vs:List V} {n:Nat}:iX vs (some (n:Int)) none = vs.drop n:=by
  unfold iX
  rw [HT.sIx_nat,HT.sIx_none,List.take_of_length_le (by rw [List.length_drop]; omega)]
  by_cases h:n ≤ vs.length
  · rw [Nat.min_eq_left h]
  · rw [Nat.min_eq_right (by omega),List.drop_of_length_le (Nat.le_refl _),List.drop_of_length_le (by omega)]
theorem xS (h:RE K t σ H (.tup ds)) (h2:RE K tb σ H (.int n)):RE K (tSl (xJ K) t (jS tb) iU) σ H (.tup (ds.drop n)) :=
  pd h (sI h2) (pM H) (fun _ _=>trivial) (ds.drop n) (fun H1 vs hd=>by rw [vX]; exact Dats.dropN hd) fun H1 vs hd hw=>by
    have hl:=hd.length
    have k:=hw.1
    rw [HT.sIx_nat] at k
    have:n = 0∨ds.length = 0:=by omega
    rcases this with rfl | z
    · exact hd
    · have e:ds = []:=List.length_eq_zero_iff.mp z
      subst e
      rw [List.drop_nil]
      exact hd
theorem vY {vs:List V}:iX vs none (some (-1)) = vs.take (vs.length - 1):=by
  unfold iX
  rw [HT.sIx_none]
  have e:HT.sIx vs.length vs.length (some (-1)) = vs.length - 1:=by
    show (if (-1:Int) < 0 then ((-1:Int) + (vs.length:Int)).toNat else min (-1:Int).toNat vs.length) = _
    rw [if_pos (by decide)]
    omega
  rw [e,List.drop_zero,Nat.sub_zero]
theorem zx (h:RE K t σ H (.tup ds)) (h2:RE K tb σ H (.int (-1))):RE K (tSl (xJ K) t iU (jS tb)) σ H (.tup (ds.take (ds.length - 1))) :=
  pd h (pM H) (sI h2) (fun _ _=>trivial) _ (fun H1 vs hd=>by rw [vY,← hd.length]; exact Dats.takeN hd) fun H1 vs hd hw=>by
    have hl:=hd.length
    have k:(if (-1:Int) < 0 then ((-1:Int) + (vs.length:Int)).toNat else min (-1:Int).toNat vs.length) = vs.length:=hw.2
    rw [if_pos (by decide)] at k
    rw [List.take_of_length_le (by omega)]
    exact hd
theorem zC (h:RE K t σ H (.tup ds)) (h2:RE K tb σ H (.int (-1))):RE K (Ah K t (jS tb)) σ H (.tup ds.reverse):=fun H1 s Q q =>
  h H1 s _ fun v H2 s2 q2=>h2 H2 (s.trans s2) _ fun v4 H4 s4 q4=>⟨-1,q4.intE,rfl,by
    obtain ⟨a,vs,ev,hq,hd⟩:=(s4.dat q2).tupE
    exact ⟨a,vs,ev,hq,fun p hp=>q _ _ (s2.trans (s4.trans (aD hp _))) (Dat.tupI (SqT.of au) ((aD hp _).dats (Dats.rev hd)))⟩⟩
theorem lI {x y:V} {Q:VK} (h1:Dat K H (.tup ds) x) (h2:Dat K H (.tup es) y) (hl:ds.length + es.length ≤ 1000) (q:∀ v H',Same H H'→Dat K H' (.tup (ds ++ es)) v→Q v H'):xH K x y H Q:=by
  obtain ⟨a,xs,ea,ha,da⟩:=h1.tupE
  obtain ⟨b,ys,eb,hb,db⟩:=h2.tupE
  have l1:=da.length
  have l2:=db.length
  cases ds with
  | nil =>
    have e:=da.nilE
    subst e
    exact .inl ⟨a,b,ys,ea,eb,ha,hb,q _ _ (Same.refl _) (Dat.tupI hb db)⟩
  | cons d ds =>
    refine .inr ⟨a,b,xs,ys,ea,eb,ha,hb,fun z=>?_,bW (by omega),fun z=>?_,fun _ p hp=>?_⟩
    · rw [z] at l1; cases l1
    · have e:es = []:=List.length_eq_zero_iff.mp (by rw [l2,z]; rfl)
      subst e
      rw [List.append_nil] at q
      exact q _ _ (Same.refl _) (Dat.tupI ha da)
    · exact q _ _ (aD hp _) (Dat.tupI (SqT.of au) ((aD hp _).dats (Dats.append da db)))
theorem zw (h1:RE K ta σ H (.tup ds)) (h2:RE K tb σ H (.tup es)) (hl:ds.length + es.length ≤ 1000):RE K (tOp (xH K) ta tb) σ H (.tup (ds ++ es)):=fun H1 s Q q =>
  h1 H1 s _ fun v H2 s2 q2=>h2 H2 (s.trans s2) _ fun w H3 s3 q3=>lI (s3.dat q2) q3 hl fun v H' s' k=>q v H' (s2.trans (s3.trans s')) k
theorem zA (h:RC K t σ H es):RE K t σ H .lst:=fun H1 s Q q=>h H1 s _ fun l ys H' _ s' hy _=>q _ _ s' (Dat.lstI (SqL.of hy))
theorem sx (h:RE K t σ H (.tup es)):RC K (tCB (fun xs H Q=>∃ p ys,xs = [.ref p]∧(SqL K H p ys∨SqT K H p ys)∧∀ l,H l = none→Q (.ref l) (upd H l (.lst ys))) (bD t dt)) σ H es:=fun H1 s Q q =>
  gH ((h.mono s).use fun v H' s' hd=>by
    obtain ⟨a,vs,e,hq,hds⟩:=hd.tupE
    subst e
    exact ⟨a,vs,rfl,.inr hq,fun l hl=>q l vs _ (s'.free hl) (s'.trans (aD hl _)) au ((aD hl _).dats hds)⟩)
end
end L2
end
section
namespace My
open PySem L2 PyProof.Rows
abbrev TL:List (Str × KTD.Dat):=[("num",.flat (.int 9999)),("arg",.flat (.int 3))]
abbrev TB:List (Str × KTD.Dat):=[("add",.flat (.int 2)),("sub",.flat (.int 2)),("mul",.flat (.int 2)),("less",.flat (.int 2)),("pick",.flat (.int 3))]
abbrev TM:List (Str × KTD.Dat):=[("hole",.flat (.int 2)),("gap",.flat (.int 3)),("slot",.flat (.int 2))]
abbrev TF:List (Str × KTD.Dat):=[("low",.flat (.str "gap")),("high",.flat (.str "gap")),("arg",.flat (.str "slot"))]
abbrev AHE:List D:=[.int 10,.int 11]
abbrev BEH:List D:=[.int 8,.int 9]
abbrev BAS:List D:=[.tup [.str "one",.tup [.str "gap",.int 0,.int 99],.tup [.int 1,.tup [.str "low",.int 0]]],.tup [.str "two",.tup [.str "gap",.int 0,.int 9999],.tup [.int 2,.tup [.str "low",.int 0],.tup [.str "high",.int 0]]],.tup [.str "slot",.tup [.str "slot",.int 0],.tup [.int 3,.tup [.str "arg",.int 0]]],.tup [.str "add",.tup [.str "add",.tup [.str "hole",.int 0],.tup [.str "hole",.int 1]],.tup [.int 4]],.tup [.str "sub",.tup [.str "sub",.tup [.str "hole",.int 0],.tup [.str "hole",.int 1]],.tup [.int 5]],.tup [.str "mul",.tup [.str "mul",.tup [.str "hole",.int 0],.tup [.str "hole",.int 1]],.tup [.int 6]],.tup [.str "less",.tup [.str "less",.tup [.str "hole",.int 0],.tup [.str "hole",.int 1]],.tup [.int 7]],.tup [.str "more",.tup [.str "add",.tup [.str "hole",.int 0],.tup [.str "gap",.int 0,.int 99]],.tup [.int 12,.tup [.str "low",.int 0]]]]
abbrev STR:List D:=[.str "put",.str "far",.str "load",.str "add",.str "sub",.str "mul",.str "less",.str "more",.str "twice",.str "about"]
abbrev INS:List D:=[.tup [.str "end",.int 0],.tup [.str "put",.int 1],.tup [.str "far",.int 2],.tup [.str "load",.int 1],.tup [.str "add",.int 0],.tup [.str "sub",.int 0],.tup [.str "mul",.int 0],.tup [.str "less",.int 0],.tup [.str "skip",.int 1],.tup [.str "jump",.int 2],.tup [.str "zero",.int 1],.tup [.str "none",.int 2],.tup [.str "more",.int 1],.tup [.str "twice",.int 0],.tup [.str "about",.int 0],.tup [.str "call",.int 2],.tup [.str "back",.int 0]]
abbrev ig:Stmt:=top 18
theorem sc_is_whole:ba ["thing","low","high"] ["thing","low","high"] (aB ig):=⟨rfl,rfl,rfl,by decide +kernel,rfl,by decide +kernel,by decide +kernel⟩
abbrev gq:Stmt:=top 19
theorem sc_is_tagged:ba ["thing"] ["thing"] (aB gq):=⟨rfl,rfl,rfl,by decide +kernel,rfl,by decide +kernel,by decide +kernel⟩
abbrev iR:Stmt:=top 26
theorem sc_is_node:ba ["thing","kind"] ["thing"] (aB iR):=⟨rfl,rfl,rfl,by decide +kernel,rfl,by decide +kernel,by decide +kernel⟩
abbrev eI:Stmt:=top 27
theorem sc_trees_within:ba ["tree"] ["tree"] (aB eI):=⟨rfl,rfl,rfl,by decide +kernel,rfl,by decide +kernel,by decide +kernel⟩
abbrev gM:Stmt:=top 28
theorem sc_is_tree:ba ["thing","waiting","parts","part","deep"] ["thing"] (aB gM):=⟨rfl,rfl,rfl,by decide +kernel,rfl,by decide +kernel,by decide +kernel⟩
abbrev gu:Stmt:=top 29
theorem sc_need_tree:ba ["tree"] ["tree"] (aB gu):=⟨rfl,rfl,rfl,by decide +kernel,rfl,by decide +kernel,by decide +kernel⟩
abbrev gK:Stmt:=top 20
theorem sc_is_name:ba ["thing"] ["thing"] (aB gK):=⟨rfl,rfl,rfl,by decide +kernel,rfl,by decide +kernel,by decide +kernel⟩
abbrev dH:Stmt:=top 33
theorem sc_instruction_at:ba ["cells","place","name","many","behind"] ["cells","place"] (aB dH):=⟨rfl,rfl,rfl,by decide +kernel,rfl,by decide +kernel,by decide +kernel⟩
abbrev iQ:Stmt:=top 43
theorem sc_is_mark:ba ["thing"] ["thing"] (aB iQ):=⟨rfl,rfl,rfl,by decide +kernel,rfl,by decide +kernel,by decide +kernel⟩
abbrev cH:Stmt:=top 44
theorem sc_is_pattern_part:ba ["thing","deep"] ["thing","deep"] (aB cH):=⟨rfl,rfl,rfl,by decide +kernel,rfl,by decide +kernel,by decide +kernel⟩
abbrev ij:Stmt:=top 45
theorem sc_marks_in:ba ["pattern","kind","marks","within"] ["pattern","kind"] (aB ij):=⟨rfl,rfl,rfl,by decide +kernel,rfl,by decide +kernel,by decide +kernel⟩
abbrev dU:Stmt:=top 46
theorem sc_is_numbered:ba ["pattern","kind","numbers"] ["pattern","kind"] (aB dU):=⟨rfl,rfl,rfl,by decide +kernel,rfl,by decide +kernel,by decide +kernel⟩
abbrev eH:Stmt:=top 47
theorem sc_is_pattern:ba ["thing"] ["thing"] (aB eH):=⟨rfl,rfl,rfl,by decide +kernel,rfl,by decide +kernel,by decide +kernel⟩
abbrev fG:Stmt:=top 48
theorem sc_is_filling:ba ["thing","pattern"] ["thing","pattern"] (aB fG):=⟨rfl,rfl,rfl,by decide +kernel,rfl,by decide +kernel,by decide +kernel⟩
abbrev iP:Stmt:=top 49
theorem sc_is_cell:ba ["thing","pattern"] ["thing","pattern"] (aB iP):=⟨rfl,rfl,rfl,by decide +kernel,rfl,by decide +kernel,by decide +kernel⟩
abbrev cx:Stmt:=top 50
theorem sc_are_instructions:ba ["cells","pattern","place","name","behind"] ["cells","pattern"] (aB cx):=⟨rfl,rfl,rfl,by decide +kernel,rfl,by decide +kernel,by decide +kernel⟩
abbrev ie:Stmt:=top 51
theorem sc_is_piece:ba ["thing","name","pattern","cells"] ["thing"] (aB ie):=⟨rfl,rfl,rfl,by decide +kernel,rfl,by decide +kernel,by decide +kernel⟩
abbrev gL:Stmt:=top 52
theorem sc_is_set:ba ["thing"] ["thing"] (aB gL):=⟨rfl,rfl,rfl,by decide +kernel,rfl,by decide +kernel,by decide +kernel⟩
abbrev ik:Stmt:=top 53
theorem sc_need_set:ba ["some"] ["some"] (aB ik):=⟨rfl,rfl,rfl,by decide +kernel,rfl,by decide +kernel,by decide +kernel⟩
abbrev dZ:Stmt:=top 54
theorem sc_may_stand_for:ba ["mark","tree"] ["mark","tree"] (aB dZ):=⟨rfl,rfl,rfl,by decide +kernel,rfl,by decide +kernel,by decide +kernel⟩
abbrev iS:Stmt:=top 55
theorem sc_matches:ba ["pattern","tree","found","kind"] ["pattern","tree","found"] (aB iS):=⟨rfl,rfl,rfl,by decide +kernel,rfl,by decide +kernel,by decide +kernel⟩
abbrev ib:Stmt:=top 56
theorem sc_found_in:ba ["piece","tree","found"] ["piece","tree"] (aB ib):=⟨rfl,rfl,rfl,by decide +kernel,rfl,by decide +kernel,by decide +kernel⟩
abbrev e8:Stmt:=top 57
theorem sc_filled_cell:ba ["cell","nums","ks"] ["cell","nums","ks"] (aB e8):=⟨rfl,rfl,rfl,by decide +kernel,rfl,by decide +kernel,by decide +kernel⟩
abbrev gr:Stmt:=top 62
theorem sc_jump_over:ba ["many","kinds","near","far"] ["many","kinds"] (aB gr):=⟨rfl,rfl,rfl,by decide +kernel,rfl,by decide +kernel,by decide +kernel⟩
abbrev dY:Stmt:=top 63
theorem sc_jumps_of_pick:ba ["second","third","behind","ahead"] ["second","third"] (aB dY):=⟨rfl,rfl,rfl,by decide +kernel,rfl,by decide +kernel,by decide +kernel⟩
abbrev iT:Stmt:=top 64
theorem sc_ways_of:ba ["tree","some","ways","piece","found"] ["tree","some"] (aB iT):=⟨rfl,rfl,rfl,by decide +kernel,rfl,by decide +kernel,by decide +kernel⟩
abbrev dW:Stmt:=top 65
theorem sc_is_covered_by:ba ["tree","some","thing","name","cells","trees"] ["tree","some","thing"] (aB dW):=⟨rfl,rfl,rfl,by decide +kernel,rfl,by decide +kernel,by decide +kernel⟩
abbrev cP:Stmt:=top 66
theorem sc_are_covered_by:ba ["trees","some","things"] ["trees","some","things"] (aB cP):=⟨rfl,rfl,rfl,by decide +kernel,rfl,by decide +kernel,by decide +kernel⟩
abbrev e9:Stmt:=top 67
theorem sc_is_covering:ba ["tree","some","thing"] ["tree","some","thing"] (aB e9):=⟨rfl,rfl,rfl,by decide +kernel,rfl,by decide +kernel,by decide +kernel⟩
abbrev fk:Stmt:=top 71
theorem sc_laid_pick:ba ["tree","some","cover","places","first","second","third","ahead","behind"] ["tree","some","cover","places"] (aB fk):=⟨rfl,rfl,rfl,by decide +kernel,rfl,by decide +kernel,by decide +kernel⟩
abbrev dI:Stmt:=top 72
theorem sc_laid_piece:ba ["tree","some","cover","places","name","within","piece","holes","nums","ks","cells","hole","inner"] ["tree","some","cover","places"] (aB dI):=⟨rfl,rfl,rfl,by decide +kernel,rfl,by decide +kernel,by decide +kernel⟩
abbrev fH:Stmt:=top 73
theorem sc_laid_cells:ba ["tree","some","cover","places","place"] ["tree","some","cover","places"] (aB fH):=⟨rfl,rfl,rfl,by decide +kernel,rfl,by decide +kernel,by decide +kernel⟩
abbrev pD:Stmt:=top 74
theorem sc_laid:ba ["tree","some","thing"] ["tree","some","thing"] (aB pD):=⟨rfl,rfl,rfl,by decide +kernel,rfl,by decide +kernel,by decide +kernel⟩
abbrev gh:Stmt:=top 76
theorem sc__law_draw:ba ["_law_script","_law_town","_law_many","_law_one","_law_at","_law_mixed"] ["_law_script","_law_town","_law_many"] (aB gh):=⟨rfl,rfl,rfl,by decide +kernel,rfl,by decide +kernel,by decide +kernel⟩
abbrev gn:Stmt:=top 77
theorem sc__law_pick:ba ["_law_script","_law_town","_law_some"] ["_law_script","_law_town","_law_some"] (aB gn):=⟨rfl,rfl,rfl,by decide +kernel,rfl,by decide +kernel,by decide +kernel⟩
abbrev fj:Stmt:=top 78
theorem sc__law_tree:ba ["_law_script","_law_town","_law_room","_law_leaf","_law_name","_law_many"] ["_law_script","_law_town","_law_room"] (aB fj):=⟨rfl,rfl,rfl,by decide +kernel,rfl,by decide +kernel,by decide +kernel⟩
abbrev eZ:Stmt:=top 81
theorem sc__law_pieces:ba ["_law_hole","_law_other","_law_gap","_law_made"] [] (aB eZ):=⟨rfl,rfl,rfl,by decide +kernel,rfl,by decide +kernel,by decide +kernel⟩
abbrev fR:Stmt:=top 82
theorem sc__law_set:ba ["_law_script","_law_town","_law_more"] ["_law_script","_law_town"] (aB fR):=⟨rfl,rfl,rfl,by decide +kernel,rfl,by decide +kernel,by decide +kernel⟩
abbrev ia:Stmt:=top 83
theorem sc__law_fit:ba ["_law_pattern","_law_tree_here","_law_found"] ["_law_pattern","_law_tree_here","_law_found"] (aB ia):=⟨rfl,rfl,rfl,by decide +kernel,rfl,by decide +kernel,by decide +kernel⟩
abbrev gk:Stmt:=top 86
theorem sc__law_jump:ba ["_law_near","_law_far","_law_cells"] ["_law_near","_law_far","_law_cells"] (aB gk):=⟨rfl,rfl,rfl,by decide +kernel,rfl,by decide +kernel,by decide +kernel⟩
abbrev gj:Stmt:=top 87
theorem sc__law_fill:ba ["_law_cells","_law_nums","_law_ks","_law_made","_law_cell"] ["_law_cells","_law_nums","_law_ks"] (aB gj):=⟨rfl,rfl,rfl,by decide +kernel,rfl,by decide +kernel,by decide +kernel⟩
abbrev d6:Stmt:=top 88
theorem sc__law_lay:ba ["_law_tree_here","_law_some","_law_cover","_law_three","_law_last","_law_named","_law_found","_law_holes","_law_made","_law_cells"] ["_law_tree_here","_law_some","_law_cover"] (aB d6):=⟨rfl,rfl,rfl,by decide +kernel,rfl,by decide +kernel,by decide +kernel⟩
abbrev eU:Stmt:=top 89
theorem sc__law_any:ba ["_law_script","_law_town","_law_tree_here","_law_some","_law_ways","_law_piece","_law_found","_law_name","_law_holes"] ["_law_script","_law_town","_law_tree_here","_law_some"] (aB eU):=⟨rfl,rfl,rfl,by decide +kernel,rfl,by decide +kernel,by decide +kernel⟩
abbrev fF:Stmt:=top 90
theorem sc__law_which:ba ["_law_e","_law_own"] ["_law_e"] (aB fF):=⟨rfl,rfl,rfl,by decide +kernel,rfl,by decide +kernel,by decide +kernel⟩
abbrev gg:Stmt:=top 91
theorem sc__law_bent:ba ["_law_script","_law_town","_law_cover","_law_what","_law_at","_law_names","_law_odd"] ["_law_script","_law_town","_law_cover"] (aB gg):=⟨rfl,rfl,rfl,by decide +kernel,rfl,by decide +kernel,by decide +kernel⟩
abbrev gm:Stmt:=top 92
theorem sc__law_laid:ba ["_law_tree_here","_law_some","_law_cover","_law_e"] ["_law_tree_here","_law_some","_law_cover"] (aB gm):=⟨rfl,rfl,rfl,by decide +kernel,rfl,by decide +kernel,by decide +kernel⟩
abbrev t9:Stmt:=top 93
theorem sc_law:ba ["_law_script","_law_town","_law_tree_here","_law_some","_law_cover","_law_cells","_law_told_so"] ["_law_script"] (aB t9):=⟨rfl,rfl,rfl,by decide +kernel,rfl,by decide +kernel,by decide +kernel⟩
set_option genInjectivity false in
set_option genSizeOfSpec false in
structure Txt (P:Program) (w:World) (K:PySem.W.Frag) (mg:Str→Option Value) where
  DP:Addr
  DQ:FuncData
  DS:Fun K "is_whole" "is_whole" ig DP DQ
  EI:mg "is_whole" = some (.ref DP)
  DK:Addr
  DM:FuncData
  Ef:Fun K "is_tagged" "is_tagged" gq DK DM
  FE:mg "is_tagged" = some (.ref DK)
  FN:Addr
  FO:FuncData
  Gy:Fun K "is_node" "is_node" iR FN FO
  Ie:mg "is_node" = some (.ref FN)
  Dj:Addr
  Dl:FuncData
  DG:Fun K "trees_within" "trees_within" eI Dj Dl
  E3:mg "trees_within" = some (.ref Dj)
  Gq:Addr
  Gw:FuncData
  Hq:Fun K "is_tree" "is_tree" gM Gq Gw
  IT:mg "is_tree" = some (.ref Gq)
  EJ:Addr
  EK:FuncData
  FD:Fun K "need_tree" "need_tree" gu EJ EK
  Hk:mg "need_tree" = some (.ref EJ)
  Gp:Addr
  Gv:FuncData
  Ho:Fun K "is_name" "is_name" gK Gp Gv
  IS:mg "is_name" = some (.ref Gp)
  DC:Addr
  DF:FuncData
  Ej:Fun K "instruction_at" "instruction_at" dH DC DF
  GH:mg "instruction_at" = some (.ref DC)
  Gn:Addr
  Gu:FuncData
  Hn:Fun K "is_mark" "is_mark" iQ Gn Gu
  IR:mg "is_mark" = some (.ref Gn)
  CT:Addr
  CU:FuncData
  Dw:Fun K "is_pattern_part" "is_pattern_part" cH CT CU
  E2:mg "is_pattern_part" = some (.ref CT)
  D9:Addr
  Ee:FuncData
  Ff:Fun K "marks_in" "marks_in" ij D9 Ee
  GR:mg "marks_in" = some (.ref D9)
  Et:Addr
  Ey:FuncData
  Fm:Fun K "is_numbered" "is_numbered" dU Et Ey
  HB:mg "is_numbered" = some (.ref Et)
  EU:Addr
  EZ:FuncData
  FK:Fun K "is_pattern" "is_pattern" eH EU EZ
  HR:mg "is_pattern" = some (.ref EU)
  ET:Addr
  EY:FuncData
  FJ:Fun K "is_filling" "is_filling" fG ET EY
  HQ:mg "is_filling" = some (.ref ET)
  Gm:Addr
  Gs:FuncData
  Hm:Fun K "is_cell" "is_cell" iP Gm Gs
  IQ:mg "is_cell" = some (.ref Gm)
  Di:Addr
  Dk:FuncData
  DR:Fun K "are_instructions" "are_instructions" cx Di Dk
  F9:mg "are_instructions" = some (.ref Di)
  FW:Addr
  F1:FuncData
  GO:Fun K "is_piece" "is_piece" ie FW F1
  IF:mg "is_piece" = some (.ref FW)
  Hd:Addr
  He:FuncData
  HN:Fun K "is_set" "is_set" gL Hd He
  Jr:mg "is_set" = some (.ref Hd)
  E8:Addr
  Fc:FuncData
  F5:Fun K "need_set" "need_set" ik E8 Fc
  HH:mg "need_set" = some (.ref E8)
  DW:Addr
  DY:FuncData
  EB:Fun K "may_stand_for" "may_stand_for" dZ DW DY
  GV:mg "may_stand_for" = some (.ref DW)
  E7:Addr
  Fb:FuncData
  FP:Fun K "matches" "matches" iS E7 Fb
  Hx:mg "matches" = some (.ref E7)
  E6:Addr
  E9:FuncData
  F4:Fun K "found_in" "found_in" ib E6 E9
  HG:mg "found_in" = some (.ref E6)
  Er:Addr
  Ew:FuncData
  Fk:Fun K "filled_cell" "filled_cell" e8 Er Ew
  Hz:mg "filled_cell" = some (.ref Er)
  Fs:Addr
  Fx:FuncData
  FC:Fun K "jump_over" "jump_over" gr Fs Fx
  Hj:mg "jump_over" = some (.ref Fs)
  DV:Addr
  DX:FuncData
  EA:Fun K "jumps_of_pick" "jumps_of_pick" dY DV DX
  GU:mg "jumps_of_pick" = some (.ref DV)
  Gr:Addr
  Gx:FuncData
  Hr:Fun K "ways_of" "ways_of" iT Gr Gx
  IU:mg "ways_of" = some (.ref Gr)
  CW:Addr
  CY:FuncData
  Dq:Fun K "is_covered_by" "is_covered_by" dW CW CY
  EC:mg "is_covered_by" = some (.ref CW)
  DB:Addr
  DE:FuncData
  Ei:Fun K "are_covered_by" "are_covered_by" cP DB DE
  GG:mg "are_covered_by" = some (.ref DB)
  Es:Addr
  Ex:FuncData
  Fl:Fun K "is_covering" "is_covering" e9 Es Ex
  HA:mg "is_covering" = some (.ref Es)
  Ft:Addr
  Fy:FuncData
  Gg:Fun K "laid_pick" "laid_pick" fk Ft Fy
  Ik:mg "laid_pick" = some (.ref Ft)
  EV:Addr
  E1:FuncData
  FL:Fun K "laid_piece" "laid_piece" dI EV E1
  HS:mg "laid_piece" = some (.ref EV)
  Du:Addr
  Dv:FuncData
  Ek:Fun K "laid_cells" "laid_cells" fH Du Dv
  FM:mg "laid_cells" = some (.ref Du)
  Ir:Addr
  ID:FuncData
  Jf:Fun K "laid" "laid" pD Ir ID
  JI:mg "laid" = some (.ref Ir)
  DJ:Addr
  DL:FuncData
  C9:Fun K "_law_draw" "_law_draw" gh DJ DL
  DO:mg "_law_draw" = some (.ref DJ)
  D7:Addr
  Ec:FuncData
  DN:Fun K "_law_pick" "_law_pick" gn D7 Ec
  EN:mg "_law_pick" = some (.ref D7)
  D8:Addr
  Ed:FuncData
  FB:Fun K "_law_tree" "_law_tree" fj D8 Ed
  Hi:mg "_law_tree" = some (.ref D8)
  Ep:Addr
  Eu:FuncData
  Fj:Fun K "_law_pieces" "_law_pieces" eZ Ep Eu
  Hy:mg "_law_pieces" = some (.ref Ep)
  FV:Addr
  F0:FuncData
  GN:Fun K "_law_set" "_law_set" fR FV F0
  IE:mg "_law_set" = some (.ref FV)
  D6:Addr
  Eb:FuncData
  EH:Fun K "_law_fit" "_law_fit" ia D6 Eb
  F8:mg "_law_fit" = some (.ref D6)
  Fp:Addr
  Fv:FuncData
  FA:Fun K "_law_jump" "_law_jump" gk Fp Fv
  Hh:mg "_law_jump" = some (.ref Fp)
  Fo:Addr
  Fu:FuncData
  Ge:Fun K "_law_fill" "_law_fill" gj Fo Fu
  Ii:mg "_law_fill" = some (.ref Fo)
  EE:Addr
  EG:FuncData
  Fe:Fun K "_law_lay" "_law_lay" d6 EE EG
  GQ:mg "_law_lay" = some (.ref EE)
  ED:Addr
  EF:FuncData
  Fd:Fun K "_law_any" "_law_any" eU ED EF
  GP:mg "_law_any" = some (.ref ED)
  ES:Addr
  EX:FuncData
  FI:Fun K "_law_which" "_law_which" fF ES EX
  HP:mg "_law_which" = some (.ref ES)
  D5:Addr
  Ea:FuncData
  Fz:Fun K "_law_bent" "_law_bent" gg D5 Ea
  Hg:mg "_law_bent" = some (.ref D5)
  Fq:Addr
  Fw:FuncData
  Gf:Fun K "_law_laid" "_law_laid" gm Fq Fw
  Ij:mg "_law_laid" = some (.ref Fq)
  Jp:Addr
  JB:FuncData
  JR:Fun K "law" "law" t9 Jp JB
  JU:mg "law" = some (.ref Jp)
  E4:Tok
  El:mg "MOST_PARTS" = some (.int 40 E4)
  FG:Tok
  EL:mg "MOST_DEEP" = some (.int 8 FG)
  Eh:Tok
  DH:mg "LONGEST_NAME" = some (.int 8 Eh)
  FF:Tok
  Eg:mg "MOST_CELL" = some (.int 99 FF)
  C7:Tok
  CV:mg "MOST_PATTERN_DEEP" = some (.int 3 C7)
  Gc:Tok
  Fg:mg "MOST_GAP" = some (.int 9999 Gc)
  Dp:Tok
  CZ:mg "MOST_PIECE_CELLS" = some (.int 12 Dp)
  Ez:Tok
  DZ:mg "MOST_PIECES" = some (.int 16 Ez)
  FH:Tok
  EM:mg "MOST_NEAR" = some (.int 9 FH)
  Js:Tok
  IP:mg "END" = some (.int 0 Js)
  IH:Tok
  Ib:mg "CALL" = some (.int 15 IH)
  D4:Addr
  Dn:mg "MOST_IN_LEAF" = some (.ref D4)
  Do:iW K D4 TL
  C2:Addr
  CO:mg "TREES_IN_BRANCH" = some (.ref C2)
  CP:iW K C2 TB
  Dh:Addr
  C0:mg "MARK_LENGTHS" = some (.ref Dh)
  CN:iW K Dh TM
  Eo:Addr
  Dz:mg "FILLED_FROM" = some (.ref Eo)
  DA:iW K Eo TF
  D3:Addr
  Dm:mg "INSTRUCTIONS" = some (.ref D3)
  FX:eJ K (.tup INS) (.ref D3) = true
  GL:Addr
  Fi:mg "STRAIGHT" = some (.ref GL)
  Iu:eJ K (.tup STR) (.ref GL) = true
  Io:Addr
  Hs:mg "AHEAD" = some (.ref Io)
  Jz:eJ K (.tup AHE) (.ref Io) = true
  HJ:Addr
  Gz:mg "BEHIND" = some (.ref HJ)
  Jq:eJ K (.tup BEH) (.ref HJ) = true
  Ip:Addr
  Ht:mg "BASIC" = some (.ref Ip)
  JA:lY K BAS Ip = true
  Hf:vw P w K Dh ["hole","gap","slot"]
  GK:Addr
  Em:mg "PieceError" = some (.ref GK)
  Hb:Addr
  GE:mg "NoSize" = some (.ref Hb)
  Hc:Addr
  GF:mg "NoTree" = some (.ref Hc)
  G8:Addr
  GB:mg "NoArgs" = some (.ref G8)
  G9:Addr
  GC:mg "NoCode" = some (.ref G9)
  Gk:Addr
  FS:mg "NoSteps" = some (.ref Gk)
  Iq:Addr
  Ic:mg "Late" = some (.ref Iq)
  Gj:Addr
  FR:mg "NoPiece" = some (.ref Gj)
  HL:Addr
  Hv:mg "NoSet" = some (.ref HL)
  CK:Addr
  Fh:mg "NoCover" = some (.ref CK)
  Gi:Addr
  FQ:mg "NoParts" = some (.ref Gi)
  Ha:Addr
  GD:mg "NoName" = some (.ref Ha)
  HM:Addr
  Hw:mg "Taken" = some (.ref HM)
  HK:Addr
  Hu:mg "Fault" = some (.ref HK)
  GZ:Addr
  GA:mg "Broken" = some (.ref GZ)
  FT:qi K CK [.type "ValueError",.type "Exception",.type "BaseException",.type "object"] "ValueError.__new__" none = true
  CM:nW K CK
  CQ:PySem.W.exmOne K (.ref CK) (.ref GK) = some true
  Df:PySem.W.kitOne K (.ref CK) (.ref Hb) = some false
  Dg:PySem.W.kitOne K (.ref CK) (.ref Hc) = some false
  Dc:PySem.W.kitOne K (.ref CK) (.ref G8) = some false
  Dd:PySem.W.kitOne K (.ref CK) (.ref G9) = some false
  C6:PySem.W.kitOne K (.ref CK) (.ref Gk) = some false
  DI:PySem.W.kitOne K (.ref CK) (.ref Iq) = some false
  C5:PySem.W.kitOne K (.ref CK) (.ref Gj) = some false
  Ds:PySem.W.kitOne K (.ref CK) (.ref HL) = some false
  C3:PySem.W.kitOne K (.ref CK) (.ref CK) = some true
  C4:PySem.W.kitOne K (.ref CK) (.ref Gi) = some false
  De:PySem.W.kitOne K (.ref CK) (.ref Ha) = some false
  Dt:PySem.W.kitOne K (.ref CK) (.ref HM) = some false
  Dr:PySem.W.kitOne K (.ref CK) (.ref HK) = some false
  Da:PySem.W.kitOne K (.ref CK) (.ref GZ) = some false
  CS:PySem.W.kitOne K (.ref CK) (.type "ValueError") = some true
  C1:mg "len" = none
  CJ:mg "isinstance" = none
  JJ:mg "int" = none
  Jw:mg "bool" = none
  JK:mg "str" = none
  DT:mg "tuple" = none
  Jg:mg "list" = none
  Jh:mg "range" = none
  IG:mg "all" = none
  JS:mg "set" = none
  IV:mg "zip" = none
  HU:mg "ValueError" = none
section
variable {P:Program} {w:World} {K:PySem.W.Frag} {mg:Str→Option Value} {base:Heap} {k:Nat}
theorem kS {α:Type} {us:List α} (h:us.length = 1):∃ a0,us = [a0]:=match us,h with | [a0],_=>⟨a0,rfl⟩
theorem kh {α:Type} {us:List α} (h:us.length = 2):∃ a0 a1,us = [a0,a1]:=match us,h with | [a0,a1],_=>⟨a0,a1,rfl⟩
theorem iY {α:Type} {us:List α} (h:us.length = 3):∃ a0 a1 a2,us = [a0,a1,a2]:=match us,h with | [a0,a1,a2],_=>⟨a0,a1,a2,rfl⟩
theorem yP {α:Type} {us:List α} (h:us.length = 4):∃ a0 a1 a2 a3,us = [a0,a1,a2,a3]:=match us,h with | [a0,a1,a2,a3],_=>⟨a0,a1,a2,a3,rfl⟩
theorem eK (T:Txt P w K mg):Binds K T.DQ ["thing","low","high"] []:=T.DS.binds (ps:=["thing","low","high"]) fun _ _ _ _ _ _ us hl=>by obtain ⟨_,_,_,rfl⟩:=iY hl; rfl
theorem fU (T:Txt P w K mg):Binds K T.DM ["thing"] []:=T.Ef.binds (ps:=["thing"]) fun _ _ _ _ _ _ us hl=>by obtain ⟨_,rfl⟩:=kS hl; rfl
theorem m7 (T:Txt P w K mg):Binds K T.FO ["thing"] []:=T.Gy.binds (ps:=["thing"]) fun _ _ _ _ _ _ us hl=>by obtain ⟨_,rfl⟩:=kS hl; rfl
theorem fK (T:Txt P w K mg):Binds K T.Dl ["tree"] []:=T.DG.binds (ps:=["tree"]) fun _ _ _ _ _ _ us hl=>by obtain ⟨_,rfl⟩:=kS hl; rfl
theorem uk (T:Txt P w K mg):Binds K T.Gw ["thing"] []:=T.Hq.binds (ps:=["thing"]) fun _ _ _ _ _ _ us hl=>by obtain ⟨_,rfl⟩:=kS hl; rfl
theorem kI (T:Txt P w K mg):Binds K T.EK ["tree"] []:=T.FD.binds (ps:=["tree"]) fun _ _ _ _ _ _ us hl=>by obtain ⟨_,rfl⟩:=kS hl; rfl
theorem uj (T:Txt P w K mg):Binds K T.Gv ["thing"] []:=T.Ho.binds (ps:=["thing"]) fun _ _ _ _ _ _ us hl=>by obtain ⟨_,rfl⟩:=kS hl; rfl
theorem jZ (T:Txt P w K mg):Binds K T.DF ["cells","place"] []:=T.Ej.binds (ps:=["cells","place"]) fun _ _ _ _ _ _ us hl=>by obtain ⟨_,_,rfl⟩:=kh hl; rfl
theorem ui (T:Txt P w K mg):Binds K T.Gu ["thing"] []:=T.Hn.binds (ps:=["thing"]) fun _ _ _ _ _ _ us hl=>by obtain ⟨_,rfl⟩:=kS hl; rfl
theorem fT (T:Txt P w K mg):Binds K T.CU ["thing","deep"] []:=T.Dw.binds (ps:=["thing","deep"]) fun _ _ _ _ _ _ us hl=>by obtain ⟨_,_,rfl⟩:=kh hl; rfl
theorem i8 (T:Txt P w K mg):Binds K T.Ee ["pattern","kind"] []:=T.Ff.binds (ps:=["pattern","kind"]) fun _ _ _ _ _ _ us hl=>by obtain ⟨_,_,rfl⟩:=kh hl; rfl
theorem mS (T:Txt P w K mg):Binds K T.Ey ["pattern","kind"] []:=T.Fm.binds (ps:=["pattern","kind"]) fun _ _ _ _ _ _ us hl=>by obtain ⟨_,_,rfl⟩:=kh hl; rfl
theorem oi (T:Txt P w K mg):Binds K T.EZ ["thing"] []:=T.FK.binds (ps:=["thing"]) fun _ _ _ _ _ _ us hl=>by obtain ⟨_,rfl⟩:=kS hl; rfl
theorem oh (T:Txt P w K mg):Binds K T.EY ["thing","pattern"] []:=T.FJ.binds (ps:=["thing","pattern"]) fun _ _ _ _ _ _ us hl=>by obtain ⟨_,_,rfl⟩:=kh hl; rfl
theorem uh (T:Txt P w K mg):Binds K T.Gs ["thing","pattern"] []:=T.Hm.binds (ps:=["thing","pattern"]) fun _ _ _ _ _ _ us hl=>by obtain ⟨_,_,rfl⟩:=kh hl; rfl
theorem i7 (T:Txt P w K mg):Binds K T.Dk ["cells","pattern"] []:=T.DR.binds (ps:=["cells","pattern"]) fun _ _ _ _ _ _ us hl=>by obtain ⟨_,_,rfl⟩:=kh hl; rfl
theorem rL (T:Txt P w K mg):Binds K T.F1 ["thing"] []:=T.GO.binds (ps:=["thing"]) fun _ _ _ _ _ _ us hl=>by obtain ⟨_,rfl⟩:=kS hl; rfl
theorem vK (T:Txt P w K mg):Binds K T.He ["thing"] []:=T.HN.binds (ps:=["thing"]) fun _ _ _ _ _ _ us hl=>by obtain ⟨_,rfl⟩:=kS hl; rfl
theorem lG (T:Txt P w K mg):Binds K T.Fc ["some"] []:=T.F5.binds (ps:=["some"]) fun _ _ _ _ _ _ us hl=>by obtain ⟨_,rfl⟩:=kS hl; rfl
theorem kP (T:Txt P w K mg):Binds K T.DY ["mark","tree"] []:=T.EB.binds (ps:=["mark","tree"]) fun _ _ _ _ _ _ us hl=>by obtain ⟨_,_,rfl⟩:=kh hl; rfl
theorem j0 (T:Txt P w K mg):Binds K T.Fb ["pattern","tree","found"] []:=T.FP.binds (ps:=["pattern","tree","found"]) fun _ _ _ _ _ _ us hl=>by obtain ⟨_,_,_,rfl⟩:=iY hl; rfl
theorem lF (T:Txt P w K mg):Binds K T.E9 ["piece","tree"] []:=T.F4.binds (ps:=["piece","tree"]) fun _ _ _ _ _ _ us hl=>by obtain ⟨_,_,rfl⟩:=kh hl; rfl
theorem mQ (T:Txt P w K mg):Binds K T.Ew ["cell","nums","ks"] []:=T.Fk.binds (ps:=["cell","nums","ks"]) fun _ _ _ _ _ _ us hl=>by obtain ⟨_,_,_,rfl⟩:=iY hl; rfl
theorem kH (T:Txt P w K mg):Binds K T.Fx ["many","kinds"] []:=T.FC.binds (ps:=["many","kinds"]) fun _ _ _ _ _ _ us hl=>by obtain ⟨_,_,rfl⟩:=kh hl; rfl
theorem kO (T:Txt P w K mg):Binds K T.DX ["second","third"] []:=T.EA.binds (ps:=["second","third"]) fun _ _ _ _ _ _ us hl=>by obtain ⟨_,_,rfl⟩:=kh hl; rfl
theorem um (T:Txt P w K mg):Binds K T.Gx ["tree","some"] []:=T.Hr.binds (ps:=["tree","some"]) fun _ _ _ _ _ _ us hl=>by obtain ⟨_,_,rfl⟩:=kh hl; rfl
theorem fq (T:Txt P w K mg):Binds K T.CY ["tree","some","thing"] []:=T.Dq.binds (ps:=["tree","some","thing"]) fun _ _ _ _ _ _ us hl=>by obtain ⟨_,_,_,rfl⟩:=iY hl; rfl
theorem jY (T:Txt P w K mg):Binds K T.DE ["trees","some","things"] []:=T.Ei.binds (ps:=["trees","some","things"]) fun _ _ _ _ _ _ us hl=>by obtain ⟨_,_,_,rfl⟩:=iY hl; rfl
theorem mR (T:Txt P w K mg):Binds K T.Ex ["tree","some","thing"] []:=T.Fl.binds (ps:=["tree","some","thing"]) fun _ _ _ _ _ _ us hl=>by obtain ⟨_,_,_,rfl⟩:=iY hl; rfl
theorem pS (T:Txt P w K mg):Binds K T.Fy ["tree","some","cover","places"] []:=T.Gg.binds (ps:=["tree","some","cover","places"]) fun _ _ _ _ _ _ us hl=>by obtain ⟨_,_,_,_,rfl⟩:=yP hl; rfl
theorem oj (T:Txt P w K mg):Binds K T.E1 ["tree","some","cover","places"] []:=T.FL.binds (ps:=["tree","some","cover","places"]) fun _ _ _ _ _ _ us hl=>by obtain ⟨_,_,_,_,rfl⟩:=yP hl; rfl
theorem gT (T:Txt P w K mg):Binds K T.Dv ["tree","some","cover","places"] []:=T.Ek.binds (ps:=["tree","some","cover","places"]) fun _ _ _ _ _ _ us hl=>by obtain ⟨_,_,_,_,rfl⟩:=yP hl; rfl
theorem AA (T:Txt P w K mg):Binds K T.ID ["tree","some","thing"] []:=T.Jf.binds (ps:=["tree","some","thing"]) fun _ _ _ _ _ _ us hl=>by obtain ⟨_,_,_,rfl⟩:=iY hl; rfl
theorem dC (T:Txt P w K mg):Binds K T.DL ["_law_script","_law_town","_law_many"] []:=T.C9.binds (ps:=["_law_script","_law_town","_law_many"]) fun _ _ _ _ _ _ us hl=>by obtain ⟨_,_,_,rfl⟩:=iY hl; rfl
theorem fe (T:Txt P w K mg):Binds K T.Ec ["_law_script","_law_town","_law_some"] []:=T.DN.binds (ps:=["_law_script","_law_town","_law_some"]) fun _ _ _ _ _ _ us hl=>by obtain ⟨_,_,_,rfl⟩:=iY hl; rfl
theorem kG (T:Txt P w K mg):Binds K T.Ed ["_law_script","_law_town","_law_room"] []:=T.FB.binds (ps:=["_law_script","_law_town","_law_room"]) fun _ _ _ _ _ _ us hl=>by obtain ⟨_,_,_,rfl⟩:=iY hl; rfl
theorem mP (T:Txt P w K mg):Binds K T.Eu [] []:=T.Fj.binds (ps:=[]) fun _ _ _ _ _ _ us hl=>match us,hl with | [],_=>rfl
theorem rK (T:Txt P w K mg):Binds K T.F0 ["_law_script","_law_town"] []:=T.GN.binds (ps:=["_law_script","_law_town"]) fun _ _ _ _ _ _ us hl=>by obtain ⟨_,_,rfl⟩:=kh hl; rfl
theorem gS (T:Txt P w K mg):Binds K T.Eb ["_law_pattern","_law_tree_here","_law_found"] []:=T.EH.binds (ps:=["_law_pattern","_law_tree_here","_law_found"]) fun _ _ _ _ _ _ us hl=>by obtain ⟨_,_,_,rfl⟩:=iY hl; rfl
theorem kF (T:Txt P w K mg):Binds K T.Fv ["_law_near","_law_far","_law_cells"] []:=T.FA.binds (ps:=["_law_near","_law_far","_law_cells"]) fun _ _ _ _ _ _ us hl=>by obtain ⟨_,_,_,rfl⟩:=iY hl; rfl
theorem pQ (T:Txt P w K mg):Binds K T.Fu ["_law_cells","_law_nums","_law_ks"] []:=T.Ge.binds (ps:=["_law_cells","_law_nums","_law_ks"]) fun _ _ _ _ _ _ us hl=>by obtain ⟨_,_,_,rfl⟩:=iY hl; rfl
theorem i6 (T:Txt P w K mg):Binds K T.EG ["_law_tree_here","_law_some","_law_cover"] []:=T.Fe.binds (ps:=["_law_tree_here","_law_some","_law_cover"]) fun _ _ _ _ _ _ us hl=>by obtain ⟨_,_,_,rfl⟩:=iY hl; rfl
theorem i5 (T:Txt P w K mg):Binds K T.EF ["_law_script","_law_town","_law_tree_here","_law_some"] []:=T.Fd.binds (ps:=["_law_script","_law_town","_law_tree_here","_law_some"]) fun _ _ _ _ _ _ us hl=>by obtain ⟨_,_,_,_,rfl⟩:=yP hl; rfl
theorem og (T:Txt P w K mg):Binds K T.EX ["_law_e"] []:=T.FI.binds (ps:=["_law_e"]) fun _ _ _ _ _ _ us hl=>by obtain ⟨_,rfl⟩:=kS hl; rfl
theorem kE (T:Txt P w K mg):Binds K T.Ea ["_law_script","_law_town","_law_cover"] []:=T.Fz.binds (ps:=["_law_script","_law_town","_law_cover"]) fun _ _ _ _ _ _ us hl=>by obtain ⟨_,_,_,rfl⟩:=iY hl; rfl
theorem pR (T:Txt P w K mg):Binds K T.Fw ["_law_tree_here","_law_some","_law_cover"] []:=T.Gf.binds (ps:=["_law_tree_here","_law_some","_law_cover"]) fun _ _ _ _ _ _ us hl=>by obtain ⟨_,_,_,rfl⟩:=iY hl; rfl
def cj (d:D) (lo hi:Int):Bool:=match d with
  | .int i=>decide (lo ≤ i) && decide (i ≤ hi)
  | _=>false
def fm (ds:List D) (d:D):Prop:=∃ x lo hi,ds = [x,.int lo,.int hi]∧d = .bl (cj x lo hi)
def cy:D→Bool
  | .tup (.str _ :: _)=>true
  | _=>false
def gQ (ds:List D) (d:D):Prop:=∃ x,ds = [x]∧d = .bl (cy x)
def jm (k:Str) (T:List (Str × KTD.Dat)):Int:=match KTD.datumAt k T with
  | some (.flat (.int i))=>i
  | _=>0
def cK:D→Bool
  | .tup (.str k :: r)=>if KTD.inKeys k TL = true then decide ((r.length:Int) + 1 = 2) && cj (r.getD 0 .non) 0 (jm k TL) else KTD.inKeys k TB && decide ((r.length:Int) + 1 = 1 + jm k TB)
  | _=>false
def vG (ds:List D) (d:D):Prop:=∃ x,ds = [x]∧d = .bl (cK x)
def bU:D→List D
  | .tup (.str k :: r)=>if KTD.inKeys k TB = true then r else []
  | _=>[]
def gR (ds:List D) (d:D):Prop:=∃ k r,ds = [.tup (.str k :: r)]∧d = .tup (bU (.tup (.str k :: r)))
theorem B9 {T:List (Str × KTD.Dat)} {k:Str} (hT:∀ p ∈ T,∃ i,p.2 = .flat (.int i)) (h:KTD.inKeys k T = true):KTD.datumAt k T = some (.flat (.int (jm k T))):=by
  unfold jm
  cases e:KTD.datumAt k T with
  | none=>exact absurd e (KTD.at_of_mem h)
  | some d =>
    have all:∀ (T:List (Str × KTD.Dat)),(∀ p ∈ T,∃ i,p.2 = .flat (.int i))→KTD.datumAt k T = some d→∃ i,d = .flat (.int i):=by
      intro T
      induction T with
      | nil=>intro _ e; simp [KTD.datumAt] at e
      | cons p r ih =>
        intro hp e
        obtain ⟨x,y⟩:=p
        have e':(if decide (k = x) = true then some y else KTD.datumAt k r) = some d:=e
        by_cases hx:k = x
        · rw [if_pos (decide_eq_true hx)] at e'
          cases e'
          exact hp _ List.mem_cons_self
        · rw [if_neg (by simp [hx])] at e'
          exact ih (fun p hp'=>hp p (List.mem_cons_of_mem _ hp')) e'
    obtain ⟨i,rfl⟩:=all T hT e
    rfl
theorem Av:∀ p ∈ TL,∃ i,p.2 = .flat (.int i):=by
  intro p hp
  simp only [TL,List.mem_cons,List.not_mem_nil,or_false] at hp
  rcases hp with rfl | rfl <;> exact ⟨_,rfl⟩
theorem As:∀ p ∈ TB,∃ i,p.2 = .flat (.int i):=by
  intro p hp
  simp only [TB,List.mem_cons,List.not_mem_nil,or_false] at hp
  rcases hp with rfl | rfl | rfl | rfl | rfl <;> exact ⟨_,rfl⟩
theorem qO (T:Txt P w K mg)  : FnOk P w K mg base CX0 (k + 1) T.DP T.DQ ["thing","low","high"] (spD K fm):=by
  refine T.DS.ok sc_is_whole (fun vs H Q E h=>?_) (fun cdv A outer s H vs Q E hr h=>?_)
  · obtain ⟨ds,d,hd,⟨x,lo,hi,rfl,rfl⟩,_⟩:=h; exact hd.length.symm
  have nd:=sc_is_whole.nd
  obtain ⟨ds,d,hd,⟨x,lo,hi,rfl,rfl⟩,post⟩:=h
  obtain ⟨v0,v1,v2,rfl,h0,h1,h2⟩:=p7 hd
  have g1:=h1.intE
  have g2:=h2.intE
  subst g1 g2
  refine ⟨_,(ay (aL (fP (aH (cC wy) rfl T.CJ aQ (aV (pv 0) (aV (dj (v:=.ty "int") rfl T.JJ vP rfl) ag))) (fP (A2 (aH (cC tI) rfl T.CJ aQ (aV (pv 0) (aV (dj (v:=.ty "bool") rfl T.Jw sV rfl) ag)))) (fQ (qT ir ir (pv 1) (pv 0) (pv 2))))))),?_⟩
  refine bc (K:=K) (d:=.bl (cj x lo hi)) ?_ post
  cases x with
  | int i=>exact RE.as (cq (bA (ae h0)) fun _=>cq (xV (bA (ae h0))) fun _=>jN (ae h1) (ae h0) fun _=>ae h2) rfl
  | bl y=>exact RE.as (cq (c:=false) (bA (ae h0)) fun _=>RE.as (cq (c:=true) (xV (bA (ae h0))) fun z=>nomatch z) rfl) rfl
  | non=>exact RE.as (cq (c:=true) (bA (ae h0)) fun z=>nomatch z) rfl
  | str y=>exact RE.as (cq (c:=true) (bA (ae h0)) fun z=>nomatch z) rfl
  | tup y=>exact RE.as (cq (c:=true) (bA (ae h0)) fun z=>nomatch z) rfl
  | lst=>exact RE.as (cq (c:=true) (bA (ae h0)) fun z=>nomatch z) rfl
theorem oS (T:Txt P w K mg)  : FnOk P w K mg base CX0 (k + 1) T.DK T.DM ["thing"] (spD K gQ):=by
  refine T.Ef.ok sc_is_tagged (fun vs H Q E h=>?_) (fun cdv A outer s H vs Q E hr h=>?_)
  · obtain ⟨ds,d,hd,⟨x,rfl,rfl⟩,_⟩:=h; exact hd.length.symm
  have nd:=sc_is_tagged.nd
  obtain ⟨ds,d,hd,⟨x,rfl,rfl⟩,post⟩:=h
  obtain ⟨v0,rfl,h0⟩:=iz hd
  refine ⟨_,(ay (aL (fP (aH (cC fM) rfl T.CJ aQ (aV (pv 0) (aV (dj (v:=.ty "tuple") rfl T.DT cA rfl) ag))) (fP (cf qR (aH aR rfl T.C1 bI (aj (pv 0) ag)) ak (aU _)) (fQ (aH (cC wz) rfl T.CJ aQ (aV (aG aE (pv 0) ak (fun _ _=>rfl)) (aV (dj (v:=.ty "str") rfl T.JK vR rfl) ag)))))))),?_⟩
  refine bc (K:=K) (d:=.bl (cy x)) ?_ post
  cases x with
  | tup ds =>
    cases ds with
    | nil=>exact RE.as (cq (c:=false) (bA (ae h0)) fun _=>RE.as (cq (c:=true) (d4 (cg (ae h0)) ao) fun z=>nomatch z) rfl) rfl
    | cons y r =>
      have l:decide ((0:Int) < (((y :: r).length:Nat):Int)) = true:=decide_eq_true (by rw [List.length_cons]; omega)
      refine RE.as (cq (bA (ae h0)) fun _=>cq (RE.as (d4 (cg (ae h0)) ao) (congrArg D.bl l)) fun _=>bA (aK (k:=0) (ae h0) ao (show (y :: r)[0]? = some y from rfl))) ?_
      cases y <;> rfl
  | int i=>exact RE.as (cq (c:=true) (bA (ae h0)) fun z=>nomatch z) rfl
  | bl y=>exact RE.as (cq (c:=true) (bA (ae h0)) fun z=>nomatch z) rfl
  | non=>exact RE.as (cq (c:=true) (bA (ae h0)) fun z=>nomatch z) rfl
  | str y=>exact RE.as (cq (c:=true) (bA (ae h0)) fun z=>nomatch z) rfl
  | lst=>exact RE.as (cq (c:=true) (bA (ae h0)) fun z=>nomatch z) rfl
end
end My
end
section
namespace My
open PySem L2 PyProof.Rows
section
variable {P:Program} {w:World} {K:PySem.W.Frag} {mg:Str→Option Value} {base:Heap} {k:Nat}
theorem sf (T:Txt P w K mg) (D1:FnOk P w K mg base CX0 k T.DK T.DM ["thing"] (spD K gQ)) (Dy:FnOk P w K mg base CX0 k T.DP T.DQ ["thing","low","high"] (spD K fm)):FnOk P w K mg base CX0 (k + 1) T.FN T.FO ["thing"] (spD K vG):=by
  refine T.Gy.ok sc_is_node (fun vs H Q E h=>?_) (fun cdv A outer s H vs Q E hr h=>?_)
  · obtain ⟨ds,d,hd,⟨x,rfl,rfl⟩,_⟩:=h; exact hd.length.symm
  have nd:=sc_is_node.nd
  obtain ⟨ds,d,hd,⟨x,rfl,rfl⟩,post⟩:=h
  obtain ⟨v0,rfl,h0⟩:=iz hd
  refine ⟨_,(aq (bu (bM (br (aF D1 hr rfl T.FE T.Ef.kp (fU T) .nil aZ (aj (pv 0) ag)) (fun _=>rfl))) (ay (aL cE)) aS)
  (aq (bC (i:=1) nd rfl (Or.inl rfl) (aG aE (pv 0) ak (fun _ _=>rfl)))
  (aq (bu (aP jL (pv 1) (bp (v:=.ref T.D4) rfl T.Dn rfl) (by with_unfolding_all rfl)) (ay (aL (fP (cf bV (aH aR rfl T.C1 bI (aj (pv 0) ag)) ak (aU _)) (fQ (aF Dy hr rfl T.EI T.DS.kp (eK T) .nil aZ (aj (aG aE (pv 0) ak (fun _ _=>rfl)) (aj ak (aj (aG wD (bp (v:=.ref T.D4) rfl T.Dn rfl) (pv 1) (fun _ _=>rfl)) ag)))))))) aS)
  (ay (aL (fP (cf jL (pv 1) (bp (v:=.ref T.C2) rfl T.CO rfl) (by with_unfolding_all rfl)) (fQ (cf bV (aH aR rfl T.C1 bI (aj (pv 0) ag)) (bz fO ak (aG wD (bp (v:=.ref T.C2) rfl T.CO rfl) (pv 1) (fun _ _=>rfl))) (aU _))))))))),?_⟩
  refine aN (K:=K) (b:=!cy x) (bo (aO (bq (af (ae h0) aA) ⟨x,rfl,rfl⟩))) (fun c H1 s1=>?_) (fun c H1 s1=>?_)
  · refine bc (K:=K) (d:=.bl (cK x)) ?_ fun v H' s q=>post v H' (s1.trans s) q
    have e:cK x = false:=by
      unfold cK
      split
      · unfold cy at c; simp at c
      · rfl
    rw [e]
    exact dq
  · have h0':=s1.dat h0
    have c':cy x = true:=by simpa using c
    unfold cy at c'
    split at c'
    · rename_i kd r
      refine eG (K:=K) (d:=.str kd) (aK (k:=0) (ae h0') ao rfl) fun v1 H2 s2 q2=>?_
      have h2:=s2.dat h0'
      have ev:=q2.strE
      subst ev
      refine aN (K:=K) (b:=KTD.inKeys kd TL) (aC (fh (ae q2) T.Do)) (fun cL H3 s3=>?_) (fun cL H3 s3=>?_)
      · have h3:=s3.dat h2
        have e:cK (.tup (.str kd :: r)) = (decide ((r.length:Int) + 1 = 2) && cj (r.getD 0 .non) 0 (jm kd TL)):=by
          show (if KTD.inKeys kd TL = true then _ else _) = _
          rw [if_pos cL]
        refine bc (K:=K) (d:=.bl (cK (.tup (.str kd :: r)))) ?_ fun v H' s q=>post v H' (s1.trans (s2.trans (s3.trans s))) q
        rw [e]
        have el:((((D.str kd) :: r).length:Nat):Int) = (r.length:Int) + 1:=by rw [List.length_cons]; omega
        have b1:=pe (K:=K) (cg (ae (σ:=(cX ["thing","kind"] [v0]).set 1 (some (.str kd))) (k:=0) h3)) (ao (i:=2))
        rw [el] at b1
        refine cq b1 fun hl=>?_
        have hl':(r.length:Int) + 1 = 2:=of_decide_eq_true hl
        obtain ⟨y,er⟩:∃ y,r = [y]:=by
          match r,hl' with
          | [],h=>simp at h
          | [y],_=>exact ⟨y,rfl⟩
          | _ :: _ :: _,h=>simp at h; omega
        subst er
        refine bq (E:=E0) (R:=fm) (af (aK (k:=1) (ae h3) ao rfl) (af ao (af (rd (ae (s3.dat q2)) T.Do (by rfl) (B9 Av cL)) aA))) ⟨y,0,jm kd TL,rfl,rfl⟩
      · have h3:=s3.dat h2
        have e:cK (.tup (.str kd :: r)) = (KTD.inKeys kd TB && decide ((r.length:Int) + 1 = 1 + jm kd TB)):=by
          show (if KTD.inKeys kd TL = true then _ else _) = _
          rw [if_neg (by rw [cL]; exact Bool.false_ne_true)]
        refine bc (K:=K) (d:=.bl (cK (.tup (.str kd :: r)))) ?_ fun v H' s q=>post v H' (s1.trans (s2.trans (s3.trans s))) q
        rw [e]
        have el:((((D.str kd) :: r).length:Nat):Int) = (r.length:Int) + 1:=by rw [List.length_cons]; omega
        refine cq (fh (ae (s3.dat q2)) T.CP) fun cB=>?_
        have b1:=pe (K:=K) (cg (ae (σ:=(cX ["thing","kind"] [v0]).set 1 (some (.str kd))) (k:=0) h3)) (hX (ao (i:=1)) (rd (ae (σ:=(cX ["thing","kind"] [v0]).set 1 (some (.str kd))) (k:=1) (s3.dat q2)) T.CP (by rfl) (B9 As cB)))
        rw [el] at b1
        exact b1
    · cases c'
theorem kT (T:Txt P w K mg)  : FnOk P w K mg base CX0 (k + 1) T.Dj T.Dl ["tree"] (spD K gR):=by
  refine T.DG.ok sc_trees_within (fun vs H Q E h=>?_) (fun cdv A outer s H vs Q E hr h=>?_)
  · obtain ⟨ds,d,hd,⟨kd,r,rfl,rfl⟩,_⟩:=h; exact hd.length.symm
  have nd:=sc_trees_within.nd
  obtain ⟨ds,d,hd,⟨kd,r,rfl,rfl⟩,post⟩:=h
  obtain ⟨v0,rfl,h0⟩:=iz hd
  refine ⟨_,(aq (bu (aP jL (aG aE (pv 0) ak (fun _ _=>rfl)) (bp (v:=.ref T.C2) rfl T.CO rfl) (by with_unfolding_all rfl)) (ay (aL (eA ji (pv 0) (eE ak) fZ))) aS)
  (ay (aL (aT ag)))),?_⟩
  refine aN (K:=K) (b:=KTD.inKeys kd TB) (aC (fh (aK (k:=0) (ae h0) ao rfl) T.CP)) (fun c H1 s1=>?_) (fun c H1 s1=>?_)
  · refine bc (K:=K) (d:=.tup r) (gI (ae (s1.dat h0))) fun v H' s q=>post v H' (s1.trans s) ?_
    show Dat K H' (.tup (if KTD.inKeys kd TB = true then r else [])) v
    rw [if_pos c]
    exact q
  · refine bc (K:=K) (σ:=cX ["tree"] [v0]) (d:=.tup []) (aY aA) fun v H' s q=>post v H' (s1.trans s) ?_
    show Dat K H' (.tup (if KTD.inKeys kd TB = true then r else [])) v
    rw [if_neg (by rw [c]; exact Bool.false_ne_true)]
    exact q
theorem xx {ns:List Int} {k:Int} (h0:0 ≤ k) (h1:k < (ns.length:Int)):∃ z,atI (ns.map V.int) k = some (.int z):=by
  have hk:k.toNat < ns.length:=by omega
  refine ⟨ns[k.toNat],?_⟩
  have e:k = ((k.toNat:Nat):Int):=by omega
  have q:atI (ns.map V.int) ((k.toNat:Nat):Int) = some (.int ns[k.toNat]):=fD (by rw [List.getElem?_map,List.getElem?_eq_getElem hk] <;> rfl)
  rw [← e] at q
  exact q
theorem oM (T:Txt P w K mg)  : FnOk P w K mg base CX0 (k + 1) T.DJ T.DL ["_law_script","_law_town","_law_many"] (mH K):=by
  refine T.C9.ok sc__law_draw (fun vs H Q E h=>?_) (fun cdv A outer s H vs Q E hr h=>?_)
  · obtain ⟨a,t,ns,m,p,q,rest,rfl,_⟩:=h; rfl
  have nd:=sc__law_draw.nd
  obtain ⟨a,t,ns,m,p,q,rest,rfl,hS,hT,hp,hm,hm2,post⟩:=h
  refine ⟨_,(aq (bu (aP qR (aG bE (pv 1) ak (fun _ _=>rfl)) ak (aU _)) (aq (bC (i:=3) nd rfl (Or.inl rfl) (bz ef (aG bE (pv 1) ak (fun _ _=>rfl)) (pv 2)))
  (aq (eR (bz hV (aG bE (pv 1) ak (fun _ _=>rfl)) (pv 2)) (xw (pv 1) ak jQ))
  (ay (aL (pv 3))))) aS)
  (aq (bC (i:=4) nd rfl (Or.inl rfl) (aG bE (pv 1) ak (fun _ _=>rfl)))
  (aq (tT (pv 1) ak qr ak rR jQ)
  (aq (bu (aP (oY hr) (pv 0) (bB ag) (aU _)) (ay (aL (bz ef (pv 4) (pv 2)))) aS)
  (aq (bu (PW.pt (xF (aP nH (pv 4) (aH aR rfl T.C1 bI (aj (pv 0) ag)) (aU _)) (tU (aP xj (aG bE (pv 0) (pv 4) (fun _ _=>rfl)) (bz o3 ak ak) (aU _))))) (aq (eR (bz ef (bz hV (aG bE (pv 0) (pv 4) (fun _ _=>rfl)) (pv 2)) (bz yZ (bz o3 ak ak) (bz o3 ak ak))) (xw (pv 1) ak jQ))
  (ay (aL (bz ef (aG bE (pv 0) (pv 4) (fun _ _=>rfl)) (pv 2))))) aS)
  (aq (bC (i:=5) nd rfl (Or.inl rfl) (bz ef (bz fO (bz fO (bz xl (aG bE (pv 0) (bz ef (pv 4) (aH aR rfl T.C1 bI (aj (pv 0) ag))) (fun _ _=>rfl)) ak) (bz xl ak (pv 4))) ak) ak))
  (ay (aL (bz ef (bz ef (bz ef (bz o3 (pv 5) ak) ak) ak) (pv 2)))))))))),?_⟩
  refine ⟨_,rfl,t,_,1,_,rfl,rfl,SqL.of hT,at1,q,0,rfl,rfl,_,rfl,?_⟩
  refine mV (fun c=>?_) (fun c=>?_)
  · refine ⟨_,rfl,t,_,1,_,rfl,rfl,SqL.of hT,at1,_,rfl,q,m,rfl,rfl,hm,?_⟩
    refine ⟨_,rfl,t,_,1,_,rfl,rfl,SqL.of hT,at1,_,rfl,q,m,rfl,rfl,⟨hm,by omega⟩,?_⟩
    refine ⟨_,rfl,t,_,1,1,rfl,rfl,hT,ix1,?_⟩
    refine ⟨_,rfl,?_⟩
    exact post (q % m) _ p (q / m) (But.upd (Same.refl H).but) au hp (Int.emod_nonneg _ (by omega)) (Int.emod_lt_of_pos _ hm)
  refine ⟨_,rfl,t,_,0,_,rfl,rfl,SqL.of hT,at0,?_⟩
  refine ⟨_,rfl,t,_,0,_,rfl,rfl,Int.le_refl 0,SqL.of hT,rfl,p,1,rfl,rfl,t,_,0,0,rfl,rfl,hT,ix0,?_⟩
  refine ⟨_,rfl,(by show 0 ≤ sizeLine; decide),fun l hl=>?_⟩
  have bt1:But t H (upd H t (.lst ((V.int p :: .int q :: rest).set 0 (.int (p + 1))))):=But.upd (Same.refl H).but
  have hlt:l ≠ t:=fun z=>by rw [z,au] at hl; cases hl
  have bt3:=bt1.trans (aD hl (.lst [])).but
  have ht3:upd (upd H t (.lst ((V.int p :: .int q :: rest).set 0 (.int (p + 1))))) l (.lst []) t = some (.lst (.int (p + 1) :: .int q :: rest)):=by
    rw [aJ (Ne.symm hlt)]; exact au
  have hS3:=(hS.but bt3 hT).sqL
  have hlen:((ns.map V.int).length:Int) = (ns.length:Int):=by rw [List.length_map]
  refine ⟨a,l,_,[],ns.map D.int,[],rfl,rfl,hS3,SqL.of au,nj ns,Dats.nil,gE ns,(by unfold di; rfl),(by rw [kK]; decide),_,rfl,?_⟩
  show (if dE (ns.map D.int) [] = true then _ else _)
  rw [wj]
  refine mV (fun c0=>?_) (fun c0=>?_)
  · refine ⟨_,rfl,_,rfl,p,m,rfl,rfl,hm,?_⟩
    exact post _ _ (p + 1) q bt3 ht3 (by omega) (Int.emod_nonneg _ (by omega)) (Int.emod_lt_of_pos _ hm)
  have hl0:(0:Int) < ((ns.map V.int).length:Int):=by
    rw [hlen]
    cases ns with
    | nil=>exact absurd rfl c0
    | cons n ns=>rw [List.length_cons]; omega
  refine ⟨_,rfl,_,rfl,a,_,rfl,.inl hS3,p,_,rfl,rfl,_,rfl,?_⟩
  refine mV (fun c1=>?_) (fun c1=>?_)
  · have c1':p < ((ns.map V.int).length:Int):=of_decide_eq_true c1
    obtain ⟨z,hz⟩:=xx (ns:=ns) hp (by rw [← hlen]; exact c1')
    refine ⟨_,rfl,_,rfl,a,_,p,_,rfl,rfl,hS3,hz,10,18,rfl,rfl,⟨by decide,by decide,by decide⟩,z,_,rfl,rfl,_,rfl,?_⟩
    refine mV (fun c2=>?_) (fun c2=>?_)
    · refine ⟨_,rfl,_,rfl,a,_,p,_,rfl,rfl,hS3,hz,_,rfl,z,m,rfl,rfl,⟨hm,by omega⟩,10,60,rfl,rfl,⟨by decide,by decide,by decide⟩,10,60,rfl,rfl,⟨by decide,by decide,by decide⟩,_,_,rfl,rfl,IntMulOk.of_bits (by decide +kernel) (by decide +kernel),_,_,rfl,rfl,(by show (0:Int) < 10 ^ (60:Int).toNat * 10 ^ (60:Int).toNat; decide +kernel),?_⟩
      refine ⟨_,rfl,t,_,1,1,rfl,rfl,ht3,ix1,?_⟩
      refine ⟨_,rfl,_,rfl,a,_,p,_,rfl,rfl,(hS.but bt3.upd hT).sqL,hz,_,rfl,z,m,rfl,rfl,hm,?_⟩
      exact post _ _ (p + 1) _ bt3.upd au (by omega) (Int.emod_nonneg _ (by omega)) (Int.emod_lt_of_pos _ hm)
    · refine ⟨_,rfl,_,rfl,_,rfl,a,_,rfl,.inl hS3,p,_,rfl,rfl,hl0,?_⟩
      obtain ⟨z2,hz2⟩:=xx (ns:=ns) (Int.emod_nonneg p (by omega:((ns.map V.int).length:Int) ≠ 0)) (by rw [← hlen]; exact Int.emod_lt_of_pos p hl0)
      refine ⟨a,_,_,_,rfl,rfl,hS3,hz2,z2,1103515245,rfl,rfl,.inr ⟨by decide,by decide⟩,_,rfl,7919,p,rfl,rfl,.inl ⟨by decide,by decide⟩,_,_,rfl,rfl,_,_,rfl,rfl,_,_,rfl,rfl,(by show (0:Int) < 2147483647; decide),?_⟩
      have m1:=Int.emod_nonneg (z2 * 1103515245 + 7919 * p + 12345) (by decide:(2147483647:Int) ≠ 0)
      have m2:=Int.emod_lt_of_pos (z2 * 1103515245 + 7919 * p + 12345) (by decide:(0:Int) < 2147483647)
      refine ⟨_,rfl,_,5,rfl,rfl,⟨by decide,by decide,by omega⟩,_,_,rfl,rfl,(by show (0:Int) < 2147483647; decide),_,_,rfl,rfl,(by show (0:Int) < 999983; decide),_,rfl,_,m,rfl,rfl,hm,?_⟩
      exact post _ _ (p + 1) q bt3 ht3 (by omega) (Int.emod_nonneg _ (by omega)) (Int.emod_lt_of_pos _ hm)
  · refine ⟨_,rfl,_,rfl,_,rfl,a,_,rfl,.inl hS3,p,_,rfl,rfl,hl0,?_⟩
    obtain ⟨z2,hz2⟩:=xx (ns:=ns) (Int.emod_nonneg p (by omega:((ns.map V.int).length:Int) ≠ 0)) (by rw [← hlen]; exact Int.emod_lt_of_pos p hl0)
    refine ⟨a,_,_,_,rfl,rfl,hS3,hz2,z2,1103515245,rfl,rfl,.inr ⟨by decide,by decide⟩,_,rfl,7919,p,rfl,rfl,.inl ⟨by decide,by decide⟩,_,_,rfl,rfl,_,_,rfl,rfl,_,_,rfl,rfl,(by show (0:Int) < 2147483647; decide),?_⟩
    have m1:=Int.emod_nonneg (z2 * 1103515245 + 7919 * p + 12345) (by decide:(2147483647:Int) ≠ 0)
    have m2:=Int.emod_lt_of_pos (z2 * 1103515245 + 7919 * p + 12345) (by decide:(0:Int) < 2147483647)
    refine ⟨_,rfl,_,5,rfl,rfl,⟨by decide,by decide,by omega⟩,_,_,rfl,rfl,(by show (0:Int) < 2147483647; decide),_,_,rfl,rfl,(by show (0:Int) < 999983; decide),_,rfl,_,m,rfl,rfl,hm,?_⟩
    exact post _ _ (p + 1) q bt3 ht3 (by omega) (Int.emod_nonneg _ (by omega)) (Int.emod_lt_of_pos _ hm)
def pH (K:PySem.W.Frag):Sp:=fun vs H Q _=>∃ (a t l:Addr) (ns:List Int) (xs:List V) (p q:Int) (rest:List V),vs = [.ref a,.ref t,.ref l]∧Scr K H a ns∧SqL K H l xs∧l ≠ t∧0 < xs.length∧xs.length ≤ 1000000 ∧
  H t = some (.lst (.int p :: .int q :: rest))∧0 ≤ p∧∀ (i:Nat) (x:V) (H':Hp) (p' q':Int),But t H H'→H' t = some (.lst (.int p' :: .int q' :: rest))→0 ≤ p'→xs[i]? = some x→Q x H'
theorem oQ (T:Txt P w K mg) (C8:FnOk P w K mg base CX0 k T.DJ T.DL ["_law_script","_law_town","_law_many"] (mH K)):FnOk P w K mg base CX0 (k + 1) T.D7 T.Ec ["_law_script","_law_town","_law_some"] (pH K):=by
  refine T.DN.ok sc__law_pick (fun vs H Q E h=>?_) (fun cdv A outer s H vs Q E hr h=>?_)
  · obtain ⟨a,t,l,ns,xs,p,q,rest,rfl,_⟩:=h; rfl
  have nd:=sc__law_pick.nd
  obtain ⟨a,t,l,ns,xs,p,q,rest,rfl,hS,hL,hlt,hx0,hx1,hT,hp,post⟩:=h
  refine ⟨_,(ay (aL (aG bE (pv 2) (aF C8 hr rfl T.DO T.C9.kp (dC T) .nil aZ (aj (pv 0) (aj (pv 1) (aj (aH aR rfl T.C1 bI (aj (pv 2) ag)) ag)))) (fun _ _=>rfl)))),?_⟩
  refine ⟨_,rfl,_,rfl,_,rfl,_,rfl,l,xs,rfl,.inl hL,a,t,ns,(xs.length:Int),p,q,rest,rfl,hS,hT,hp,by omega,by omega,fun r H1 p1 q1 b1 t1 g1 r0 r1=>?_⟩
  have hr':r.toNat < xs.length:=by omega
  have er:r = ((r.toNat:Nat):Int):=by omega
  have z:atI xs ((r.toNat:Nat):Int) = some xs[r.toNat]:=fD (List.getElem?_eq_getElem hr')
  rw [← er] at z
  exact ⟨l,xs,r,xs[r.toNat],rfl,rfl,b1.sqL hlt hL,z,post r.toNat _ H1 p1 q1 b1 t1 g1 (List.getElem?_eq_getElem hr')⟩
end
end My
end
section
namespace My
open PySem L2 PyProof.Rows
inductive Tr where
  | num (n:Int)
  | arg (k:Int)
  | two (o:Str) (a b:Tr)
  | pick (a b c:Tr)
def toD:Tr→D
  | .num n=>.tup [.str "num",.int n]
  | .arg k=>.tup [.str "arg",.int k]
  | .two o a b=>.tup [.str o,toD a,toD b]
  | .pick a b c=>.tup [.str "pick",toD a,toD b,toD c]
def okT:Tr→Prop
  | .num n=>0 ≤ n∧n ≤ 9999
  | .arg k=>0 ≤ k∧k ≤ 3
  | .two o a b=>(o = "add"∨o = "sub"∨o = "mul"∨o = "less")∧okT a∧okT b
  | .pick a b c=>okT a∧okT b∧okT c
def bf:Tr→Nat
  | .num _=>1
  | .arg _=>1
  | .two _ a b=>max (bf a) (bf b) + 1
  | .pick a b c=>max (bf a) (max (bf b) (bf c)) + 1
def aX:Tr→Nat
  | .num _=>1
  | .arg _=>1
  | .two _ a b=>aX a + aX b + 1
  | .pick a b c=>aX a + aX b + aX c + 1
def d8:Tr→List Tr
  | .num _=>[]
  | .arg _=>[]
  | .two _ a b=>[a,b]
  | .pick a b c=>[a,b,c]
def bT:Tr→List Tr
  | .num n=>[.num n]
  | .arg k=>[.arg k]
  | .two o a b=>.two o a b :: (bT a ++ bT b)
  | .pick a b c=>.pick a b c :: (bT a ++ bT b ++ bT c)
theorem nq (t:Tr):1 ≤ bf t:=by cases t <;> simp [bf]
theorem w9 {o:Str} (h:o = "add"∨o = "sub"∨o = "mul"∨o = "less"):KTD.inKeys o TL = false∧KTD.inKeys o TB = true∧jm o TB = 2:=by
  rcases h with rfl | rfl | rfl | rfl <;> decide +kernel
theorem uJ:KTD.inKeys ("pick":Str) TL = false∧KTD.inKeys ("pick":Str) TB = true∧jm ("pick":Str) TB = 3:=by decide +kernel
theorem wZ:KTD.inKeys ("num":Str) TL = true∧KTD.inKeys ("num":Str) TB = false∧jm ("num":Str) TL = 9999:=by decide +kernel
theorem wY:KTD.inKeys ("arg":Str) TL = true∧KTD.inKeys ("arg":Str) TB = false∧jm ("arg":Str) TL = 3:=by decide +kernel
theorem mh {k:Str} {r:List D} (h:KTD.inKeys k TL = true):cK (.tup (.str k :: r)) = (decide ((r.length:Int) + 1 = 2) && cj (r.getD 0 .non) 0 (jm k TL)):=by
  unfold cK
  dsimp only
  rw [if_pos h]
theorem mf {k:Str} {r:List D} (h:KTD.inKeys k TL = false):cK (.tup (.str k :: r)) = (KTD.inKeys k TB && decide ((r.length:Int) + 1 = 1 + jm k TB)):=by
  unfold cK
  dsimp only
  rw [if_neg (by rw [h]; exact Bool.false_ne_true)]
theorem qA {k:Str} {r:List D} (h:KTD.inKeys k TB = true):bU (.tup (.str k :: r)) = r:=by
  unfold bU
  dsimp only
  rw [if_pos h]
theorem ke {k:Str} {r:List D} (h:KTD.inKeys k TB = false):bU (.tup (.str k :: r)) = []:=by
  unfold bU
  dsimp only
  rw [if_neg (by rw [h]; exact Bool.false_ne_true)]
theorem kW:∀ t:Tr,okT t→cK (toD t) = true∧bU (toD t) = (d8 t).map toD
  | .num n,h=>by
    obtain ⟨h1,h2,h3⟩:=wZ
    refine ⟨?_,ke h2⟩
    unfold toD
    rw [mh h1,h3]
    show (decide ((1:Int) + 1 = 2) && (decide (0 ≤ n) && decide (n ≤ 9999))) = true
    simp [h.1,h.2]
  | .arg n,h=>by
    obtain ⟨h1,h2,h3⟩:=wY
    refine ⟨?_,ke h2⟩
    unfold toD
    rw [mh h1,h3]
    show (decide ((1:Int) + 1 = 2) && (decide (0 ≤ n) && decide (n ≤ 3))) = true
    simp [h.1,h.2]
  | .two o a b,h=>by
    obtain ⟨h1,h2,h3⟩:=w9 h.1
    refine ⟨?_,qA h2⟩
    unfold toD
    rw [mf h1,h2,h3]
    rfl
  | .pick a b c,h=>by
    obtain ⟨h1,h2,h3⟩:=uJ
    refine ⟨?_,qA h2⟩
    unfold toD
    rw [mf h1,h2,h3]
    rfl
def i4:Nat→List (D × Int)→Int→Bool
  | 0,_,_=>false
  | _ + 1,[],_=>true
  | n + 1,(d,dp) :: st,p=>if (decide (40 < p + 1) || (decide (8 < dp) || !cK d)) = true then false else i4 n (((bU d).map fun x=>(x,dp + 1)).reverse ++ st) (p + 1)
def eV (d:D):Bool:=i4 50 [(d,1)] 0
theorem iL {n:Nat} {d:D} {dp:Int} {st:List (D × Int)} {p:Int} (h1:p + 1 ≤ 40) (h2:dp ≤ 8) (h3:cK d = true):i4 (n + 1) ((d,dp) :: st) p = i4 n (((bU d).map fun x=>(x,dp + 1)).reverse ++ st) (p + 1):=by
  show (if _ = true then false else _) = _
  rw [if_neg]
  simp [h3]
  omega
theorem fJ:∀ (t:Tr),okT t→∀ (n:Nat) (dp:Int) (st:List (D × Int)) (p:Int),(bf t:Int) + dp ≤ 9→p + (aX t:Int) ≤ 40→i4 (n + aX t) ((toD t,dp) :: st) p = i4 n st (p + aX t)
  | .num m,h,n,dp,st,p,h1,h2=>by
    obtain ⟨e1,e2⟩:=kW (.num m) h
    simp only [bf,aX] at h1 h2 ⊢
    rw [iL (by omega) (by omega) e1,e2]
    rfl
  | .arg m,h,n,dp,st,p,h1,h2=>by
    obtain ⟨e1,e2⟩:=kW (.arg m) h
    simp only [bf,aX] at h1 h2 ⊢
    rw [iL (by omega) (by omega) e1,e2]
    rfl
  | .two o a b,h,n,dp,st,p,h1,h2=>by
    obtain ⟨e1,e2⟩:=kW (.two o a b) h
    have d1:=nq a
    simp only [bf,aX] at h1 h2 ⊢
    have g1:(bf a:Int) + (dp + 1) ≤ 9:=by omega
    have g2:(bf b:Int) + (dp + 1) ≤ 9:=by omega
    rw [show n + (aX a + aX b + 1) = (n + aX a + aX b) + 1 by omega,iL (by omega) (by omega) e1,e2]
    show i4 (n + aX a + aX b) ((toD b,dp + 1) :: (toD a,dp + 1) :: st) (p + 1) = _
    rw [fJ b h.2.2 (n + aX a) (dp + 1) ((toD a,dp + 1) :: st) (p + 1) g2 (by omega),fJ a h.2.1 n (dp + 1) st _ g1 (by omega)]
    congr 1
    omega
  | .pick a b c,h,n,dp,st,p,h1,h2=>by
    obtain ⟨e1,e2⟩:=kW (.pick a b c) h
    have d1:=nq a
    simp only [bf,aX] at h1 h2 ⊢
    have g1:(bf a:Int) + (dp + 1) ≤ 9:=by omega
    have g2:(bf b:Int) + (dp + 1) ≤ 9:=by omega
    have g3:(bf c:Int) + (dp + 1) ≤ 9:=by omega
    rw [show n + (aX a + aX b + aX c + 1) = (n + aX a + aX b + aX c) + 1 by omega,iL (by omega) (by omega) e1,e2]
    show i4 (n + aX a + aX b + aX c) ((toD c,dp + 1) :: (toD b,dp + 1) :: (toD a,dp + 1) :: st) (p + 1) = _
    rw [fJ c h.2.2 (n + aX a + aX b) (dp + 1) _ (p + 1) g3 (by omega),fJ b h.2.1 (n + aX a) (dp + 1) _ _ g2 (by omega),fJ a h.1 n (dp + 1) st _ g1 (by omega)]
    congr 1
    omega
theorem pN {t:Tr} (h:okT t) (h1:bf t ≤ 8) (h2:aX t ≤ 40):eV (toD t) = true:=by
  have q:=fJ t h (50 - aX t) 1 [] 0 (by omega) (by omega)
  rw [show 50 - aX t + aX t = 50 by omega] at q
  unfold eV
  rw [q]
  obtain ⟨m,e⟩:∃ m,50 - aX t = m + 1:=⟨50 - aX t - 1,by omega⟩
  rw [e]
  rfl
end My
end
section
namespace My
open PySem L2 PyProof.Rows
section
variable {P:Program} {w:World} {K:PySem.W.Frag} {mg:Str→Option Value} {base:Heap} {k:Nat}
def mu2 (σ:L2.St) (_:Hp):Nat:=match σ[2]? with
  | some (some (V.int p))=>(50 - p).toNat
  | _=>0
def sQ (ds:List D) (d:D):Prop:=∃ x,ds = [x]∧d = .bl (eV x)
abbrev pr (x:D × Int):D:=.tup [x.1,.int x.2]
theorem nk {K:PySem.W.Frag} {H:Hp} {b:D}:∀ {as:List D} {vs:List V},Dats K H (as ++ [b]) vs→∃ us v,vs = us ++ [v]∧Dats K H as us∧Dat K H b v
  | [],vs,h=>by
    obtain ⟨v,e,q⟩:=iz h
    exact ⟨[],v,e,Dats.nil,q⟩
  | a :: as,vs,h=>by
    obtain ⟨u,r,e,h1,h2⟩:=h.consE
    obtain ⟨us,v,e2,h3,h4⟩:=nk h2
    subst e2 e
    exact ⟨u :: us,v,rfl,Dats.cons h1 h3,h4⟩
theorem zK (k:Str):jm k TB ≤ 3:=by
  unfold jm
  split
  · rename_i i e
    simp only [TB,KTD.datumAt] at e
    repeat' split at e
    all_goals first
      | (cases e; decide)
      | cases e
  · decide
theorem lX {d:D} (h:cK d = true):(bU d).length ≤ 3:=by
  unfold cK at h
  split at h
  · rename_i k r
    unfold bU
    dsimp only
    split
    · rename_i hb
      split at h
      · rw [Bool.and_eq_true] at h
        have z:=of_decide_eq_true h.1
        omega
      · rw [Bool.and_eq_true] at h
        have z:=of_decide_eq_true h.2
        have z2:=zK k
        omega
    · exact Nat.zero_le _
  · cases h
theorem mi {d:D} (h:cK d = true):∃ k r,d = .tup (.str k :: r):=by
  unfold cK at h
  split at h
  · exact ⟨_,_,rfl⟩
  · cases h
theorem si (T:Txt P w K mg) (HX:FnOk P w K mg base CX0 k T.FN T.FO ["thing"] (spD K vG)) (D2:FnOk P w K mg base CX0 k T.Dj T.Dl ["tree"] (spD K gR)):FnOk P w K mg base CX0 (k + 1) T.Gq T.Gw ["thing"] (spD K sQ):=by
  refine T.Hq.ok sc_is_tree (fun vs H Q E h=>?_) (fun cdv A outer s H vs Q E hr h=>?_)
  · obtain ⟨ds,d,hd,⟨x,rfl,rfl⟩,_⟩:=h; exact hd.length.symm
  have nd:=sc_is_tree.nd
  obtain ⟨ds,d,hd,⟨x,rfl,rfl⟩,post⟩:=h
  obtain ⟨v0,rfl,h0⟩:=iz hd
  refine ⟨_,(aq (bC (i:=1) nd rfl (Or.inl rfl) (bB (aj (aT (aj (pv 0) (aj ak ag))) ag)))
  (aq (bC (i:=2) nd rfl (Or.inl rfl) ak)
  (aq (qU PassesOwn.never (br (pv 1) (fun _=>rfl)) (aq (eR (A1 PySem.F.plainAttrs_list PySem.F.slot_list_pop PySem.F.type_list_pop AW (pv 1)) (eQ rfl (bg (aW (i:=3) nd rfl (Or.inl rfl)) (bg (aW (i:=4) nd rfl (Or.inr rfl)) cG))))
  (aq (xB (i:=2) nd rfl (Or.inl rfl) ak rR)
  (aq (bu (PW.pt (cW (aP qR (pv 2) (bp (v:=.int 40) rfl T.El ⟨_,rfl⟩) (aU _)) (cW (aP qR (pv 4) (bp (v:=.int 8) rfl T.EL ⟨_,rfl⟩) (aU _)) (dm (bM (br (aF HX hr rfl T.Ie T.Gy.kp (m7 T) .nil aZ (aj (pv 3) ag)) (fun _=>rfl))))))) (ay (aL cE)) aS)
  (ay (bF (cV PySem.F.plainAttrs_list PySem.F.slot_list_extend PySem.F.type_list_extend d9 (pv 1) (aj (dk (own:=["within"]) (fr:=[4]) (N':=["within","deep"]) (jg (aF D2 hr rfl T.E3 T.DG.kp (fK T) .nil aZ (aj (pv 3) ag))) rfl (by show cm ["thing","waiting","parts","part","deep"] (fun x=>(aB gM).names.lookup x) _ _ _ _ = true; decide +kernel) rfl (fun _ _ _ _ _=>(aW (i:=0) (by show List.Nodup [("within":Str),("deep":Str)]; decide +kernel) rfl (Or.inl rfl))) (fun _ _ _ _ _=>b9) (fun _ _ _ _ _=>(aT (aj (pv 0) (aj (bz fO (pv 1) ak) ag))))) ag))))))))
  (ay (aL cE))))),?_⟩
  refine cJ (pw (K:=K) (af (aY (af (ae h0) (af ao aA))) aA) fun wl vs1 H1 s1 hw q1=>?_)
  have hw0:H wl = none:=s1.free hw
  have s1':Same H (upd H1 wl (.lst vs1)):=s1.trans (aD hw _)
  refine cJ (xX (cO (rB (fun σ G=>∃ (st:List (D × Int)) (p:Int) (n:Nat) (xs:List V) (z3 z4:Option V),σ = [some v0,some (.ref wl),some (.int p),z3,z4]∧G wl = some (.lst xs)∧Dats K G (st.reverse.map pr) xs∧Same H G∧i4 n st p = eV x∧0 ≤ p∧p ≤ 40∧(n:Int) = 50 - p∧(xs.length:Int) ≤ 1 + 3 * p)
    mu2 ?_ ?_ ?_)))
  · refine ⟨[(x,1)],0,50,vs1,none,none,rfl,au,(aD hw _).dats q1,s1',rfl,by decide,by decide,by decide,?_⟩
    rw [← q1.length]
    simp
  · rintro σ G ⟨st,p,n,xs,z3,z4,rfl,hG,hd,sG,lp,p0,p1,en,lx⟩
    refine ⟨_,rfl,!xs.isEmpty,.inl ⟨xs,SqL.of hG,rfl⟩,?_⟩
    cases st with
    | nil =>
      have ex:=hd.nilE
      subst ex
      rw [if_neg (by simp)]
      obtain ⟨m,rfl⟩:∃ m,n = m + 1:=⟨n - 1,by omega⟩
      have lp':eV x = true:=lp.symm
      refine post _ _ sG ?_
      rw [lp']
      exact Dat.blI _
    | cons e st =>
      obtain ⟨y,dp⟩:=e
      rw [List.reverse_cons,List.map_append] at hd
      obtain ⟨us,v,ex,hu,hv⟩:=nk hd
      subst ex
      obtain ⟨a,ws,ev,hq,hws⟩:=hv.tupE
      obtain ⟨vy,vd,ew,hy,hdp⟩:=fA hws
      have edp:=hdp.intE
      subst edp ew ev
      rw [if_pos (by simp)]
      refine ⟨_,rfl,.inl ⟨rfl,_,SqL.of hG⟩,wl,us ++ [.ref a],.ref a,rfl,rfl,hG,(by simp),?_⟩
      rw [List.dropLast_concat]
      have bt:But wl G (upd G wl (.lst us)):=But.upd (Same.refl G).but
      have g2:cQ K G (upd G wl (.lst us)):=bt.grow hG au
      refine ⟨a,[vy,.int dp],rfl,bt.sqT hG hq,rfl,vy,_,rfl,.int dp,_,rfl,rfl,?_⟩
      have s2:Same H (upd G wl (.lst us)):=fun b o hb=>bt b o (az hb hw0) (sG b o hb)
      have hy2:=Dat.mono g2 _ hy
      have hu2:=Dats.mono g2 _ hu
      refine ⟨_,rfl,p,1,rfl,rfl,?_⟩
      dsimp only
      refine aN (K:=K) (b:=decide (40 < p + 1) || (decide (8 < dp) || !cK y)) ?_ (fun c H3 s3=>?_) (fun c H3 s3=>?_)
      · exact bN (aC (d4 (ae (K:=K) (Dat.intI (p + 1))) ao)) fun _=>bN (aC (d4 (ae (K:=K) (Dat.intI dp)) ao)) fun _=>bo (aO (bq (af (ae hy2) aA) ⟨y,rfl,rfl⟩))
      · refine post _ _ (s2.trans s3) ?_
        obtain ⟨m,rfl⟩:∃ m,n = m + 1:=⟨n - 1,by omega⟩
        have lp':eV x = false:=by
          rw [← lp]
          show (if (decide (40 < p + 1) || (decide (8 < dp) || !cK y)) = true then false else _) = false
          rw [if_pos c]
        rw [lp']
        exact Dat.blI _
      · obtain ⟨m,rfl⟩:∃ m,n = m + 1:=⟨n - 1,by omega⟩
        have lp':i4 m (((bU y).map fun x=>(x,dp + 1)).reverse ++ st) (p + 1) = eV x:=by
          rw [← lp]
          show _ = (if (decide (40 < p + 1) || (decide (8 < dp) || !cK y)) = true then false else _)
          rw [if_neg (by rw [c]; exact Bool.false_ne_true)]
        simp only [Bool.or_eq_false_iff,decide_eq_false_iff_not,Bool.not_eq_false'] at c
        obtain ⟨c1,c2,c3⟩:=c
        obtain ⟨kd,r,ey⟩:=mi c3
        have few:=lX c3
        have hw3:=s3 _ _ (show upd G wl (.lst us) wl = some (.lst us) from au)
        refine ⟨_,rfl,.inl ⟨rfl,_,SqL.of hw3⟩,?_⟩
        refine nN (K:=K) (cs:=bU y) (bq (R:=gR) (af (ae (s3.dat hy2)) aA) ⟨kd,r,by rw [ey],by rw [ey]⟩) (by omega) ((bU y).map fun z=>pr (z,dp + 1)) (List.length_map _) rfl (fun H4 i z vz d s4 hz hi hvz=>?_) (fun l ys H5 hl s5 hl5 hd5=>?_)
        · rw [List.getElem?_map,hz] at hi
          cases hi
          exact aY (af (ae hvz) (af (hX (ae (Dat.intI dp)) ao) aA))
        · have hw5:=s5 _ _ hw3
          have ly:ys.length = (bU y).length:=by rw [← hd5.length,List.length_map]
          have lu:us.length = st.length:=by rw [← hu.length,List.length_map,List.length_reverse]
          rw [List.length_append,List.length_singleton] at lx
          have b5:But wl H5 (upd H5 wl (.lst (us ++ ys))):=But.upd (Same.refl H5).but
          have g5:cQ K H5 (upd H5 wl (.lst (us ++ ys))):=b5.grow hw5 au
          refine ⟨wl,l,us,ys,rfl,rfl,hw5,hl5,bW (by omega),?_⟩
          refine ⟨⟨_,p + 1,m,us ++ ys,_,_,rfl,au,?_,?_,lp',by omega,by omega,by omega,?_⟩,?_⟩
          · rw [List.reverse_append,List.reverse_reverse,List.map_append,List.map_map]
            exact Dats.append (Dats.mono g5 _ ((s3.trans s5).dats hu2)) (Dats.mono g5 _ hd5)
          · exact fun b o hb=>b5 b o (az hb hw0) (s5 _ _ (s3 _ _ (s2 _ _ hb)))
          · rw [List.length_append]
            omega
          · show (50 - (p + 1)).toNat < (50 - p).toNat
            omega
  · intro σ G Q1 Q2 hQ hc
    obtain ⟨v,e,k',tr,q⟩:=hc
    exact ⟨v,e,k',tr,hQ _ _ q⟩
theorem oW (T:Txt P w K mg) (JF:FnOk P w K mg base CX0 k T.Gq T.Gw ["thing"] (spD K sQ)):FnOk P w K mg base CX0 (k + 1) T.EJ T.EK ["tree"] (spD K fun ds d=>∃ x,ds = [x]∧eV x = true∧d = .non):=by
  refine T.FD.ok sc_need_tree (fun vs H Q E h=>?_) (fun cdv A outer s H vs Q E hr h=>?_)
  · obtain ⟨ds,d,hd,⟨x,rfl,_,rfl⟩,_⟩:=h; exact hd.length.symm
  have nd:=sc_need_tree.nd
  obtain ⟨ds,d,hd,⟨x,rfl,hx,rfl⟩,post⟩:=h
  obtain ⟨v0,rfl,h0⟩:=iz hd
  refine ⟨_,(ay (bu (bM (br (aF JF hr rfl T.IT T.Hq.kp (uk T) .nil aZ (aj (pv 0) ag)) (fun _=>rfl))) (ay jM) aS)),?_⟩
  refine gJ (b:=!eV x) (bo (aO (bq (af (ae h0) aA) ⟨x,rfl,rfl⟩))) (fun c H1 s1=>?_) (fun c H1 s1=>?_)
  · rw [hx] at c
    cases c
  · exact post _ _ s1 Dat.nonI
end
end My
end
section
namespace My
open PySem L2 PyProof.Rows
section
variable {P:Program} {w:World} {K:PySem.W.Frag} {mg:Str→Option Value} {base:Heap} {k:Nat}
theorem jf (t:Tr):bT t = t :: (d8 t).flatMap bT:=by
  cases t <;> simp [bT,d8]
end
end My
end
section
namespace My
open PySem L2 PyProof.Rows
section
variable {P:Program} {w:World} {K:PySem.W.Frag} {mg:Str→Option Value} {base:Heap} {k:Nat}
def mI (K:PySem.W.Frag) (n:Nat):Sp:=fun vs H Q _=>∃ (a t:Addr) (ns:List Int) (room p q c:Int),vs = [.ref a,.ref t,.int room]∧Scr K H a ns∧H t = some (.lst [.int p,.int q,.int c])∧0 ≤ p∧0 ≤ c∧c ≤ 60∧room ≤ n∧1 ≤ n ∧
  ∀ (v:V) (H':Hp) (X:Tr) (p' q' c':Int),But t H H'→H' t = some (.lst [.int p',.int q',.int c'])→0 ≤ p'→0 ≤ c'→c' ≤ c→okT X→((bf X:Int) = 1∨(bf X:Int) ≤ room)→(aX X:Int) ≤ 1 + 3 * (c - c')→Dat K H' (toD X) v→Q v H'
def rl (Ts:List Tr):Nat:=(Ts.map aX).sum
theorem vi (Ts:List Tr) (x:Tr):rl (Ts ++ [x]) = rl Ts + aX x:=by simp [rl]
def zU:Tr→Prop
  | .num n=>0 ≤ n∧n ≤ 9999
  | .arg k=>0 ≤ k∧k ≤ 3
  | _=>False
theorem yO {x:Tr} (h:zU x):okT x∧bf x = 1∧aX x = 1:=by
  cases x with
  | num n=>exact ⟨h,rfl,rfl⟩
  | arg n=>exact ⟨h,rfl,rfl⟩
  | two o a b=>exact h.elim
  | pick a b c=>exact h.elim
theorem ye {nm:Str} {Ts:List Tr} {room:Int} (hr:2 ≤ room) (ok:∀ x ∈ Ts,okT x∧((bf x:Int) = 1∨(bf x:Int) ≤ room - 1)) (h:(nm = "pick"∧Ts.length = 3)∨((nm = "add"∨nm = "sub"∨nm = "mul"∨nm = "less")∧Ts.length = 2)) :
    ∃ X:Tr,toD X = .tup (.str nm :: Ts.map toD)∧okT X∧(bf X:Int) ≤ room∧aX X = 1 + rl Ts:=by
  rcases h with ⟨rfl,hl⟩ | ⟨hn,hl⟩
  · match Ts,hl with
    | [a,b,c],_ =>
      have h1:=ok a (by simp)
      have h2:=ok b (by simp)
      have h3:=ok c (by simp)
      refine ⟨.pick a b c,rfl,⟨h1.1,h2.1,h3.1⟩,?_,?_⟩
      · simp only [bf]; omega
      · simp [aX,rl]; omega
  · match Ts,hl with
    | [a,b],_ =>
      have h1:=ok a (by simp)
      have h2:=ok b (by simp)
      refine ⟨.two nm a b,rfl,⟨hn,h1.1,h2.1⟩,?_,?_⟩
      · simp only [bf]; omega
      · simp [aX,rl]; omega
theorem oR (T:Txt P w K mg) {n:Nat} (C8:FnOk P w K mg base CX0 k T.DJ T.DL ["_law_script","_law_town","_law_many"] (mH K)) (D0:FnOk P w K mg base CX0 k T.D7 T.Ec ["_law_script","_law_town","_law_some"] (pH K)) (GX:FnOk P w K mg base CX0 k T.D8 T.Ed ["_law_script","_law_town","_law_room"] (mI K n)):FnOk P w K mg base CX0 (k + 1) T.D8 T.Ed ["_law_script","_law_town","_law_room"] (mI K (n + 1)):=by
  refine T.FB.ok sc__law_tree (fun vs H Q E h=>?_) (fun cdv A outer s H vs Q E hr h=>?_)
  · obtain ⟨a,t,ns,room,p,q,c,rfl,_⟩:=h; rfl
  have nd:=sc__law_tree.nd
  obtain ⟨a,t,ns,room,p,q,c,rfl,hS,hT,hp,hc,hc2,hroom,_,post⟩:=h
  refine ⟨_,(aq (bC (i:=3) nd rfl (Or.inl rfl) (aT (aj aM (aj (aF C8 hr rfl T.DO T.C9.kp (dC T) .nil aZ (aj (pv 0) (aj (pv 1) (aj ak ag)))) ag))))
  (aq (bu (aP bV (aF C8 hr rfl T.DO T.C9.kp (dC T) .nil aZ (aj (pv 0) (aj (pv 1) (aj ak ag)))) ak (aU _)) (ay (bC (i:=3) nd rfl (Or.inl rfl) (aT (aj aM (aj (aF D0 hr rfl T.EN T.DN.kp (fe T) .nil aZ (aj (pv 0) (aj (pv 1) (aj (bB (aj ak (aj ak (aj ak (aj ak (aj ak (aj ak (aj ak (aj ak ag))))))))) ag)))) ag))))) aS)
  (aq (bu (PW.pt (cW (aP nH (pv 2) ak (aU _)) (cW (aP nH (aG bE (pv 1) ak (fun _ _=>rfl)) ak (aU _)) (dm (aP bV (aF C8 hr rfl T.DO T.C9.kp (dC T) .nil aZ (aj (pv 0) (aj (pv 1) (aj ak ag)))) ak (aU _)))))) (ay (aL (pv 3))) aS)
  (aq (tT (pv 1) ak qr ak AO jQ)
  (aq (bC (i:=4) nd rfl (Or.inl rfl) (aF D0 hr rfl T.EN T.DN.kp (fe T) .nil aZ (aj (pv 0) (aj (pv 1) (aj (bB (aj aM (aj aM (aj aM (aj aM (aj aM (aj aM ag))))))) ag)))))
  (aq (bC (i:=5) nd rfl (Or.inl rfl) (iH (aP bV (pv 4) aM (aU _)) ak ak))
  (ay (aL (bz tQ (aT (aj (pv 4) ag)) (cM cI rfl T.DT cA (aj (dk (own:=["_law_k"]) (fr:=[0,1,2]) (N':=["_law_k","_law_script","_law_town","_law_room"]) (uP rfl T.Jh (aj (pv 5) ag)) rfl (by show cm ["_law_script","_law_town","_law_room","_law_leaf","_law_name","_law_many"] (fun x=>(aB fj).names.lookup x) _ _ _ _ = true; decide +kernel) rfl (fun _ _ _ _ _=>(aW (i:=0) (by show List.Nodup [("_law_k":Str),("_law_script":Str),("_law_town":Str),("_law_room":Str)]; decide +kernel) rfl (Or.inl rfl))) (fun _ _ _ _ _=>b9) (fun _ _ _ _ _=>(aF GX hr rfl T.Hi T.FB.kp (kG T) .nil aZ (aj (pv 1) (aj (pv 2) (aj (bz xn (pv 3) ak) ag)))))) ag))))))))))),?_⟩
  refine cJ ⟨_,rfl,_,rfl,a,t,ns,4,p,q,[.int c],rfl,hS,hT,hp,by decide,by decide,fun r1 H1 p1 q1 b1 t1 g1 r1a r1b=>⟨bW (by simp),fun l1 hl1=>?_⟩⟩
  have ne1:l1 ≠ t:=fun z=>by rw [z,t1] at hl1; cases hl1
  have b2:=b1.trans (aD hl1 (.tup [.str "arg",.int r1])).but
  have t2:upd H1 l1 (.tup [.str "arg",.int r1]) t = some (.lst [.int p1,.int q1,.int c]):=by rw [aJ (Ne.symm ne1)]; exact t1
  have d2:Dat K (upd H1 l1 (.tup [.str "arg",.int r1])) (toD (.arg r1)) (.ref l1):=Dat.tupI (SqT.of au) (Dats.cons (Dat.strI _) (Dats.cons (Dat.intI _) Dats.nil))
  refine t7 (fun σ G=>∃ (vL:V) (L:Tr) (p q:Int),σ = [some (.ref a),some (.ref t),some (.int room),some vL,none,none]∧But t H G∧G t = some (.lst [.int p,.int q,.int c])∧0 ≤ p∧zU L∧Dat K G (toD L) vL) ?_ (fun hrest=>?_)
  case refine_2 =>
    refine ⟨_,rfl,_,rfl,a,t,ns,2,p1,q1,[.int c],rfl,hS.but b2 hT,t2,g1,by decide,by decide,fun r3 H3 p3 q3 b3 t3 g3 r3a r3b=>?_⟩
    refine ⟨rfl,_,rfl,?_⟩
    refine mV (fun cc=>?_) (fun cc=>?_)
    · refine ⟨_,rfl,_,rfl,bW (by decide),fun l hl=>?_⟩
      have nel:l ≠ t:=fun z=>by rw [z,t3] at hl; cases hl
      have b4:=(b2.trans b3).trans (aD hl (.lst [.int 0,.int 1,.int 2,.int 5,.int 99,.int 100,.int 1234,.int 9999])).but
      refine ⟨a,t,l,ns,_,p3,q3,[.int c],rfl,hS.but b4 hT,SqL.of au,nel,by decide,by decide,(by rw [aJ (Ne.symm nel)]; exact t3),g3,fun i x H5 p5 q5 b5 t5 g5 hx=>⟨bW (by simp),fun l6 hl6=>?_⟩⟩
      have ne6:l6 ≠ t:=fun z=>by rw [z,t5] at hl6; cases hl6
      obtain ⟨m,em,hm⟩:∃ m:Int,x = .int m∧0 ≤ m∧m ≤ 9999:=by
        have:=List.mem_of_getElem? hx
        simp only [List.mem_cons,List.not_mem_nil,or_false] at this
        rcases this with e | e | e | e | e | e | e | e <;> exact ⟨_,e,by decide,by decide⟩
      subst em
      exact hrest _ _ ⟨.ref l6,.num m,p5,q5,rfl,(b4.trans b5).trans (aD hl6 _).but,(by rw [aJ (Ne.symm ne6)]; exact t5),g5,hm,Dat.tupI (SqT.of au) (Dats.cons (Dat.strI _) (Dats.cons (Dat.intI _) Dats.nil))⟩
    · exact hrest _ _ ⟨.ref l1,.arg r1,p3,q3,rfl,b2.trans b3,t3,g3,⟨r1a,by omega⟩,Dat.mono (b3.grow t2 t3) _ d2⟩
  rintro σ G ⟨vL,L,p,q,rfl,bG,tG,hp,hL,dL⟩
  obtain ⟨okL,dpL,szL⟩:=yO hL
  have back:∀ (G':Hp) (p' q':Int),But t G G'→G' t = some (.lst [.int p',.int q',.int c])→0 ≤ p'→Q vL G':=fun G' p' q' b' t' g' =>
    post vL G' L p' q' c (bG.trans b') t' g' hc (Int.le_refl _) okL (.inl (by omega)) (by omega) (Dat.mono (b'.grow tG t') _ dL)
  refine cO ⟨_,rfl,room,2,rfl,rfl,_,rfl,?_⟩
  refine mV (fun c1=>?_) (fun c1=>?_)
  · exact ⟨_,rfl,back G p q (Same.refl G).but tG hp⟩
  have c1':¬ room < 2:=of_decide_eq_false (Bool.eq_false_iff.mpr c1)
  refine ⟨_,rfl,t,_,2,_,rfl,rfl,SqL.of tG,at2,c,1,rfl,rfl,_,rfl,?_⟩
  refine mV (fun c2=>?_) (fun c2=>?_)
  · exact ⟨_,rfl,back G p q (Same.refl G).but tG hp⟩
  have c2':¬ c < 1:=of_decide_eq_false (Bool.eq_false_iff.mpr c2)
  refine ⟨_,rfl,_,rfl,a,t,ns,4,p,q,[.int c],rfl,hS.but bG hT,tG,hp,by decide,by decide,fun r3 H3 p3 q3 b3 t3 g3 r3a r3b=>?_⟩
  refine ⟨rfl,_,rfl,?_⟩
  refine mV (fun c3=>?_) (fun c3=>?_)
  · exact ⟨_,rfl,back H3 p3 q3 b3 t3 g3⟩
  refine ⟨_,rfl,t,_,2,_,rfl,rfl,(by decide),SqL.of t3,rfl,c,1,rfl,rfl,t,_,2,2,rfl,rfl,t3,ix2,?_⟩
  have b4:But t H (upd H3 t (.lst [.int p3,.int q3,.int (c - 1)])):=But.upd (bG.trans b3)
  refine ⟨_,rfl,_,rfl,bW (by decide),fun l hl=>?_⟩
  have nel:l ≠ t:=fun z=>by rw [z,au] at hl; cases hl
  have b5:=b4.trans (aD hl (.lst [.str "add",.str "add",.str "sub",.str "mul",.str "less",.str "pick"])).but
  refine ⟨a,t,l,ns,_,p3,q3,[.int (c - 1)],rfl,hS.but b5 hT,SqL.of au,nel,by decide,by decide,(by rw [aJ (Ne.symm nel)]; exact au),g3,fun i x H5 p5 q5 b6 t5 g5 hx=>?_⟩
  have bH:=b5.trans b6
  obtain ⟨nm,en,hnm⟩:∃ nm:Str,x = .str nm∧(nm = "pick"∨(nm = "add"∨nm = "sub"∨nm = "mul"∨nm = "less")):=by
    have:=List.mem_of_getElem? hx
    simp only [List.mem_cons,List.not_mem_nil,or_false] at this
    rcases this with e | e | e | e | e | e
    · exact ⟨_,e,.inr (.inl rfl)⟩
    · exact ⟨_,e,.inr (.inl rfl)⟩
    · exact ⟨_,e,.inr (.inr (.inl rfl))⟩
    · exact ⟨_,e,.inr (.inr (.inr (.inl rfl)))⟩
    · exact ⟨_,e,.inr (.inr (.inr (.inr rfl)))⟩
    · exact ⟨_,e,.inl rfl⟩
  subst en
  obtain ⟨many,hmany,hif⟩:∃ many:Nat,((nm = "pick"∧many = 3)∨((nm = "add"∨nm = "sub"∨nm = "mul"∨nm = "less")∧many = 2))∧∀ (A B:Prop),(A→many = 3→False)→True:=by
    rcases hnm with h | h
    · exact ⟨3,.inl ⟨h,rfl⟩,fun _ _ _=>trivial⟩
    · exact ⟨2,.inr ⟨h,rfl⟩,fun _ _ _=>trivial⟩
  clear hif
  dsimp only
  refine t7 (fun σ G=>σ = [some (.ref a),some (.ref t),some (.int room),some vL,some (.str nm),some (.int many)]∧G = H5) ?_ (fun hrest=>?_)
  case refine_2 =>
    refine ⟨_,rfl,rfl,_,rfl,?_⟩
    refine mV (fun cc=>?_) (fun cc=>?_)
    · have e:V.str nm = V.str "pick":=of_decide_eq_true cc
      injection e with e
      rcases hmany with ⟨_,rfl⟩ | ⟨h,_⟩
      · exact hrest _ _ ⟨rfl,rfl⟩
      · subst e
        exact absurd h (by decide +kernel)
    · have e:¬ V.str nm = V.str "pick":=of_decide_eq_false (Bool.eq_false_iff.mpr cc)
      rcases hmany with ⟨h,_⟩ | ⟨_,rfl⟩
      · exact absurd (by rw [h]) e
      · exact hrest _ _ ⟨rfl,rfl⟩
  rintro σ G ⟨rfl,rfl⟩
  have many_le:2 ≤ many∧many ≤ 3:=by rcases hmany with ⟨_,h⟩ | ⟨_,h⟩ <;> omega
  refine ⟨_,rfl,bW (by simp),fun e he=>?_⟩
  have nee:e ≠ t:=fun z=>by rw [z,t5] at he; cases he
  have t6:upd G e (.tup [.str nm]) t = some (.lst [.int p5,.int q5,.int (c - 1)]):=by rw [aJ (Ne.symm nee)]; exact t5
  have b7:=bH.trans (aD he (.tup [.str nm])).but
  dsimp only
  refine gH ?_
  refine sA many (fun R hR=>⟨_,rfl,hR⟩) (by omega) rfl
    (fun l i G'=>∃ (Ts:List Tr) (ys:List V) (p' q' c':Int),But t (upd G e (.tup [.str nm])) G'∧G' t = some (.lst [.int p',.int q',.int c'])∧0 ≤ p'∧0 ≤ c'∧c' ≤ c - 1∧G' l = some (.lst ys)∧Ts.length = i∧(∀ x ∈ Ts,okT x∧((bf x:Int) = 1∨(bf x:Int) ≤ room - 1))∧(rl Ts:Int) ≤ i + 3 * (c - 1 - c')∧Dats K G' (Ts.map toD) ys) (fun l hl=>?_) (fun l i G' hl hi pn=>?_) (fun l G' hl pn=>?_)
  · have nl:l ≠ t:=fun z=>by rw [z,t6] at hl; cases hl
    exact ⟨[],[],p5,q5,c - 1,(aD hl _).but,(by rw [aJ (Ne.symm nl)]; exact t6),g5,by omega,Int.le_refl _,au,rfl,(fun x hx=>absurd hx (by simp)),by simp [rl],Dats.nil⟩
  · obtain ⟨Ts,ys,p',q',c',bt,tt,gp,gc,gc2,hl',lT,okTs,sm,dT⟩:=pn
    have nl:l ≠ t:=fun z=>by rw [z,t6] at hl; cases hl
    have ly:ys.length = i:=by rw [← dT.length,List.length_map,lT]
    refine ⟨_,rfl,_,rfl,_,rfl,room,1,rfl,rfl,a,t,ns,room - 1,p',q',c',rfl,hS.but (b7.trans bt) hT,tt,gp,gc,by omega,by omega,by omega,fun v G2 X p2 q2 c2 bb t2 g2 h2 h2' okX dpX szX dX=>?_⟩
    have hl2:=bb l _ nl hl'
    have g1:cQ K G' G2:=bb.grow tt t2
    have g3:cQ K G2 (upd G2 l (.lst (ys ++ [v]))):=But.grow (t:=l) (But.upd (Same.refl G2).but) hl2 au
    refine ⟨ys,hl2,bJ (by omega),⟨_,rfl⟩,Ts ++ [X],ys ++ [v],p2,q2,c2,?_,?_,g2,h2,by omega,au,by rw [List.length_append,lT]; rfl,?_,?_,?_⟩
    · intro b o hb hbo
      have nb:b ≠ l:=az hbo hl
      rw [aJ nb]
      exact bb b o hb (bt b o hb hbo)
    · rw [aJ (Ne.symm nl)]; exact t2
    · intro x hx
      rcases List.mem_append.mp hx with hx | hx
      · exact okTs x hx
      · rw [List.mem_singleton.mp hx]
        exact ⟨okX,dpX⟩
    · rw [vi]
      omega
    · rw [List.map_append]
      exact Dats.append (Dats.mono g3 _ (Dats.mono g1 _ dT)) (Dats.cons (Dat.mono g3 _ dX) Dats.nil)
  · obtain ⟨Ts,ys,p',q',c',bt,tt,gp,gc,gc2,hl',lT,okTs,sm,dT⟩:=pn
    have ly:ys.length = many:=by rw [← dT.length,List.length_map,lT]
    refine ⟨l,ys,rfl,.inl ⟨SqL.of hl',fun u hu=>?_⟩⟩
    have nu:u ≠ t:=fun z=>by rw [z,tt] at hu; cases hu
    have se:SqT K (upd G' u (.tup ys)) e [.str nm]:=(aD hu _).sqT (bt.sqT t6 (SqT.of au))
    refine ⟨e,u,_,ys,rfl,rfl,se,SqT.of au,(by simp),bW (by rw [List.length_singleton]; omega),fun z=>?_,fun _ x hx=>?_⟩
    · rw [z] at ly
      simp at ly
      omega
    · obtain ⟨X,eX,okX,dpX,szX⟩:=ye (nm:=nm) (Ts:=Ts) (room:=room) (by omega) okTs (hmany.elim (fun h=>.inl ⟨h.1,by omega⟩) (fun h=>.inr ⟨h.1,by omega⟩))
      have nx:x ≠ t:=fun z=>by rw [z,aJ (Ne.symm nu),tt] at hx; cases hx
      have s8:=(aD hu (.tup ys)).trans (aD hx (.tup ([.str nm] ++ ys)))
      refine post _ _ X p' q' c' ((b7.trans bt).trans s8.but) (s8 _ _ tt) gp gc (by omega) okX (.inr dpX) (by omega) ?_
      rw [eX]
      exact Dat.tupI (SqT.of au) (Dats.cons (Dat.strI _) (s8.dats dT))
end
end My
end
section
namespace My
open PySem L2 PyProof.Rows
section
variable {P:Program} {w:World} {K:PySem.W.Frag} {mg:Str→Option Value} {base:Heap} {k:Nat}
theorem gw {b:Bool} (h:(!b) = true):b = false:=by cases b with | true=>cases h | false=>rfl
theorem d3 {b:Bool} (h:(!b) = false):b = true:=by cases b with | true=>rfl | false=>cases h
def sgn (c:Nat):Bool:=(!decide (([c]:List Nat) < ("a":Str).cps.toList)) && !decide (("z":Str).cps.toList < ([c]:List Nat))
def iF:D→Bool
  | .str x=>(decide (1 ≤ (x.length:Int)) && decide ((x.length:Int) ≤ 8)) && (x.cps.toList.map sgn).all id
  | _=>false
def zW:D→Prop
  | .str x=>x.length ≤ sizeLine
  | _=>True
def vF (ds:List D) (d:D):Prop:=∃ x,ds = [x]∧zW x∧d = .bl (iF x)
theorem rV {x:D} (h:∀ y,x ≠ .str y):jc x "str" = false:=by
  cases x with
  | str y=>exact absurd rfl (h y)
  | _=>rfl
theorem wO {x:D} (h:∀ y,x ≠ .str y):iF x = false:=by
  cases x with
  | str y=>exact absurd rfl (h y)
  | _=>rfl
theorem r9 (T:Txt P w K mg)  : FnOk P w K mg base CX0 (k + 1) T.Gp T.Gv ["thing"] (spD K vF):=by
  refine T.Ho.ok sc_is_name (fun vs H Q E h=>?_) (fun cdv A outer s H vs Q E hr h=>?_)
  · obtain ⟨ds,d,hd,⟨x,rfl,_⟩,_⟩:=h; exact hd.length.symm
  have nd:=sc_is_name.nd
  obtain ⟨ds,d,hd,⟨x,rfl,hx,rfl⟩,post⟩:=h
  obtain ⟨v0,rfl,h0⟩:=iz hd
  refine ⟨_,(aq (bu (PW.pt (cW (bM (br (aH (cC wz) rfl T.CJ aQ (aV (pv 0) (aV (dj (v:=.ty "str") rfl T.JK vR rfl) ag))) (fun _=>rfl))) (dm (bM (mB ir ir ak (aH oo rfl T.C1 bI (aj (pv 0) ag)) (bp (v:=.int 8) rfl T.DH ⟨_,rfl⟩)))))) (ay (aL cE)) aS)
  (ay (aL (aH (gB rfl) rfl T.IG j3 (aj (dk (own:=["sign"]) (fr:=[]) (N':=["sign"]) (A4 (pv 0)) rfl (by show cm ["thing"] (fun x=>(aB gK).names.lookup x) _ _ _ _ = true; decide +kernel) rfl (fun _ _ _ _ _=>(aW (i:=0) (by show List.Nodup [("sign":Str)]; decide +kernel) rfl (Or.inl rfl))) (fun _ _ _ _ _=>b9) (fun _ _ _ _ _=>(qT xk xk aM (pv 0) aM))) ag))))),?_⟩
  by_cases hs:∃ y,x = .str y
  · obtain ⟨y,rfl⟩:=hs
    have hx:y.length ≤ sizeLine:=hx
    refine aN (K:=K) (b:=!(decide (1 ≤ (y.length:Int)) && decide ((y.length:Int) ≤ 8))) ?_ (fun c H1 s1=>?_) (fun c H1 s1=>?_)
    · exact RT.as (bN (bo (aO (bA (ae h0)))) fun _=>bo (aC (jN (p:=fun i j=>decide (i ≤ j)) (r:=fun i j=>decide (i ≤ j)) ao (zz (ae h0) hx) fun _=>ao))) rfl
    · refine bc (K:=K) (d:=.bl (iF (.str y))) ?_ fun v H' s q=>post v H' (s1.trans s) q
      have e:iF (.str y) = false:=by
        show (_ && _) = false
        have c':=gw c
        rw [c',Bool.false_and]
      rw [e]
      exact dq
    · have c':=d3 c
      have hy:y.cps.size ≤ 8:=by
        rw [Bool.and_eq_true] at c'
        have:=of_decide_eq_true c'.2
        have e:y.length = y.cps.size:=rfl
        omega
      refine bc (K:=K) (d:=.bl (iF (.str y))) ?_ fun v H' s q=>post v H' (s1.trans s) q
      have e:iF (.str y) = (y.cps.toList.map sgn).all id:=by
        show (_ && _) = _
        rw [c',Bool.true_and]
      rw [e]
      refine iO (bs:=y.cps.toList.map sgn) (Ba (ae (s1.dat h0)) (by omega) _ (by simp) rfl (fun H2 i c d s2 hc hd2=>?_))
      rw [List.getElem?_map,List.getElem?_map] at hd2
      have hc':y.cps.toList[i]? = some c:=by simpa using hc
      rw [hc'] at hd2
      cases hd2
      refine RE.as (uR (p:=fun i j=>!decide (j.cps.toList < i.cps.toList)) (q':=fun i j=>!decide (j.cps.toList < i.cps.toList)) aI (ae (Dat.strI _)) fun _=>aI) rfl
  · have hs':∀ y,x ≠ .str y:=fun y e=>hs ⟨y,e⟩
    refine aN (K:=K) (b:=true) ?_ (fun c H1 s1=>?_) (fun c=>nomatch c)
    · exact RT.as (bN (b:=true) (c:=true) (RT.as (bo (aO (bA (ae h0)))) (by rw [rV hs']; rfl)) fun c=>nomatch c) rfl
    · refine bc (K:=K) (d:=.bl (iF x)) ?_ fun v H' s q=>post v H' (s1.trans s) q
      rw [wO hs']
      exact dq
theorem Aw:∀ p ∈ TM,∃ i,p.2 = .flat (.int i):=by
  intro p hp
  simp only [TM,List.mem_cons,List.not_mem_nil,or_false] at hp
  rcases hp with rfl | rfl | rfl <;> exact ⟨_,rfl⟩
def dM:D→Bool
  | .tup (.str k :: r)=>decide ((r.length:Int) + 1 = mJ k TM 0) && (cj (r.getD 0 .non) 0 1 && (!decide (k = "gap") || cj (r.getD 1 .non) 0 9999))
  | _=>false
theorem iB (k:Str) (r:List D):dM (.tup (.str k :: r)) = (decide ((r.length:Int) + 1 = mJ k TM 0) && (cj (r.getD 0 .non) 0 1 && (!decide (k = "gap") || cj (r.getD 1 .non) 0 9999))):=rfl
def zO (ds:List D) (d:D):Prop:=∃ x,ds = [x]∧d = .bl (dM x)
theorem qE (k:Str):mJ k TM 0 = 0∨mJ k TM 0 = 2∨(k = "gap"∧mJ k TM 0 = 3):=by
  unfold mJ
  by_cases h1:k = "hole"
  · subst h1; exact .inr (.inl rfl)
  by_cases h2:k = "gap"
  · subst h2; exact .inr (.inr ⟨rfl,rfl⟩)
  by_cases h3:k = "slot"
  · subst h3; exact .inr (.inl rfl)
  have e:KTD.datumAt k TM = none:=by simp [TM,KTD.datumAt,h1,h2,h3]
  rw [e]
  exact .inl rfl
theorem Bu {x:D} (h:cy x = false):dM x = false:=by
  unfold cy at h
  unfold dM
  split at h
  · cases h
  · rename_i hn
    first
      | rfl
      | (split
         · rename_i k r; exact absurd rfl (hn k r)
         · rfl)
theorem r8 (T:Txt P w K mg) (D1:FnOk P w K mg base CX0 k T.DK T.DM ["thing"] (spD K gQ)) (Dy:FnOk P w K mg base CX0 k T.DP T.DQ ["thing","low","high"] (spD K fm)):FnOk P w K mg base CX0 (k + 1) T.Gn T.Gu ["thing"] (spD K zO):=by
  refine T.Hn.ok sc_is_mark (fun vs H Q E h=>?_) (fun cdv A outer s H vs Q E hr h=>?_)
  · obtain ⟨ds,d,hd,⟨x,rfl,rfl⟩,_⟩:=h; exact hd.length.symm
  have nd:=sc_is_mark.nd
  obtain ⟨ds,d,hd,⟨x,rfl,rfl⟩,post⟩:=h
  obtain ⟨v0,rfl,h0⟩:=iz hd
  refine ⟨_,(aq (bu (PW.pt (cW (bM (br (aF D1 hr rfl T.FE T.Ef.kp (fU T) .nil aZ (aj (pv 0) ag)) (fun _=>rfl))) (dm (aP gF (aH aR rfl T.C1 bI (aj (pv 0) ag)) (uO (bp (v:=.ref T.Dh) rfl T.C0 rfl) (aG aE (pv 0) ak (fun _ _=>rfl)) ak ⟨rfl,rfl,rfl,rfl⟩) (aU _))))) (ay (aL cE)) aS)
  (aq (bu (bM (br (aF Dy hr rfl T.EI T.DS.kp (eK T) .nil aZ (aj (aG aE (pv 0) ak (fun _ _=>rfl)) (aj ak (aj ak ag)))) (fun _=>rfl))) (ay (aL cE)) aS)
  (ay (aL (xr (cf gF (aG aE (pv 0) ak (fun _ _=>rfl)) aM (aU _)) (fQ (aF Dy hr rfl T.EI T.DS.kp (eK T) .nil aZ (aj (aG aE (pv 0) ak (fun _ _=>rfl)) (aj ak (aj (bp (v:=.int 9999) rfl T.Fg ⟨_,rfl⟩) ag)))))))))),?_⟩
  cases ht:cy x with
  | false =>
    refine aN (K:=K) (b:=true) ?_ (fun c H1 s1=>?_) (fun c=>nomatch c)
    · exact RT.as (bN (b:=true) (c:=true) (RT.as (bo (aO (bq (af (ae h0) aA) ⟨x,rfl,rfl⟩))) (by rw [ht]; rfl)) fun c=>nomatch c) rfl
    · refine bc (K:=K) (d:=.bl (dM x)) ?_ fun v H' s q=>post v H' (s1.trans s) q
      rw [Bu ht]
      exact dq
  | true =>
    have ht':=ht
    unfold cy at ht'
    split at ht'
    · rename_i kd r
      have el:((((D.str kd) :: r).length:Nat):Int) = (r.length:Int) + 1:=by rw [List.length_cons]; omega
      refine aN (K:=K) (b:=!decide ((r.length:Int) + 1 = mJ kd TM 0)) ?_ (fun c H1 s1=>?_) (fun c H1 s1=>?_)
      · have b1:=eT (K:=K) (cg (ae (σ:=cX ["thing"] [v0]) (k:=0) h0)) (uX (i:=0) T.CN (aK (k:=0) (ae (σ:=cX ["thing"] [v0]) (k:=0) h0) ao rfl) ao Aw)
        rw [el] at b1
        exact RT.as (bN (b:=false) (RT.as (bo (aO (bq (af (ae h0) aA) ⟨_,rfl,rfl⟩))) (by rw [ht]; rfl)) fun _=>aC b1) (Bool.false_or _)
      · refine bc (K:=K) (d:=.bl (dM (.tup (.str kd :: r)))) ?_ fun v H' s q=>post v H' (s1.trans s) q
        have e:dM (.tup (.str kd :: r)) = false:=by
          rw [iB]
          rw [show decide ((r.length:Int) + 1 = mJ kd TM 0) = false from gw c,Bool.false_and]
        rw [e]
        exact dq
      · have c':decide ((r.length:Int) + 1 = mJ kd TM 0) = true:=d3 c
        have hl:=of_decide_eq_true c'
        have h1:=s1.dat h0
        obtain ⟨y,r',er⟩:∃ y r',r = y :: r':=by
          cases r with
          | nil=>rcases qE kd with h | h | ⟨_,h⟩ <;> (rw [h] at hl; simp at hl)
          | cons y r'=>exact ⟨y,r',rfl⟩
        subst er
        refine aN (K:=K) (b:=!cj y 0 1) (bo (aO (bq (R:=fm) (af (aK (k:=1) (ae h1) ao rfl) (af ao (af ao aA))) ⟨y,0,1,rfl,rfl⟩))) (fun c2 H2 s2=>?_) (fun c2 H2 s2=>?_)
        · refine bc (K:=K) (d:=.bl (dM (.tup (.str kd :: y :: r')))) ?_ fun v H' s q=>post v H' (s1.trans (s2.trans s)) q
          have e:dM (.tup (.str kd :: y :: r')) = false:=by
            rw [iB,c',Bool.true_and]
            show (cj y 0 1 && _) = false
            rw [show cj y 0 1 = false from gw c2,Bool.false_and]
          rw [e]
          exact dq
        · refine bc (K:=K) (d:=.bl (dM (.tup (.str kd :: y :: r')))) ?_ fun v H' s q=>post v H' (s1.trans (s2.trans s)) q
          have h2:=s2.dat h1
          have e:dM (.tup (.str kd :: y :: r')) = (!decide (kd = "gap") || cj (r'.getD 0 .non) 0 9999):=by
            rw [iB,c',Bool.true_and]
            show (cj y 0 1 && (!decide (kd = "gap") || cj (r'.getD 0 .non) 0 9999)) = _
            rw [show cj y 0 1 = true from d3 c2,Bool.true_and]
          rw [e]
          refine tZ (ph (aK (k:=0) (ae h2) ao rfl) aI) fun c3=>?_
          have hk:kd = "gap":=by simpa using c3
          obtain ⟨z,er⟩:∃ z,r' = [z]:=by
            rcases qE kd with h | h | ⟨_,h⟩
            · rw [h] at hl; simp at hl; omega
            · rw [hk] at h; exact absurd h (by decide +kernel)
            · rw [h] at hl
              match r',hl with
              | [z],_=>exact ⟨z,rfl⟩
              | [],h=>simp at h
              | _ :: _ :: _,h=>simp at h; omega
          subst er
          exact bq (E:=E0) (R:=fm) (af (aK (k:=2) (ae h2) ao rfl) (af ao (af ao aA))) ⟨z,0,9999,rfl,rfl⟩
    · cases ht'
end
end My
end
section
namespace My
open PySem L2 PyProof.Rows
section
variable {P:Program} {w:World} {K:PySem.W.Frag} {mg:Str→Option Value} {base:Heap} {k:Nat}
def jw:D→Bool
  | .tup (.str k :: _)=>decide (k ∈ (["arg","pick"]:List Str))
  | _=>false
def ppD:Nat→D→Bool
  | 0,_=>false
  | n + 1,d=>dM d || (cK d && (!jw d && ((bU d).map (ppD n)).all id))
def Rpp (n:Nat) (ds:List D) (d:D):Prop:=∃ x,ds = [x,.int (4 - (n:Int))]∧d = .bl (ppD n x)
def zP:Nat→List D→D→Prop
  | 0=>fun _ _=>False
  | n + 1=>Rpp n
theorem fN (T:Txt P w K mg) {n:Nat} (JD:FnOk P w K mg base CX0 k T.Gn T.Gu ["thing"] (spD K zO)) (HX:FnOk P w K mg base CX0 k T.FN T.FO ["thing"] (spD K vG)) (D2:FnOk P w K mg base CX0 k T.Dj T.Dl ["tree"] (spD K gR)) (EO:FnOk P w K mg base CX0 k T.CT T.CU ["thing","deep"] (spD K (zP n))):FnOk P w K mg base CX0 (k + 1) T.CT T.CU ["thing","deep"] (spD K (Rpp n)):=by
  refine T.Dw.ok sc_is_pattern_part (fun vs H Q E h=>?_) (fun cdv A outer s H vs Q E hr h=>?_)
  · obtain ⟨ds,d,hd,⟨x,rfl,rfl⟩,_⟩:=h; exact hd.length.symm
  have nd:=sc_is_pattern_part.nd
  obtain ⟨ds,d,hd,⟨x,rfl,rfl⟩,post⟩:=h
  obtain ⟨v0,v1,rfl,h0,h1⟩:=fA hd
  refine ⟨_,(aq (bu (aP qR (pv 1) (bp (v:=.int 3) rfl T.CV ⟨_,rfl⟩) (aU _)) (ay (aL cE)) aS)
  (aq (bu (br (aF JD hr rfl T.IR T.Hn.kp (ui T) .nil aZ (aj (pv 0) ag)) (fun _=>rfl)) (ay (aL cE)) aS)
  (aq (bu (PW.pt (cW (bM (br (aF HX hr rfl T.Ie T.Gy.kp (m7 T) .nil aZ (aj (pv 0) ag)) (fun _=>rfl))) (dm (aP uM (aG aE (pv 0) ak (fun _ _=>rfl)) (aT (aj aM (aj aM ag))) (by with_unfolding_all rfl))))) (ay (aL cE)) aS)
  (ay (aL (aH (gB rfl) rfl T.IG j3 (aj (dk (own:=["within"]) (fr:=[1]) (N':=["within","deep"]) (jg (aF D2 hr rfl T.E3 T.DG.kp (fK T) .nil aZ (aj (pv 0) ag))) rfl (by show cm ["thing","deep"] (fun x=>(aB cH).names.lookup x) _ _ _ _ = true; decide +kernel) rfl (fun _ _ _ _ _=>(aW (i:=0) (by show List.Nodup [("within":Str),("deep":Str)]; decide +kernel) rfl (Or.inl rfl))) (fun _ _ _ _ _=>b9) (fun _ _ _ _ _=>(aF EO hr rfl T.E2 T.Dw.kp (fT T) .nil aZ (aj (pv 0) (aj (bz fO (pv 1) ak) ag))))) ag))))))),?_⟩
  cases n with
  | zero =>
    refine aN (K:=K) (b:=true) (RT.as (aC (d4 (p:=fun i j=>decide (j < i)) (ae h1) ao)) rfl) (fun c H1 s1=>?_) (fun c=>nomatch c)
    exact bc (K:=K) (d:=.bl false) dq fun v H' s q=>post v H' (s1.trans s) q
  | succ n =>
    refine aN (K:=K) (b:=false) (RT.as (aC (d4 (p:=fun i j=>decide (j < i)) (ae h1) ao)) (decide_eq_false (by omega))) (fun c=>nomatch c) (fun c H1 s1=>?_)
    have h0:=s1.dat h0
    have h1:=s1.dat h1
    refine aN (K:=K) (b:=dM x) (aO (bq (af (ae h0) aA) ⟨x,rfl,rfl⟩)) (fun c H2 s2=>?_) (fun c H2 s2=>?_)
    · refine bc (K:=K) (d:=.bl true) dq fun v H' s q=>post v H' (s1.trans (s2.trans s)) ?_
      have e:ppD (n + 1) x = true:=by unfold ppD; rw [c]; rfl
      rw [e]
      exact q
    have h0:=s2.dat h0
    have h1:=s2.dat h1
    have e1:ppD (n + 1) x = (cK x && (!jw x && ((bU x).map (ppD n)).all id)):=by
      show (dM x || _) = _
      rw [c,Bool.false_or]
    cases hn:cK x with
    | false =>
      refine aN (K:=K) (b:=true) (RT.as (bN (b:=true) (c:=true) (RT.as (bo (aO (bq (af (ae h0) aA) ⟨x,rfl,rfl⟩))) (by rw [hn]; rfl)) fun c=>nomatch c) rfl) (fun c H3 s3=>?_) (fun c=>nomatch c)
      refine bc (K:=K) (d:=.bl false) dq fun v H' s q=>post v H' (s1.trans (s2.trans (s3.trans s))) ?_
      rw [e1,hn]
      exact q
    | true =>
      obtain ⟨kd,r,ek⟩:=mi hn
      have few:=lX hn
      have h0':Dat K H2 (.tup (.str kd :: r)) v0:=by rw [← ek]; exact h0
      refine aN (K:=K) (b:=jw x) (RT.as (bN (b:=false) (RT.as (bo (aO (bq (af (ae h0) aA) ⟨x,rfl,rfl⟩))) (by rw [hn]; rfl)) fun _=>aC (Be (ys:=["arg","pick"]) (aK (k:=0) (ae h0') ao rfl) (aY (af aI (af aI aA))))) (by rw [ek]; exact Bool.false_or _)) (fun c3 H3 s3=>?_) (fun c3 H3 s3=>?_)
      · refine bc (K:=K) (d:=.bl false) dq fun v H' s q=>post v H' (s1.trans (s2.trans (s3.trans s))) ?_
        rw [e1,hn,c3]
        exact q
      · have h1:=s3.dat h1
        refine bc (K:=K) (d:=.bl (((bU x).map (ppD n)).all id)) (iO (sy (cs:=bU x) (bq (R:=gR) (af (ae (s3.dat h0)) aA) ⟨kd,r,by rw [ek],by rw [ek]⟩) (by omega) _ (by simp) rfl (fun H4 i z vz d s4 hz hi hvz=>?_))) fun v H' s q=>post v H' (s1.trans (s2.trans (s3.trans s))) ?_
        · rw [List.getElem?_map,List.getElem?_map,hz] at hi
          cases hi
          exact bq (E:=E0) (R:=Rpp n) (af (ae hvz) (af (RE.as (hX (ae (s4.dat h1)) ao) (congrArg D.int (by omega:(4:Int) - ((n + 1:Nat):Int) + 1 = 4 - (n:Int)))) aA)) ⟨z,rfl,rfl⟩
        · rw [e1,hn,c3]
          exact q
def j8 (k:Str):D→Bool
  | .tup (.str h :: _)=>decide (h = k)
  | _=>false
def bZ:Nat→Str→D→List D
  | 0,_,_=>[]
  | n + 1,k,d=>if j8 k d = true then [d] else (bU d).flatMap (bZ n k)
def iw (n:Nat) (ds es:List D):Prop:=∃ x k,ds = [x,.str k]∧n ≤ 3∧ppD n x = true∧es = bZ n k x
theorem qF {d:D} (h:dM d = true):∃ k r,d = .tup (.str k :: r):=by
  unfold dM at h
  split at h
  · exact ⟨_,_,rfl⟩
  · cases h
theorem wN {k:Str} {r:List D} (h:dM (.tup (.str k :: r)) = true):k = "hole"∨k = "gap"∨k = "slot":=by
  rw [iB,Bool.and_eq_true] at h
  have hl:=of_decide_eq_true h.1
  unfold mJ at hl
  by_cases h1:k = "hole"
  · exact .inl h1
  by_cases h2:k = "gap"
  · exact .inr (.inl h2)
  by_cases h3:k = "slot"
  · exact .inr (.inr h3)
  have e:KTD.datumAt k TM = none:=by simp [TM,KTD.datumAt,h1,h2,h3]
  rw [e] at hl
  dsimp only at hl
  omega
theorem mL {k:Str} (h:k = "hole"∨k = "gap"∨k = "slot"):KTD.inKeys k TB = false∧KTD.inKeys k TL = false:=by
  rcases h with rfl | rfl | rfl <;> decide +kernel
theorem uF {d:D} (h:dM d = true):bU d = []:=by
  obtain ⟨k,r,rfl⟩:=qF h
  exact ke (mL (wN h)).1
theorem su {n:Nat} {d:D} (h:ppD n d = true):∃ k r,d = .tup (.str k :: r):=by
  cases n with
  | zero=>cases h
  | succ n =>
    have h':(dM d || (cK d && (!jw d && ((bU d).map (ppD n)).all id))) = true:=h
    rw [Bool.or_eq_true] at h'
    rcases h' with h' | h'
    · exact qF h'
    · rw [Bool.and_eq_true] at h'
      exact mi h'.1
theorem o6 {n:Nat} {d:D} (h:ppD (n + 1) d = true):(bU d).length ≤ 3∧∀ c ∈ bU d,ppD n c = true:=by
  have h':(dM d || (cK d && (!jw d && ((bU d).map (ppD n)).all id))) = true:=h
  rw [Bool.or_eq_true] at h'
  rcases h' with h' | h'
  · rw [uF h']
    exact ⟨by simp,fun c hc=>absurd hc (by simp)⟩
  · rw [Bool.and_eq_true,Bool.and_eq_true] at h'
    refine ⟨lX h'.1,fun c hc=>?_⟩
    have z:=List.all_eq_true.mp h'.2.2 (ppD n c) (List.mem_map.mpr ⟨c,hc,rfl⟩)
    exact z
theorem tD {α β:Type} (f:α→List β) (m:Nat):∀ l:List α,(∀ x ∈ l,(f x).length ≤ m)→(l.flatMap f).length ≤ l.length * m
  | [],_=>by simp
  | x :: l,h=>by
    have h1:=h x (by simp)
    have h2:=tD f m l fun y hy=>h y (by simp [hy])
    rw [List.flatMap_cons,List.length_append,List.length_cons,Nat.succ_mul]
    omega
theorem lZ (k:Str):∀ (n:Nat) (d:D),ppD n d = true→(bZ n k d).length ≤ 3 ^ n
  | 0,d,h=>by cases h
  | n + 1,d,h=>by
    unfold bZ
    split
    · have:1 ≤ 3 ^ (n + 1):=Nat.one_le_iff_ne_zero.mpr (by simp)
      simpa using this
    · obtain ⟨h1,h2⟩:=o6 h
      have z:=tD (bZ n k) (3 ^ n) (bU d) fun c hc=>lZ k n c (h2 c hc)
      have z2:(bU d).length * 3 ^ n ≤ 3 * 3 ^ n:=Nat.mul_le_mul_right _ h1
      rw [Nat.pow_succ,Nat.mul_comm (3 ^ n) 3]
      omega
theorem p3 {n:Nat} (h:n ≤ 3):3 ^ n ≤ 27:=by
  match n,h with
  | 0,_=>decide
  | 1,_=>decide
  | 2,_=>decide
  | 3,_=>decide
theorem qP (T:Txt P w K mg) {n:Nat} (D2:FnOk P w K mg base CX0 k T.Dj T.Dl ["tree"] (spD K gR)) (FU:FnOk P w K mg base CX0 k T.D9 T.Ee ["pattern","kind"] (kC K (iw n))):FnOk P w K mg base CX0 (k + 1) T.D9 T.Ee ["pattern","kind"] (kC K (iw (n + 1))):=by
  refine T.Ff.ok sc_marks_in (fun vs H Q E h=>?_) (fun cdv A outer s H vs Q E hr h=>?_)
  · obtain ⟨ds,es,hd,⟨x,kk,rfl,_⟩,_⟩:=h; exact hd.length.symm
  have nd:=sc_marks_in.nd
  obtain ⟨ds,es,hd,⟨x,kk,rfl,hn3,hp,rfl⟩,post⟩:=h
  obtain ⟨v0,v1,rfl,h0,h1⟩:=fA hd
  refine ⟨_,(aq (bu (aP bV (aG aE (pv 0) ak (fun _ _=>rfl)) (pv 1) (aU _)) (ay (aL (bB (aj (pv 0) ag)))) aS)
  (aq (bC (i:=2) nd rfl (Or.inl rfl) (bB ag))
  (aq (jh PassesOwn.never rfl (jg (aF D2 hr rfl T.E3 T.DG.kp (fK T) .nil aZ (aj (pv 0) ag))) (aW (i:=3) nd rfl (Or.inl rfl)) (ay (bF (cV PySem.F.plainAttrs_list PySem.F.slot_list_extend PySem.F.type_list_extend d9 (pv 2) (aj (aF FU hr rfl T.GR T.Ff.kp (i8 T) .nil aZ (aj (pv 3) (aj (pv 1) ag))) ag)))))
  (ay (aL (pv 2)))))),?_⟩
  obtain ⟨kd,r,ek⟩:=su hp
  have h0':Dat K H (.tup (.str kd :: r)) v0:=by rw [← ek]; exact h0
  have eh:j8 kk x = decide (kd = kk):=by rw [ek]; rfl
  obtain ⟨few,kok⟩:=o6 hp
  have cap:=lZ kk (n + 1) x hp
  have cap3:=p3 hn3
  refine aN (K:=K) (b:=j8 kk x) (RT.as (aC (bj (aK (k:=0) (ae h0') ao rfl) (ae h1))) eh.symm) (fun c H1 s1=>?_) (fun c H1 s1=>?_)
  · refine dS ((fz (K:=K) (es:=[x]) (af (ae (s1.dat h0)) aA)).use fun l ys H2 hl s2 hy hd2=>?_)
    refine post l ys H2 (s1.trans s2) hy (s1.free hl) ?_
    unfold bZ
    rw [if_pos c]
    exact hd2
  have em:bZ (n + 1) kk x = (bU x).flatMap (bZ n kk):=by
    show (if j8 kk x = true then _ else _) = _
    rw [if_neg (by rw [c]; exact Bool.false_ne_true)]
  rw [em] at cap post
  have h0:=s1.dat h0
  have h1:=s1.dat h1
  have hk1:=h1.strE
  refine h9 (K:=K) (es:=[]) (fz aA) fun wl ys0 H2 hw s2 hy0 hd0=>?_
  have hw0:H wl = none:=s1.free hw
  refine cO (RE.use (bq (R:=gR) (d:=.tup (bU x)) (af (ae (K:=K) (k:=0) (s2.dat h0)) aA) ⟨kd,r,by rw [ek],by rw [ek]⟩) fun v4 H4 s4 q4=>?_)
  obtain ⟨a,vs,ea,hq,hds⟩:=q4.tupE
  subst ea
  have hl:=hds.length
  refine ⟨a,rfl,⟨vs,hq⟩,tE (xs:=vs) (fun i σ G=>∃ (z:Option V) (ys:List V),σ = [some v0,some v1,some (.ref wl),z]∧Same H G∧SqT K G a vs∧Dats K G (bU x) vs∧G wl = some (.lst ys)∧Dats K G (((bU x).take i).flatMap (bZ n kk)) ys) ?_ (fun i σ G _ ⟨z,ys,_,_,p,_⟩=>p) ?_ ?_⟩
  · exact ⟨none,ys0,rfl,s1.trans (s2.trans s4),hq,hds,s4 _ _ hy0,s4.dats hd0⟩
  · rintro i vx σ G hi ⟨z,ys,rfl,sG,hqG,hdG,hwG,hyG⟩
    obtain ⟨dx,ex,hx⟩:=hdG.getV hi
    have hpx:=kok dx (List.mem_of_getElem? ex)
    subst hk1
    refine ⟨_,rfl,.inl ⟨rfl,_,SqL.of hwG⟩,_,rfl,_,rfl,[dx,.str kk],_,(Dats.cons hx (Dats.cons (Dat.strI _) Dats.nil):Dats K G [dx,.str kk] [vx,.str kk]),⟨dx,kk,rfl,by omega,hpx,rfl⟩,fun r us H5 s5 hr5 _ hd5=>?_⟩
    have hw5:=s5 _ _ hwG
    have b6:But wl H5 (upd H5 wl (.lst (ys ++ us))):=But.upd (Same.refl H5).but
    have g6:cQ K H5 (upd H5 wl (.lst (ys ++ us))):=b6.grow hw5 au
    have et:((bU x).take (i + 1)).flatMap (bZ n kk) = ((bU x).take i).flatMap (bZ n kk) ++ bZ n kk dx:=by
      rw [List.take_add_one,ex]
      simp
    have lt:(((bU x).take (i + 1)).flatMap (bZ n kk)).length ≤ 27:=by
      have e2:((bU x).take (i + 1)).flatMap (bZ n kk) ++ ((bU x).drop (i + 1)).flatMap (bZ n kk) = (bU x).flatMap (bZ n kk):=by
        rw [← List.flatMap_append,List.take_append_drop]
      have:=congrArg List.length e2
      rw [List.length_append] at this
      omega
    have ly:=hyG.length
    have lu:=hd5.length
    rw [et,List.length_append] at lt
    refine ⟨wl,r,ys,us,rfl,rfl,hw5,hr5,bW (by omega),some vx,ys ++ us,rfl,fun b o hb=>b6 b o (az hb hw0) (s5 _ _ (sG _ _ hb)),g6.tup _ _ (s5.sqT hqG),Dats.mono g6 _ (s5.dats hdG),au,?_⟩
    rw [et]
    exact Dats.append (Dats.mono g6 _ (s5.dats hyG)) (Dats.mono g6 _ hd5)
  · rintro σ G ⟨z,ys,rfl,sG,hqG,hdG,hwG,hyG⟩
    refine ⟨_,rfl,post wl ys G sG hwG hw0 ?_⟩
    rw [← hl,List.take_length] at hyG
    exact hyG
def Bm:D→D
  | .tup (_ :: y :: _)=>y
  | _=>.non
theorem rY {k:Str} {r:List D} (h:dM (.tup (.str k :: r)) = true):∃ i r',r = .int i :: r':=by
  rw [iB,Bool.and_eq_true,Bool.and_eq_true] at h
  have hw:=h.2.1
  cases r with
  | nil=>cases hw
  | cons y r' =>
    have hw':cj y 0 1 = true:=hw
    cases y with
    | int i=>exact ⟨i,r',rfl⟩
    | _=>cases hw'
theorem iC {k:Str} (hk:k = "hole"∨k = "gap"∨k = "slot"):∀ (n:Nat) (x m:D),ppD n x = true→m ∈ bZ n k x→∃ i r,m = .tup (.str k :: .int i :: r)
  | 0,x,m,h,_=>by cases h
  | n + 1,x,m,h,hm=>by
    unfold bZ at hm
    split at hm
    · rename_i hh
      have e:m = x:=by simpa using hm
      subst e
      obtain ⟨k',r,rfl⟩:=su h
      have ek:k' = k:=of_decide_eq_true hh
      subst ek
      have h':(dM (.tup (.str k' :: r)) || (cK (.tup (.str k' :: r)) && _)) = true:=h
      rw [Bool.or_eq_true] at h'
      rcases h' with h' | h'
      · obtain ⟨i,r',rfl⟩:=rY h'
        exact ⟨i,r',rfl⟩
      · rw [Bool.and_eq_true] at h'
        have z:=h'.1
        rw [mf (mL hk).2,(mL hk).1,Bool.false_and] at z
        cases z
    · obtain ⟨c,hc,hm'⟩:=List.mem_flatMap.mp hm
      exact iC hk n c m ((o6 h).2 c hc) hm'
def yU (k:Str) (x:D):Bool:=dE ((bZ 3 k x).map Bm) ((List.range (bZ 3 k x).length).map fun i:Nat=>D.int i)
def Ao (ds:List D) (d:D):Prop:=∃ x k,ds = [x,.str k]∧ppD 3 x = true∧(k = "hole"∨k = "gap"∨k = "slot")∧d = .bl (yU k x)
theorem tY {K:PySem.W.Frag} {σ:L2.St} {H:Hp} {k:Nat} {l:Addr} {ys:List V} (hl:H l = some (.lst ys)) (e:σ[k]? = some (some (.ref l)):=by rfl):RE K (tCB (fun xs H Q=>∃ p ys,xs = [.ref p]∧(SqL K H p ys∨SqT K H p ys)∧Q (.int ys.length) H) (bD (dJ k) dt)) σ H (.int ys.length):=fun H1 s Q q =>
  ⟨.ref l,e,l,ys,rfl,.inl (SqL.of (s _ _ hl)),q _ _ (Same.refl _) (Dat.intI _)⟩
theorem me {l:List D} (h:∀ d ∈ l,∃ i,d = .int i):di l = true∧bP l = 0:=by
  induction l with
  | nil=>exact ⟨by unfold di; rfl,by unfold bP; rfl⟩
  | cons d l ih =>
    obtain ⟨i,rfl⟩:=h d (by simp)
    obtain ⟨h1,h2⟩:=ih fun d hd=>h d (by simp [hd])
    refine ⟨?_,?_⟩
    · unfold di; rw [h1]; unfold noL; rfl
    · unfold bP; rw [h2]; unfold cU; rfl
theorem mq (T:Txt P w K mg) (FU:FnOk P w K mg base CX0 k T.D9 T.Ee ["pattern","kind"] (kC K (iw 3))):FnOk P w K mg base CX0 (k + 1) T.Et T.Ey ["pattern","kind"] (spD K Ao):=by
  refine T.Fm.ok sc_is_numbered (fun vs H Q E h=>?_) (fun cdv A outer s H vs Q E hr h=>?_)
  · obtain ⟨ds,d,hd,⟨x,kk,rfl,_⟩,_⟩:=h; exact hd.length.symm
  have nd:=sc_is_numbered.nd
  obtain ⟨ds,d,hd,⟨x,kk,rfl,hp,hk,rfl⟩,post⟩:=h
  obtain ⟨v0,v1,rfl,h0,h1⟩:=fA hd
  refine ⟨_,(aq (hW (i:=2) (own:=["mark"]) (fr:=[]) (N':=["mark"]) (eB (aF FU hr rfl T.GR T.Ff.kp (i8 T) .nil aZ (aj (pv 0) (aj (pv 1) ag)))) rfl (by show cm ["pattern","kind","numbers"] (fun x=>(aB dU).names.lookup x) _ _ _ _ = true; decide +kernel) rfl (fun _ _ _ _ _=>(aW (i:=0) (by show List.Nodup [("mark":Str)]; decide +kernel) rfl (Or.inl rfl))) (fun _ _ _ _ _=>b9) (fun _ _ _ _ _=>(aG (r:=m5 K) aE (pv 0) ak (fun _ _=>rfl))) nd rfl rfl rfl)
  (ay (aL (cf (oY hr) (pv 2) (cM (mU rfl) rfl T.Jg om (aj (cM vW rfl T.Jh vQ (aj (aH aR rfl T.C1 bI (aj (pv 2) ag)) ag)) ag)) (aU _))))),?_⟩
  have cap:=lZ kk 3 x hp
  refine h9 (K:=K) (es:=(bZ 3 kk x).map Bm) (zr (cs:=bZ 3 kk x) (iN (R:=iw 3) (af (ae h0) (af (ae h1) aA)) ⟨x,kk,rfl,by decide,hp,rfl⟩) (Nat.le_trans cap (by decide)) _ (by simp) rfl (fun H1 i c v d s1 hc hi hv=>?_)) fun l ys H2 hl s2 hy hd2=>?_
  · rw [List.getElem?_map,hc] at hi
    cases hi
    obtain ⟨j,r,rfl⟩:=iC hk 3 x c hp (List.mem_of_getElem? hc)
    exact aK (k:=1) (ae hv) ao rfl
  have ll:=hd2.length
  rw [List.length_map] at ll
  refine ⟨_,rfl,(o9 (K:=K) (n:=ys.length) (tY (k:=2) hy) (by rw [← ll]; exact Nat.le_trans cap (by decide))).use fun l2 ys2 H3 hl2 s3 hy3 hd3=>?_⟩
  have i1:∀ d ∈ (bZ 3 kk x).map Bm,∃ i,d = .int i:=fun d hdm=>by
    obtain ⟨m,hm,rfl⟩:=List.mem_map.mp hdm
    obtain ⟨j,r,rfl⟩:=iC hk 3 x m hp hm
    exact ⟨j,rfl⟩
  have i2:∀ d ∈ (List.range ys.length).map (fun i:Nat=>D.int i),∃ i,d = .int i:=fun d hdm=>by
    obtain ⟨m,hm,rfl⟩:=List.mem_map.mp hdm
    exact ⟨_,rfl⟩
  refine ⟨l,l2,ys,ys2,_,_,rfl,rfl,SqL.of (s3 _ _ hy),SqL.of hy3,s3.dats hd2,hd3,(me i1).1,(me i2).1,by rw [(me i1).2]; decide,?_⟩
  refine post _ _ (s2.trans s3) ?_
  unfold yU
  rw [ll]
  exact Dat.blI _
def o4 (x:D):Bool:=ppD 3 x && (!j8 "hole" x && ((["hole","gap","slot"]:List Str).map fun k=>yU k x).all id)
def Ap (ds:List D) (d:D):Prop:=∃ x,ds = [x]∧d = .bl (o4 x)
theorem mY (T:Txt P w K mg) (EO:FnOk P w K mg base CX0 k T.CT T.CU ["thing","deep"] (spD K (Rpp 3))) (IM:FnOk P w K mg base CX0 k T.Et T.Ey ["pattern","kind"] (spD K Ao)):FnOk P w K mg base CX0 (k + 1) T.EU T.EZ ["thing"] (spD K Ap):=by
  refine T.FK.ok sc_is_pattern (fun vs H Q E h=>?_) (fun cdv A outer s H vs Q E hr h=>?_)
  · obtain ⟨ds,d,hd,⟨x,rfl,rfl⟩,_⟩:=h; exact hd.length.symm
  have nd:=sc_is_pattern.nd
  obtain ⟨ds,d,hd,⟨x,rfl,rfl⟩,post⟩:=h
  obtain ⟨v0,rfl,h0⟩:=iz hd
  refine ⟨_,(aq (bu (PW.pt (cW (bM (br (aF EO hr rfl T.E2 T.Dw.kp (fT T) .nil aZ (aj (pv 0) (aj ak ag))) (fun _=>rfl))) (dm (aP bV (aG aE (pv 0) ak (fun _ _=>rfl)) aM (aU _))))) (ay (aL cE)) aS)
  (ay (aL (aH (gB rfl) rfl T.IG j3 (aj (dk (own:=["kind"]) (fr:=[0]) (N':=["kind","thing"]) (A5 (bp (v:=.ref T.Dh) rfl T.C0 rfl)) rfl (by show cm ["thing"] (fun x=>(aB eH).names.lookup x) _ _ _ _ = true; decide +kernel) rfl (fun _ _ _ _ _=>(aW (i:=0) (by show List.Nodup [("kind":Str),("thing":Str)]; decide +kernel) rfl (Or.inl rfl))) (fun _ _ _ _ _=>b9) (fun _ _ _ _ _=>(aF IM hr rfl T.HB T.Fm.kp (mS T) .nil aZ (aj (pv 1) (aj (pv 0) ag))))) ag))))),?_⟩
  cases hp:ppD 3 x with
  | false =>
    refine aN (K:=K) (b:=true) (RT.as (bN (b:=true) (c:=true) (RT.as (bo (aO (bq (R:=Rpp 3) (af (ae h0) (af ao aA)) ⟨x,rfl,rfl⟩))) (by rw [hp]; rfl)) fun c=>nomatch c) rfl) (fun c H3 s3=>?_) (fun c=>nomatch c)
    refine bc (K:=K) (d:=.bl false) dq fun v H' s q=>post v H' (s3.trans s) ?_
    unfold o4
    rw [hp]
    exact q
  | true =>
    obtain ⟨kd,r,ek⟩:=su hp
    have h0':Dat K H (.tup (.str kd :: r)) v0:=by rw [← ek]; exact h0
    refine aN (K:=K) (b:=j8 "hole" x) (RT.as (bN (b:=false) (RT.as (bo (aO (bq (R:=Rpp 3) (af (ae h0) (af ao aA)) ⟨x,rfl,rfl⟩))) (by rw [hp]; rfl)) fun _=>aC (bj (aK (k:=0) (ae h0') ao rfl) aI)) (by rw [ek]; exact Bool.false_or _)) (fun c H1 s1=>?_) (fun c H1 s1=>?_)
    · refine bc (K:=K) (d:=.bl false) dq fun v H' s q=>post v H' (s1.trans s) ?_
      unfold o4
      rw [hp,c]
      exact q
    · refine bc (K:=K) (d:=.bl (((["hole","gap","slot"]:List Str).map fun k=>yU k x).all id)) (iO (Bb T.Hf (by decide) _ rfl rfl (fun H2 i kk d s2 hk hi=>?_))) fun v H' s q=>post v H' (s1.trans s) ?_
      · rw [List.getElem?_map,List.getElem?_map,hk] at hi
        cases hi
        refine bq (E:=E0) (R:=Ao) (af (ae (s2.dat (s1.dat h0))) (af (ae (Dat.strI kk)) aA)) ⟨x,kk,rfl,hp,?_,rfl⟩
        have:=List.mem_of_getElem? hk
        simpa using this
      · unfold o4
        rw [hp,c]
        exact q
def nR (k:Str) (T:List (Str × KTD.Dat)):Str:=match KTD.datumAt k T with | some (.flat (.str z))=>z | _=>""
theorem Au {k:Str} (h:KTD.inKeys k TF = true):KTD.datumAt k TF = some (.flat (.str (nR k TF))):=by
  unfold nR
  by_cases h1:k = "low"
  · subst h1; rfl
  by_cases h2:k = "high"
  · subst h2; rfl
  by_cases h3:k = "arg"
  · subst h3; rfl
  have e:KTD.inKeys k TF = false:=by simp [TF,KTD.inKeys,h1,h2,h3]
  rw [e] at h
  cases h
def lM (p:D):D→Bool
  | .tup (.str k :: r)=>decide ((r.length:Int) + 1 = 2) && (KTD.inKeys k TF && cj (r.getD 0 .non) 0 (((bZ 3 (nR k TF) p).length:Int) - 1))
  | _=>false
theorem qj (p:D) (k:Str) (r:List D):lM p (.tup (.str k :: r)) = (decide ((r.length:Int) + 1 = 2) && (KTD.inKeys k TF && cj (r.getD 0 .non) 0 (((bZ 3 (nR k TF) p).length:Int) - 1))):=rfl
def vD (ds:List D) (d:D):Prop:=∃ x p,ds = [x,p]∧ppD 3 p = true∧d = .bl (lM p x)
theorem yC {p x:D} (h:cy x = false):lM p x = false:=by
  unfold cy at h
  unfold lM
  split at h
  · cases h
  · rename_i hn
    first
      | rfl
      | (split
         · rename_i k r; exact absurd rfl (hn k r)
         · rfl)
theorem mX (T:Txt P w K mg) (D1:FnOk P w K mg base CX0 k T.DK T.DM ["thing"] (spD K gQ)) (FU:FnOk P w K mg base CX0 k T.D9 T.Ee ["pattern","kind"] (kC K (iw 3))) (Dy:FnOk P w K mg base CX0 k T.DP T.DQ ["thing","low","high"] (spD K fm)):FnOk P w K mg base CX0 (k + 1) T.ET T.EY ["thing","pattern"] (spD K vD):=by
  refine T.FJ.ok sc_is_filling (fun vs H Q E h=>?_) (fun cdv A outer s H vs Q E hr h=>?_)
  · obtain ⟨ds,d,hd,⟨x,p,rfl,_⟩,_⟩:=h; exact hd.length.symm
  have nd:=sc_is_filling.nd
  obtain ⟨ds,d,hd,⟨x,p,rfl,hp,rfl⟩,post⟩:=h
  obtain ⟨v0,v1,rfl,h0,h1⟩:=fA hd
  refine ⟨_,(aq (bu (PW.pt (cW (bM (br (aF D1 hr rfl T.FE T.Ef.kp (fU T) .nil aZ (aj (pv 0) ag)) (fun _=>rfl))) (cW (aP gF (aH aR rfl T.C1 bI (aj (pv 0) ag)) ak (aU _)) (dm (aP qS (aG aE (pv 0) ak (fun _ _=>rfl)) (bp (v:=.ref T.Eo) rfl T.Dz rfl) (by with_unfolding_all rfl)))))) (ay (aL cE)) aS)
  (ay (aL (aF Dy hr rfl T.EI T.DS.kp (eK T) .nil aZ (aj (aG aE (pv 0) ak (fun _ _=>rfl)) (aj ak (aj (bz xn (aH aR rfl T.C1 bI (aj (aF FU hr rfl T.GR T.Ff.kp (i8 T) .nil aZ (aj (pv 1) (aj (aG yM (bp (v:=.ref T.Eo) rfl T.Dz rfl) (aG aE (pv 0) ak (fun _ _=>rfl)) (fun _ _=>rfl)) ag))) ag)) ak) ag))))))),?_⟩
  cases ht:cy x with
  | false =>
    refine aN (K:=K) (b:=true) ?_ (fun c H1 s1=>?_) (fun c=>nomatch c)
    · exact RT.as (bN (b:=true) (c:=true) (RT.as (bo (aO (bq (af (ae h0) aA) ⟨x,rfl,rfl⟩))) (by rw [ht]; rfl)) fun c=>nomatch c) rfl
    · refine bc (K:=K) (d:=.bl (lM p x)) ?_ fun v H' s q=>post v H' (s1.trans s) q
      rw [yC ht]
      exact dq
  | true =>
    have ht':=ht
    unfold cy at ht'
    split at ht'
    · rename_i kd r
      have el:((((D.str kd) :: r).length:Nat):Int) = (r.length:Int) + 1:=by rw [List.length_cons]; omega
      have b1:=eT (K:=K) (cg (ae (σ:=cX ["thing","pattern"] [v0,v1]) (k:=0) h0)) (ao (i:=2))
      rw [el] at b1
      refine aN (K:=K) (b:=!decide ((r.length:Int) + 1 = 2) || !KTD.inKeys kd TF) (RT.as (bN (b:=false) (RT.as (bo (aO (bq (af (ae h0) aA) ⟨_,rfl,rfl⟩))) (by rw [ht]; rfl)) fun _=>bN (aC b1) fun _=>aC (rf (aK (k:=0) (ae h0) ao rfl) T.DA)) (Bool.false_or _)) (fun c H1 s1=>?_) (fun c H1 s1=>?_)
      · refine bc (K:=K) (d:=.bl false) dq fun v H' s q=>post v H' (s1.trans s) ?_
        have e:lM p (.tup (.str kd :: r)) = false:=by
          rw [qj]
          cases h2:decide ((r.length:Int) + 1 = 2) with
          | false=>rfl
          | true =>
            rw [h2] at c
            have h3:KTD.inKeys kd TF = false:=gw c
            rw [h3]
            rfl
        rw [e]
        exact q
      · rw [Bool.or_eq_false_iff] at c
        have c1:=d3 c.1
        have c2:=d3 c.2
        obtain ⟨y,er⟩:∃ y,r = [y]:=by
          match r,of_decide_eq_true c1 with
          | [],h=>simp at h
          | [y],_=>exact ⟨y,rfl⟩
          | _ :: _ :: _,h=>simp at h; omega
        subst er
        have h0:=s1.dat h0
        have h1:=s1.dat h1
        refine bc (K:=K) (d:=.bl (cj y 0 (((bZ 3 (nR kd TF) p).length:Int) - 1))) (bq (R:=fm) (af (aK (k:=1) (ae h0) ao rfl) (af ao (af (Bf (zy (iN (R:=iw 3) (af (ae h1) (af (uU (aK (k:=0) (ae h0) ao rfl) T.DA (by rfl) (Au c2)) aA)) ⟨p,nR kd TF,rfl,by decide,hp,rfl⟩)) ao) aA))) ⟨y,0,_,rfl,rfl⟩) fun v H' s q=>post v H' (s1.trans s) ?_
        rw [qj,c1,c2]
        exact q
    · cases ht'
def pU (p x:D):Bool:=cj x 0 99 || lM p x
def vC (ds:List D) (d:D):Prop:=∃ x p,ds = [x,p]∧ppD 3 p = true∧d = .bl (pU p x)
theorem r6 (T:Txt P w K mg) (Dy:FnOk P w K mg base CX0 k T.DP T.DQ ["thing","low","high"] (spD K fm)) (IX:FnOk P w K mg base CX0 k T.ET T.EY ["thing","pattern"] (spD K vD)):FnOk P w K mg base CX0 (k + 1) T.Gm T.Gs ["thing","pattern"] (spD K vC):=by
  refine T.Hm.ok sc_is_cell (fun vs H Q E h=>?_) (fun cdv A outer s H vs Q E hr h=>?_)
  · obtain ⟨ds,d,hd,⟨x,p,rfl,_⟩,_⟩:=h; exact hd.length.symm
  have nd:=sc_is_cell.nd
  obtain ⟨ds,d,hd,⟨x,p,rfl,hp,rfl⟩,post⟩:=h
  obtain ⟨v0,v1,rfl,h0,h1⟩:=fA hd
  refine ⟨_,(ay (aL (xr (aF Dy hr rfl T.EI T.DS.kp (eK T) .nil aZ (aj (pv 0) (aj ak (aj (bp (v:=.int 99) rfl T.Eg ⟨_,rfl⟩) ag)))) (fQ (aF IX hr rfl T.HQ T.FJ.kp (oh T) .nil aZ (aj (pv 0) (aj (pv 1) ag))))))),?_⟩
  exact bc (K:=K) (d:=.bl (pU p x)) (tZ (bq (R:=fm) (af (ae h0) (af ao (af ao aA))) ⟨x,0,99,rfl,rfl⟩) fun _=>bq (R:=vD) (af (ae h0) (af (ae h1) aA)) ⟨x,p,rfl,hp,rfl⟩) post
end
end My
end
section
namespace My
open PySem L2 PyProof.Rows
section
variable {P:Program} {w:World} {K:PySem.W.Frag} {mg:Str→Option Value} {base:Heap} {k:Nat}
def nC (c:Int):Option (Str × Nat):=match INS[c.toNat]? with
  | some (.tup [.str nm,.int m])=>some (nm,m.toNat)
  | _=>none
theorem AN {c:Int} {nm:Str} {m:Nat} (h:nC c = some (nm,m)):INS[c.toNat]? = some (.tup [.str nm,.int (m:Int)])∧c.toNat < 17:=by
  unfold nC at h
  have hlt:c.toNat < 17:=by
    by_cases hc:c.toNat < 17
    · exact hc
    · rw [List.getElem?_eq_none (by show (17:Nat) ≤ c.toNat; omega)] at h
      cases h
  refine ⟨?_,hlt⟩
  have all:∀ i:Nat,i < 17→∀ nm m,(match INS[i]? with | some (.tup [.str nm,.int m])=>some (nm,m.toNat) | _=>none) = some (nm,m)→INS[i]? = some (.tup [.str nm,.int (m:Int)]):=by
    intro i hi nm m e
    match i,hi with
    | 0,_=>cases e; rfl
    | 1,_=>cases e; rfl
    | 2,_=>cases e; rfl
    | 3,_=>cases e; rfl
    | 4,_=>cases e; rfl
    | 5,_=>cases e; rfl
    | 6,_=>cases e; rfl
    | 7,_=>cases e; rfl
    | 8,_=>cases e; rfl
    | 9,_=>cases e; rfl
    | 10,_=>cases e; rfl
    | 11,_=>cases e; rfl
    | 12,_=>cases e; rfl
    | 13,_=>cases e; rfl
    | 14,_=>cases e; rfl
    | 15,_=>cases e; rfl
    | 16,_=>cases e; rfl
    | n + 17,h=>omega
  exact all c.toNat hlt nm m h
def gU (cells:List D) (p m:Nat):List D:=(cells.drop (p + 1)).take m
def vE (ds:List D) (d:D):Prop:=∃ (cells:List D) (p:Nat) (c:Int) (nm:Str) (m:Nat),ds = [.tup cells,.int p]∧cells[p]? = some (.int c)∧0 ≤ c∧nC c = some (nm,m)∧(gU cells p m).length = m∧d = .tup [.str nm,.tup (gU cells p m)]
theorem jK (T:Txt P w K mg)  : FnOk P w K mg base CX0 (k + 1) T.DC T.DF ["cells","place"] (spD K vE):=by
  refine T.Ej.ok sc_instruction_at (fun vs H Q E h=>?_) (fun cdv A outer s H vs Q E hr h=>?_)
  · obtain ⟨ds,d,hd,⟨cells,p,c,nm,m,rfl,_⟩,_⟩:=h; exact hd.length.symm
  have nd:=sc_instruction_at.nd
  obtain ⟨ds,d,hd,⟨cells,p,c,nm,m,rfl,hc,c0,hi,hb,rfl⟩,post⟩:=h
  obtain ⟨v0,v1,rfl,h0,h1⟩:=fA hd
  refine ⟨_,(aq (bu (PW.pt (cW (aP xj (pv 1) (aH aR rfl T.C1 bI (aj (pv 0) ag)) (aU _)) (dm (aP xj (aG aE (pv 0) (pv 1) (fun _ _=>rfl)) (aH aR rfl T.C1 bI (aj (bp (v:=.ref T.D3) rfl T.Dm rfl) ag)) (aU _))))) (ay jM) aS)
  (aq (eR (aG aE (bp (v:=.ref T.D3) rfl T.Dm rfl) (aG aE (pv 0) (pv 1) (fun _ _=>rfl)) (fun _ _=>rfl)) (eQ rfl (bg (aW (i:=2) nd rfl (Or.inl rfl)) (bg (aW (i:=3) nd rfl (Or.inl rfl)) cG))))
  (aq (bC (i:=4) nd rfl (Or.inl rfl) (cM cI rfl T.DT cA (aj (eA ji (pv 0) (eE (bz fO (pv 1) ak)) (eE (bz fO (bz fO (pv 1) ak) (pv 3)))) ag)))
  (aq (bu (aP nH (aH aR rfl T.C1 bI (aj (pv 4) ag)) (pv 3) (aU _)) (ay jM) aS)
  (ay (aL (aT (aj (pv 2) (aj (pv 4) ag))))))))),?_⟩
  obtain ⟨hi,h17⟩:=AN hi
  have hp:p < cells.length:=(List.getElem?_eq_some_iff.mp hc).1
  have ec:c = ((c.toNat:Nat):Int):=by omega
  refine aN (K:=K) (b:=false) (RT.as (bN (b:=false) (c:=false) (RT.as (aC (d4 (p:=fun i j=>decide (j ≤ i)) (ae h1) (cg (ae h0)))) (decide_eq_false (by omega))) fun _=>RT.as (aC (d4 (p:=fun i j=>decide (j ≤ i)) (aK (k:=p) (ae h0) (ae h1) hc) (cg (mD T.FX)))) (decide_eq_false (by show ¬ (17:Int) ≤ c; omega))) rfl) (fun c=>nomatch c) (fun _ H1 s1=>?_)
  have h0:=s1.dat h0
  have h1:=s1.dat h1
  refine lA (K:=K) (d:=.str nm) (e:=.int m) (aK (k:=c.toNat) (mD T.FX) (RE.as (aK (k:=p) (ae h0) (ae h1) hc) (congrArg D.int ec)) hi) fun v2 v3 H2 s2 h2 h3=>?_
  have h0:=s2.dat h0
  have h1:=s2.dat h1
  have el:(p:Int) + 1 = ((p + 1:Nat):Int):=by omega
  have eh:(p:Int) + 1 + (m:Int) = ((p + 1 + m:Nat):Int):=by omega
  refine eG (K:=K) (d:=.tup (gU cells p m)) (RE.as (uY (Bd (lo:=p + 1) (hi:=p + 1 + m) (ae h0) (RE.as (hX (ae h1) ao) (congrArg D.int el)) (RE.as (hX (hX (ae h1) ao) (ae h3)) (congrArg D.int eh)) (by omega) (by omega))) (by unfold gU; rw [show p + 1 + m - (p + 1) = m by omega])) fun v4 H3 s3 h4=>?_
  refine aN (K:=K) (b:=false) (RT.as (aC (d4 (p:=fun i j=>decide (i < j)) (cg (ae h4)) (ae (s3.dat h3)))) (decide_eq_false (by rw [hb]; omega))) (fun c=>nomatch c) (fun _ H4 s4=>?_)
  exact bc (K:=K) (d:=.tup [.str nm,.tup (gU cells p m)]) (aY (af (ae (s4.dat (s3.dat h2))) (af (ae (s4.dat h4)) aA))) fun v H' s q=>post v H' (s1.trans (s2.trans (s3.trans (s4.trans s)))) q
abbrev SS:List Str:=["put","far","load","add","sub","mul","less","more","twice","about"]
def BO (rec:Nat→Option Bool) (pat:D) (cells:List D) (p:Nat):D→Option Bool
  | .int c=>(match nC c with
    | some (nm,m)=>if (gU cells p m).length = m then (if (!decide (nm ∈ SS) || !((gU cells p m).map (pU pat)).all id) = true then some false else rec (p + 1 + m)) else none
    | none=>none)
  | _=>none
def lE:Nat→D→List D→Nat→Option Bool
  | 0,_,_,_=>none
  | n + 1,pat,cells,p=>match cells[p]? with
    | none=>some true
    | some x=>if cj x 0 99 = false then some false else BO (lE n pat cells) pat cells p x
def Al (ds:List D) (d:D):Prop:=∃ (cells:List D) (pat:D) (b:Bool),ds = [.tup cells,pat]∧ppD 3 pat = true∧cells.length ≤ 100∧lE (cells.length + 1) pat cells 0 = some b∧d = .bl b
def CA (σ:L2.St) (_:Hp):Nat:=match σ[2]? with
  | some (some (V.int p))=>(200 - p).toNat
  | _=>0
theorem AB {cells:List D} {p m:Nat}:(gU cells p m).length ≤ cells.length:=by
  unfold gU
  rw [List.length_take,List.length_drop]
  omega
theorem yv {cells:List D} {p m:Nat} (h:(gU cells p m).length = m) (hp:p < cells.length):p + 1 + m ≤ cells.length:=by
  unfold gU at h
  rw [List.length_take,List.length_drop] at h
  omega
theorem iZ (T:Txt P w K mg) (Dy:FnOk P w K mg base CX0 k T.DP T.DQ ["thing","low","high"] (spD K fm)) (HW:FnOk P w K mg base CX0 k T.DC T.DF ["cells","place"] (spD K vE)) (JC:FnOk P w K mg base CX0 k T.Gm T.Gs ["thing","pattern"] (spD K vC)):FnOk P w K mg base CX0 (k + 1) T.Di T.Dk ["cells","pattern"] (spD K Al):=by
  refine T.DR.ok sc_are_instructions (fun vs H Q E h=>?_) (fun cdv A outer s H vs Q E hr h=>?_)
  · obtain ⟨ds,d,hd,⟨cells,pat,bb,rfl,_⟩,_⟩:=h; exact hd.length.symm
  have nd:=sc_are_instructions.nd
  obtain ⟨ds,d,hd,⟨cells,pat,bb,rfl,hp,hl,hr2,rfl⟩,post⟩:=h
  obtain ⟨v0,v1,rfl,h0,h1⟩:=fA hd
  refine ⟨_,(aq (bC (i:=2) nd rfl (Or.inl rfl) ak)
  (aq (qU PassesOwn.never (aP nH (pv 2) (aH aR rfl T.C1 bI (aj (pv 0) ag)) (aU _)) (aq (bu (bM (br (aF Dy hr rfl T.EI T.DS.kp (eK T) .nil aZ (aj (aG aE (pv 0) (pv 2) (fun _ _=>rfl)) (aj ak (aj (bp (v:=.int 99) rfl T.Eg ⟨_,rfl⟩) ag)))) (fun _=>rfl))) (ay (aL cE)) aS)
  (aq (zl (ay (eR (aF HW hr rfl T.GH T.Ej.kp (jZ T) .nil aZ (aj (pv 0) (aj (pv 2) ag))) (eQ rfl (bg (aW (i:=3) nd rfl (Or.inl rfl)) (bg (aW (i:=4) nd rfl (Or.inl rfl)) cG))))))
  (aq (bu (PW.pt (cW (aP oZ (pv 3) (bp (v:=.ref T.GL) rfl T.Fi rfl) (by with_unfolding_all rfl)) (dm (bM (br (aH (gB rfl) rfl T.IG j3 (aj (dk (own:=["cell"]) (fr:=[1]) (N':=["cell","pattern"]) (jg (pv 4)) rfl (by show cm ["cells","pattern","place","name","behind"] (fun x=>(aB cx).names.lookup x) _ _ _ _ = true; decide +kernel) rfl (fun _ _ _ _ _=>(aW (i:=0) (by show List.Nodup [("cell":Str),("pattern":Str)]; decide +kernel) rfl (Or.inl rfl))) (fun _ _ _ _ _=>b9) (fun _ _ _ _ _=>(aF JC hr rfl T.IQ T.Hm.kp (uh T) .nil aZ (aj (pv 0) (aj (pv 1) ag))))) ag)) (fun _=>rfl)))))) (ay (aL cE)) aS)
  (ay (xB (i:=2) nd rfl (Or.inl rfl) (bz fO ak (aH aR rfl T.C1 bI (aj (pv 4) ag))) rR))))))
  (ay (aL cE)))),?_⟩
  refine cJ (xX (cO (rB (fun σ G=>∃ (p n:Nat) (z3 z4:Option V),σ = [some v0,some v1,some (.int p),z3,z4]∧Same H G∧lE n pat cells p = some bb∧p ≤ cells.length) CA ?_ ?_ ?_)))
  · exact ⟨0,_,none,none,rfl,Same.refl _,hr2,Nat.zero_le _⟩
  · rintro σ G ⟨p,n,z3,z4,rfl,sG,ha,hpl⟩
    have g0:=sG.dat h0
    have g1:=sG.dat h1
    refine RT.use (b:=decide ((p:Int) < (cells.length:Int))) (aC (d4 (p:=fun i j=>decide (i < j)) (ae (K:=K) (Dat.intI (p:Int))) (cg (ae g0)))) fun G1 s1=>?_
    obtain ⟨n,rfl⟩:∃ m,n = m + 1:=by
      cases n with
      | zero=>cases ha
      | succ m=>exact ⟨m,rfl⟩
    by_cases hlt:p < cells.length
    · rw [decide_eq_true (by omega:(p:Int) < (cells.length:Int))]
      refine jH ?_
      have hx:cells[p]? = some cells[p]:=List.getElem?_eq_getElem hlt
      generalize cells[p] = x at hx
      have ha':(if cj x 0 99 = false then some false else BO (lE n pat cells) pat cells p x) = some bb:=by
        have e:lE (n + 1) pat cells p = some bb:=ha
        unfold lE at e
        rw [hx] at e
        exact e
      have g0:=s1.dat g0
      have g1:=s1.dat g1
      refine aN (K:=K) (b:=!cj x 0 99) (bo (aO (bq (R:=fm) (af (aK (k:=p) (ae g0) (ae (Dat.intI (p:Int))) hx) (af ao (af ao aA))) ⟨x,0,99,rfl,rfl⟩))) (fun cB G2 s2=>?_) (fun cB G2 s2=>?_)
      · rw [if_pos (gw cB)] at ha'
        cases ha'
        exact post _ _ (sG.trans (s1.trans s2)) (Dat.blI _)
      · have cw:=d3 cB
        rw [if_neg (by rw [cw]; exact fun z=>nomatch z)] at ha'
        cases x with
        | int c =>
          have ha':(match nC c with
            | some (nm,m)=>if (gU cells p m).length = m then (if (!decide (nm ∈ SS) || !((gU cells p m).map (pU pat)).all id) = true then some false else lE n pat cells (p + 1 + m)) else none
            | none=>none) = some bb:=ha'
          have c0:0 ≤ c:=by
            have z:(decide (0 ≤ c) && decide (c ≤ 99)) = true:=cw
            rw [Bool.and_eq_true] at z
            exact of_decide_eq_true z.1
          cases hin:nC c with
          | none=>rw [hin] at ha'; cases ha'
          | some nm =>
            obtain ⟨nm,m⟩:=nm
            rw [hin] at ha'
            dsimp only at ha'
            by_cases hb:(gU cells p m).length = m
            · rw [if_pos hb] at ha'
              have g0:=s2.dat g0
              have g1:=s2.dat g1
              refine lA (K:=K) (d:=.str nm) (e:=.tup (gU cells p m)) (bq (R:=vE) (af (ae g0) (af (ae (Dat.intI (p:Int))) aA)) ⟨cells,p,c,nm,m,rfl,hx,c0,hin,hb,rfl⟩) fun v3 v4 G3 s3 g3 g4=>?_
              have g1:=s3.dat g1
              have lb:=AB (cells:=cells) (p:=p) (m:=m)
              refine aN (K:=K) (b:=!decide (nm ∈ SS) || !((gU cells p m).map (pU pat)).all id) (bN (aC (uW (ys:=SS) (ae g3) (mD T.Iu))) fun _=>bo (aO (iO (sy (ae g4) (by omega) _ (by simp) rfl (fun G4 i z vz d s4 hz hi hvz=>?_))))) (fun c2 G4 s4=>?_) (fun c2 G4 s4=>?_)
              · rw [List.getElem?_map,List.getElem?_map,hz] at hi
                cases hi
                exact bq (E:=E0) (R:=vC) (af (ae hvz) (af (ae (s4.dat g1)) aA)) ⟨z,pat,rfl,hp,rfl⟩
              · rw [if_pos c2] at ha'
                cases ha'
                exact post _ _ (sG.trans (s1.trans (s2.trans (s3.trans s4)))) (Dat.blI _)
              · rw [if_neg (by rw [c2]; exact Bool.false_ne_true)] at ha'
                refine ⟨_,rfl,RE.use (hX (K:=K) ao (cg (ae (s4.dat g4)))) fun v5 G5 s5 q5=>?_⟩
                refine ⟨p,1 + ((gU cells p m).length:Int),rfl,q5.intE,?_⟩
                have ep:(p:Int) + (1 + ((gU cells p m).length:Int)) = ((p + 1 + m:Nat):Int):=by rw [hb]; omega
                have he:=yv hb hlt
                refine ⟨⟨p + 1 + m,n,some v3,some v4,by rw [← ep]; rfl,sG.trans (s1.trans (s2.trans (s3.trans (s4.trans s5)))),ha',he⟩,?_⟩
                show (200 - ((p:Int) + (1 + ((gU cells p m).length:Int)))).toNat < (200 - (p:Int)).toNat
                omega
            · rw [if_neg hb] at ha'
              cases ha'
        | _=>cases ha'
    · rw [decide_eq_false (by omega:¬ (p:Int) < (cells.length:Int))]
      refine kR ?_
      have e:lE (n + 1) pat cells p = some true:=by
        unfold lE
        rw [List.getElem?_eq_none (by omega)]
      rw [e] at ha
      cases ha
      exact post _ _ (sG.trans s1) (Dat.blI _)
  · intro σ G Q1 Q2 hQ hc
    obtain ⟨v,e,v',e',p,ys,e2,hq,i,j,e3,e4,b,e5,q⟩:=hc
    exact ⟨v,e,v',e',p,ys,e2,hq,i,j,e3,e4,b,e5,hQ _ _ q⟩
def rT:D→Bool
  | .str x=>decide (x = "pick")
  | _=>false
def csD (pat:D):D→Option Bool
  | .tup l=>if (decide (1 ≤ (l.length:Int)) && decide ((l.length:Int) ≤ 12)) = false then some false else lE (l.length + 1) pat l 0
  | _=>some false
def mw:D→Option Bool
  | .tup [nm,pat,cs]=>if (!iF nm || (rT nm || !o4 pat)) = true then some false else csD pat cs
  | _=>some false
def CB:D→Prop
  | .tup (nm :: _)=>zW nm
  | _=>True
def rG (ds:List D) (d:D):Prop:=∃ (x:D) (b:Bool),ds = [x]∧CB x∧mw x = some b∧d = .bl b
theorem pC {K:PySem.W.Frag} {te:TE} {us:TS} {En:Ends} {σ:L2.St} {H:Hp} {i j l:Nat} {d e f:D} (h:RE K te σ H (.tup [d,e,f])) (q:∀ v w x H',Same H H'→Dat K H' d v→Dat K H' e w→Dat K H' f x→us En (((σ.set i (some v)).set j (some w)).set l (some x)) H') :
    jT (pJ te (qo K 3 (fY (bX i) (fY (bX j) (fY (bX l) rP))))) us En σ H :=
  h.use fun x H1 s1 q1=>by
    obtain ⟨a,vs,e1,hq,hd⟩:=q1.tupE
    obtain ⟨v,w,x,e2,hv,hw,hx⟩:=p7 hd
    subst e1 e2
    exact ⟨a,_,rfl,hq,rfl,v,_,rfl,w,_,rfl,x,_,rfl,rfl,q v w x H1 s1 hv hw hx⟩
theorem lV {x:D} (h:∀ y,x ≠ .tup y):jc x "tuple" = false:=by
  cases x with
  | tup y=>exact absurd rfl (h y)
  | _=>rfl
theorem xA {x:D} (h:∀ a b c,x ≠ .tup [a,b,c]):mw x = some false:=by
  unfold mw
  split
  · rename_i a b c; exact absurd rfl (h a b c)
  · rfl
theorem A0 {x:D} (h:o4 x = true):ppD 3 x = true:=by
  unfold o4 at h
  rw [Bool.and_eq_true] at h
  exact h.1
theorem wQ {x:D} (h:iF x = true):∃ y,x = .str y:=by
  cases x with
  | str y=>exact ⟨y,rfl⟩
  | _=>cases h
theorem qN (T:Txt P w K mg) (JE:FnOk P w K mg base CX0 k T.Gp T.Gv ["thing"] (spD K vF)) (IY:FnOk P w K mg base CX0 k T.EU T.EZ ["thing"] (spD K Ap)) (HC:FnOk P w K mg base CX0 k T.Di T.Dk ["cells","pattern"] (spD K Al)):FnOk P w K mg base CX0 (k + 1) T.FW T.F1 ["thing"] (spD K rG):=by
  refine T.GO.ok sc_is_piece (fun vs H Q E h=>?_) (fun cdv A outer s H vs Q E hr h=>?_)
  · obtain ⟨ds,d,hd,⟨x,bb,rfl,_⟩,_⟩:=h; exact hd.length.symm
  have nd:=sc_is_piece.nd
  obtain ⟨ds,d,hd,⟨x,bb,rfl,hok,hpc,rfl⟩,post⟩:=h
  obtain ⟨v0,rfl,h0⟩:=iz hd
  refine ⟨_,(aq (bu (PW.pt (cW (bM (br (aH (cC fM) rfl T.CJ aQ (aV (pv 0) (aV (dj (v:=.ty "tuple") rfl T.DT cA rfl) ag))) (fun _=>rfl))) (dm (aP gF (aH aR rfl T.C1 bI (aj (pv 0) ag)) ak (aU _))))) (ay (aL cE)) aS)
  (aq (eR (pv 0) (eQ rfl (bg (aW (i:=1) nd rfl (Or.inl rfl)) (bg (aW (i:=2) nd rfl (Or.inl rfl)) (bg (aW (i:=3) nd rfl (Or.inl rfl)) cG)))))
  (aq (bu (PW.pt (cW (bM (br (aF JE hr rfl T.IS T.Ho.kp (uj T) .nil aZ (aj (pv 1) ag)) (fun _=>rfl))) (cW (aP bV (pv 1) aM (aU _)) (dm (bM (br (aF IY hr rfl T.HR T.FK.kp (oi T) .nil aZ (aj (pv 2) ag)) (fun _=>rfl))))))) (ay (aL cE)) aS)
  (aq (bu (PW.pt (cW (bM (br (aH (cC fM) rfl T.CJ aQ (aV (pv 3) (aV (dj (v:=.ty "tuple") rfl T.DT cA rfl) ag))) (fun _=>rfl))) (dm (bM (mB ir ir ak (aH aR rfl T.C1 bI (aj (pv 3) ag)) (bp (v:=.int 12) rfl T.CZ ⟨_,rfl⟩)))))) (ay (aL cE)) aS)
  (ay (aL (aF HC hr rfl T.F9 T.DR.kp (i7 T) .nil aZ (aj (pv 3) (aj (pv 2) ag))))))))),?_⟩
  by_cases h3:∃ a b c,x = .tup [a,b,c]
  · obtain ⟨nm,pat,cs,rfl⟩:=h3
    refine aN (K:=K) (b:=false) (RT.as (bN (b:=false) (c:=false) (RT.as (bo (aO (bA (ae h0)))) rfl) fun _=>RT.as (aC (eT (cg (ae h0)) ao)) rfl) rfl) (fun c=>nomatch c) (fun _ H1 s1=>?_)
    refine pC (K:=K) (d:=nm) (e:=pat) (f:=cs) (ae (s1.dat h0)) fun v1 v2 v3 H2 s2 h1 h2 h3=>?_
    have hpc':(if (!iF nm || (rT nm || !o4 pat)) = true then some false else csD pat cs) = some bb:=hpc
    refine aN (K:=K) (b:=!iF nm || (rT nm || !o4 pat)) (bN (bo (aO (bq (R:=vF) (af (ae h1) aA) ⟨nm,rfl,hok,rfl⟩))) fun c=>bN ?_ fun _=>bo (aO (bq (R:=Ap) (af (ae h2) aA) ⟨pat,rfl,rfl⟩))) (fun c H3 s3=>?_) (fun c H3 s3=>?_)
    · obtain ⟨y,rfl⟩:=wQ (d3 c)
      exact aC (bj (ae h1) aI)
    · rw [if_pos c] at hpc'
      cases hpc'
      exact bc (K:=K) (d:=.bl false) dq fun v H' s q=>post v H' (s1.trans (s2.trans (s3.trans s))) q
    · rw [if_neg (by rw [c]; exact Bool.false_ne_true)] at hpc'
      rw [Bool.or_eq_false_iff,Bool.or_eq_false_iff] at c
      have hp:=A0 (d3 c.2.2)
      have h2:=s3.dat h2
      have h3:=s3.dat h3
      have s13:=s1.trans (s2.trans s3)
      by_cases hc:∃ l,cs = .tup l
      · obtain ⟨l,rfl⟩:=hc
        have hpc':(if (decide (1 ≤ (l.length:Int)) && decide ((l.length:Int) ≤ 12)) = false then some false else lE (l.length + 1) pat l 0) = some bb:=hpc'
        refine aN (K:=K) (b:=!(decide (1 ≤ (l.length:Int)) && decide ((l.length:Int) ≤ 12))) (RT.as (bN (b:=false) (RT.as (bo (aO (bA (ae h3)))) rfl) fun _=>bo (aC (jN (p:=fun i j=>decide (i ≤ j)) (r:=fun i j=>decide (i ≤ j)) ao (cg (ae h3)) fun _=>ao))) (Bool.false_or _)) (fun c4 H4 s4=>?_) (fun c4 H4 s4=>?_)
        · rw [if_pos (gw c4)] at hpc'
          cases hpc'
          exact bc (K:=K) (d:=.bl false) dq fun v H' s q=>post v H' (s13.trans (s4.trans s)) q
        · have c5:=d3 c4
          rw [if_neg (by rw [c5]; exact fun z=>nomatch z)] at hpc'
          rw [Bool.and_eq_true] at c5
          have l12:=of_decide_eq_true c5.2
          exact bc (K:=K) (d:=.bl bb) (bq (R:=Al) (af (ae (s4.dat h3)) (af (ae (s4.dat h2)) aA)) ⟨l,pat,bb,rfl,hp,by omega,hpc',rfl⟩) fun v H' s q=>post v H' (s13.trans (s4.trans s)) q
      · have hc':∀ y,cs ≠ .tup y:=fun y e=>hc ⟨y,e⟩
        have e:bb = false:=by
          cases cs with
          | tup y=>exact absurd rfl (hc' y)
          | _=>cases hpc'; rfl
        refine aN (K:=K) (b:=true) (RT.as (bN (b:=true) (c:=true) (RT.as (bo (aO (bA (ae h3)))) (by rw [lV hc']; rfl)) fun c=>nomatch c) rfl) (fun c4 H4 s4=>?_) (fun c=>nomatch c)
        rw [e] at post
        exact bc (K:=K) (d:=.bl false) dq fun v H' s q=>post v H' (s13.trans (s4.trans s)) q
  · have h3':∀ a b c,x ≠ .tup [a,b,c]:=fun a b c e=>h3 ⟨a,b,c,e⟩
    rw [xA h3'] at hpc
    cases hpc
    refine aN (K:=K) (b:=true) ?_ (fun c H1 s1=>?_) (fun c=>nomatch c)
    · by_cases ht:∃ l,x = .tup l
      · obtain ⟨l,rfl⟩:=ht
        refine RT.as (bN (b:=false) (c:=true) (RT.as (bo (aO (bA (ae h0)))) rfl) fun _=>RT.as (aC (eT (cg (ae h0)) ao)) ?_) rfl
        have:¬ (l.length:Int) = 3:=fun e=>by
          match l,e with
          | [a,b,c],_=>exact h3' a b c rfl
          | [],h=>simp at h
          | [_],h=>simp at h
          | [_,_],h=>simp at h
          | _ :: _ :: _ :: _ :: _,h=>simp at h; omega
        rw [decide_eq_false this]
        rfl
      · have ht':∀ y,x ≠ .tup y:=fun y e=>ht ⟨y,e⟩
        exact RT.as (bN (b:=true) (c:=true) (RT.as (bo (aO (bA (ae h0)))) (by rw [lV ht']; rfl)) fun c=>nomatch c) rfl
    · exact bc (K:=K) (d:=.bl false) dq fun v H' s q=>post v H' (s1.trans s) q
end
end My
end
section
namespace My
open PySem L2 PyProof.Rows
section
variable {P:Program} {w:World} {K:PySem.W.Frag} {mg:Str→Option Value} {base:Heap} {k:Nat}
theorem dO {sp:Sp} {dvs:List V} {E:XK} {tA:TA} {σ:L2.St} {H:Hp} {Q:VK} (h:tA σ H fun vs H1=>sp (vs ++ dvs) H1 Q E):fB sp dvs E tA σ H Q:=h
theorem bS {te:TE} {tA:TA} {σ:L2.St} {H:Hp} {Q:List V→Hp→Prop} (h:te σ H fun x H1=>tA σ H1 fun xs H2=>Q (x :: xs) H2):bD te tA σ H Q:=h
inductive Pa where
  | hole (i:Int)
  | gap (i m:Int)
  | slot (i:Int)
  | num (n:Int)
  | two (o:Str) (a b:Pa)
def toP:Pa→D
  | .hole i=>.tup [.str "hole",.int i]
  | .gap i m=>.tup [.str "gap",.int i,.int m]
  | .slot i=>.tup [.str "slot",.int i]
  | .num n=>.tup [.str "num",.int n]
  | .two o a b=>.tup [.str o,toP a,toP b]
abbrev okB (o:Str):Prop:=o = "add"∨o = "sub"∨o = "mul"∨o = "less"
def fS:Pa→Prop
  | .num n=>0 ≤ n∧n ≤ 9999
  | .two o a b=>okB o∧fS a∧fS b
  | _=>True
def ck:Pa→Nat
  | .two _ a b=>max (ck a) (ck b) + 1
  | _=>1
theorem j5 (p:Pa):1 ≤ ck p:=by cases p <;> simp [ck]
abbrev Fnd:Type:=List Tr × List Int × List Int
def BB (f g:Fnd):Fnd:=(f.1 ++ g.1,f.2.1 ++ g.2.1,f.2.2 ++ g.2.2)
def bQ:Pa→Tr→Option Fnd
  | .hole _,t=>some ([t],[],[])
  | .gap _ m,.num n=>if n ≤ m then some ([],[n],[]) else none
  | .gap _ _,_=>none
  | .slot _,.arg k=>some ([],[],[k])
  | .slot _,_=>none
  | .num n,.num m=>if m = n then some ([],[],[]) else none
  | .num _,_=>none
  | .two o a b,.two o' x y=>if o' = o then (match bQ a x,bQ b y with
    | some f,some g=>some (BB f g)
    | _,_=>none) else none
  | .two _ _ _,_=>none
def Cy:Pa→Bool
  | .hole _=>true
  | .gap _ _=>true
  | .slot _=>true
  | _=>false
theorem wu (t:Tr) (ht:okT t):∃ kd r,toD t = .tup (.str kd :: r)∧(kd = "num"↔∃ n,t = .num n)∧(kd = "arg"↔∃ n,t = .arg n):=by
  cases t with
  | num n=>exact ⟨_,_,rfl,⟨fun _=>⟨n,rfl⟩,fun _=>rfl⟩,⟨fun e=>absurd e (by decide +kernel),fun ⟨m,e⟩=>nomatch e⟩⟩
  | arg n=>exact ⟨_,_,rfl,⟨fun e=>absurd e (by decide +kernel),fun ⟨m,e⟩=>nomatch e⟩,⟨fun _=>⟨n,rfl⟩,fun _=>rfl⟩⟩
  | two o a b =>
    have h:o = "add"∨o = "sub"∨o = "mul"∨o = "less":=ht.1
    refine ⟨_,_,rfl,⟨fun e=>?_,fun ⟨m,e⟩=>nomatch e⟩,⟨fun e=>?_,fun ⟨m,e⟩=>nomatch e⟩⟩
    · subst e; exact absurd h (by decide +kernel)
    · subst e; exact absurd h (by decide +kernel)
  | pick a b c=>exact ⟨_,_,rfl,⟨fun e=>absurd e (by decide +kernel),fun ⟨m,e⟩=>nomatch e⟩,⟨fun e=>absurd e (by decide +kernel),fun ⟨m,e⟩=>nomatch e⟩⟩
def jq (ds:List D) (d:D):Prop:=∃ p t,ds = [toP p,toD t]∧Cy p = true∧okT t∧d = .bl (bQ p t).isSome
theorem qp {i m:Int} {t:Tr} (h:∀ n,t ≠ .num n):bQ (.gap i m) t = none:=by
  cases t with
  | num n=>exact absurd rfl (h n)
  | _=>rfl
theorem nP {i:Int} {t:Tr} (h:∀ n,t ≠ .arg n):bQ (.slot i) t = none:=by
  cases t with
  | arg n=>exact absurd rfl (h n)
  | _=>rfl
theorem kn (T:Txt P w K mg)  : FnOk P w K mg base CX0 (k + 1) T.DW T.DY ["mark","tree"] (spD K jq):=by
  refine T.EB.ok sc_may_stand_for (fun vs H Q E h=>?_) (fun cdv A outer s H vs Q E hr h=>?_)
  · obtain ⟨ds,d,hd,⟨p,t,rfl,_⟩,_⟩:=h; exact hd.length.symm
  have nd:=sc_may_stand_for.nd
  obtain ⟨ds,d,hd,⟨p,t,rfl,hm,ht,rfl⟩,post⟩:=h
  obtain ⟨v0,v1,rfl,h0,h1⟩:=fA hd
  refine ⟨_,(aq (bu (aP bV (aG aE (pv 0) ak (fun _ _=>rfl)) aM (aU _)) (ay (aL (fP (cf bV (aG aE (pv 1) ak (fun _ _=>rfl)) aM (aU _)) (fQ (cf ir (aG aE (pv 1) ak (fun _ _=>rfl)) (aG aE (pv 0) ak (fun _ _=>rfl)) (aU _)))))) aS)
  (ay (aL (xr (cf bV (aG aE (pv 0) ak (fun _ _=>rfl)) aM (aU _)) (fQ (cf bV (aG aE (pv 1) ak (fun _ _=>rfl)) aM (aU _))))))),?_⟩
  obtain ⟨kd,r,ek,hnum,harg⟩:=wu t ht
  have h1':Dat K H (.tup (.str kd :: r)) v1:=by rw [← ek]; exact h1
  cases p with
  | hole i =>
    have h0:Dat K H (.tup [.str "hole",.int i]) v0:=h0
    refine aN (K:=K) (b:=false) (RT.as (aC (bj (aK (k:=0) (ae h0) ao rfl) aI)) (decide_eq_false (by decide +kernel))) (fun c=>nomatch c) (fun _ H1 s1=>?_)
    exact bc (K:=K) (d:=.bl true) (RE.as (tZ (b:=true) (c:=true) (RE.as (bj (aK (k:=0) (ae (s1.dat h0)) ao rfl) aI) (congrArg D.bl (decide_eq_true rfl))) fun c=>nomatch c) rfl) fun v H' s q=>post v H' (s1.trans s) q
  | gap i m =>
    have h0:Dat K H (.tup [.str "gap",.int i,.int m]) v0:=h0
    refine aN (K:=K) (b:=true) (RT.as (aC (bj (aK (k:=0) (ae h0) ao rfl) aI)) (decide_eq_true rfl)) (fun _ H1 s1=>?_) (fun c=>nomatch c)
    by_cases hn:∃ n,t = .num n
    · obtain ⟨n,rfl⟩:=hn
      have h1:Dat K H (.tup [.str "num",.int n]) v1:=h1
      refine bc (K:=K) (d:=.bl (decide (n ≤ m))) (RE.as (cq (b:=true) (RE.as (bj (aK (k:=0) (ae (s1.dat h1)) ao rfl) aI) (congrArg D.bl (decide_eq_true rfl))) fun _=>d4 (p:=fun i j=>decide (i ≤ j)) (aK (k:=1) (ae (s1.dat h1)) ao rfl) (aK (k:=2) (ae (s1.dat h0)) ao rfl)) rfl) fun v H' s q=>post v H' (s1.trans s) ?_
      have e:(bQ (.gap i m) (.num n)).isSome = decide (n ≤ m):=by
        show (if n ≤ m then some _ else none).isSome = _
        by_cases z:n ≤ m
        · rw [if_pos z,decide_eq_true z]; rfl
        · rw [if_neg z,decide_eq_false z]; rfl
      rw [e]
      exact q
    · refine bc (K:=K) (d:=.bl false) (RE.as (cq (b:=false) (c:=true) (RE.as (bj (aK (k:=0) (ae (s1.dat h1')) ao rfl) aI) (congrArg D.bl (decide_eq_false (fun e=>hn (hnum.mp e))))) fun c=>nomatch c) rfl) fun v H' s q=>post v H' (s1.trans s) ?_
      rw [qp fun n e=>hn ⟨n,e⟩]
      exact q
  | slot i =>
    have h0:Dat K H (.tup [.str "slot",.int i]) v0:=h0
    refine aN (K:=K) (b:=false) (RT.as (aC (bj (aK (k:=0) (ae h0) ao rfl) aI)) (decide_eq_false (by decide +kernel))) (fun c=>nomatch c) (fun _ H1 s1=>?_)
    refine bc (K:=K) (d:=.bl (decide (kd = "arg"))) (RE.as (tZ (b:=false) (RE.as (bj (aK (k:=0) (ae (s1.dat h0)) ao rfl) aI) (congrArg D.bl (decide_eq_false (by decide +kernel)))) fun _=>bj (aK (k:=0) (ae (s1.dat h1')) ao rfl) aI) (congrArg D.bl (Bool.false_or _))) fun v H' s q=>post v H' (s1.trans s) ?_
    by_cases ha:∃ n,t = .arg n
    · rw [decide_eq_true (harg.mpr ha)] at q
      obtain ⟨n,rfl⟩:=ha
      exact q
    · rw [decide_eq_false (fun e=>ha (harg.mp e))] at q
      rw [nP fun n e=>ha ⟨n,e⟩]
      exact q
  | num n=>cases hm
  | two o a b=>cases hm
def iJ (K:PySem.W.Frag) (o:Addr→Addr→Addr→HO) (n:Nat):Sp:=fun vs H Q _=>∃ (p:Pa) (t:Tr) (v0 v1:V) (f l0 l1 l2:Addr) (a b c:List V),vs = [v0,v1,.ref f]∧fS p∧okT t∧bf t ≤ 8∧ck p ≤ n∧n ≤ 3∧Dat K H (toP p) v0∧Dat K H (toD t) v1 ∧
  H f = some (o l0 l1 l2)∧f ≠ l0∧f ≠ l1∧f ≠ l2∧Tri l0 l1 l2 H a b c∧a.length + 2 ^ n ≤ 100∧b.length + 2 ^ n ≤ 100∧c.length + 2 ^ n ≤ 100 ∧
  ∀ (H':Hp) (a' b' c':List V),But3 l0 l1 l2 H H'→Tri l0 l1 l2 H' (a ++ a') (b ++ b') (c ++ c')→a'.length ≤ 2 ^ n→b'.length ≤ 2 ^ n→c'.length ≤ 2 ^ n →
    (∀ fd:Fnd,bQ p t = some fd→Dats K H' (fd.1.map toD) a'∧Dats K H' (fd.2.1.map D.int) b'∧Dats K H' (fd.2.2.map D.int) c')→Q (.bl (bQ p t).isSome) H'
def oD (l0 l1 l2:Addr):HO:=.dK [(Sum.inr "hole",.ref l0),(Sum.inr "gap",.ref l1),(Sum.inr "slot",.ref l2)]
theorem tO (l0 l1 l2:Addr):jn ([(Sum.inr "hole",V.ref l0),(Sum.inr "gap",.ref l1),(Sum.inr "slot",.ref l2)]:List (Key × V)) (Sum.inr "hole") = some (.ref l0):=rfl
theorem xg (l0 l1 l2:Addr):jn ([(Sum.inr "hole",V.ref l0),(Sum.inr "gap",.ref l1),(Sum.inr "slot",.ref l2)]:List (Key × V)) (Sum.inr "gap") = some (.ref l1):=rfl
theorem tP (l0 l1 l2:Addr):jn ([(Sum.inr "hole",V.ref l0),(Sum.inr "gap",.ref l1),(Sum.inr "slot",.ref l2)]:List (Key × V)) (Sum.inr "slot") = some (.ref l2):=rfl
theorem wq {H:Hp} {f:Addr} {kvs:List (Key × V)} {x:Str} {v:V} (h:H f = some (.dK kvs)) (e:jn kvs (Sum.inr x) = some v):DGet H f (.str x) (some v):=by
  have g:=DGet.k (k:=Sum.inr x) h
  rw [e] at g
  exact g
theorem mK {k:Str} (h:k = "hole"∨k = "gap"∨k = "slot"):KTD.inKeys k TM = true:=by
  rcases h with rfl | rfl | rfl <;> decide +kernel
theorem yu {o:Str} (h:okB o):KTD.inKeys o TM = false∧¬ o = "num":=by
  rcases h with rfl | rfl | rfl | rfl <;> decide +kernel
theorem xG (n:Nat):1 ≤ 2 ^ n:=Nat.one_le_iff_ne_zero.mpr (by simp)
theorem ko {n:Nat} {α:Type} {x y:List α} (h1:x.length ≤ 2 ^ n) (h2:y.length ≤ 2 ^ n):(x ++ y).length ≤ 2 ^ (n + 1):=by
  rw [List.length_append,Nat.pow_succ]; omega
theorem cZ {o o':Str} {a b:Pa} {x y:Tr} {fd:Fnd} (h:bQ (.two o a b) (.two o' x y) = some fd):o' = o∧∃ f g,bQ a x = some f∧bQ b y = some g∧fd = BB f g:=by
  unfold bQ at h
  by_cases e:o' = o
  · rw [if_pos e] at h
    cases h1:bQ a x with
    | none=>rw [h1] at h; cases h
    | some f =>
      cases h2:bQ b y with
      | none=>rw [h1,h2] at h; cases h
      | some g =>
        rw [h1,h2] at h
        cases h
        exact ⟨e,f,g,rfl,rfl,rfl⟩
  · rw [if_neg e] at h; cases h
theorem fX {o:Str} {a b:Pa} {x y:Tr} (h:bQ a x = none):bQ (.two o a b) (.two o x y) = none:=by
  unfold bQ
  rw [if_pos rfl,h]
theorem lQ {o:Str} {a b:Pa} {x y:Tr} {f:Fnd} (h:bQ a x = some f):(bQ (.two o a b) (.two o x y)).isSome = (bQ b y).isSome:=by
  show (if o = o then _ else none:Option Fnd).isSome = _
  rw [if_pos rfl,h]
  cases bQ b y <;> rfl
theorem qk {o kd:Str} {a b:Pa} {t:Tr} {r:List D} (hp:okB o) (ek:toD t = .tup (.str kd :: r)) (h:¬ kd = o):bQ (.two o a b) t = none:=by
  cases t with
  | two o' x y =>
    unfold bQ
    rw [if_neg]
    intro e
    apply h
    have z:toD (.two o' x y) = .tup [.str o',toD x,toD y]:=rfl
    rw [z] at ek
    injection ek with ek
    injection ek with ek _
    injection ek with ek
    rw [← ek,e]
  | _=>rfl
theorem qu {o kd:Str} {t:Tr} {r:List D} (ho:okB o) (ek:toD t = .tup (.str kd :: r)) (h:kd = o):∃ x y,t = .two o x y:=by
  subst h
  cases t with
  | two o' x y =>
    have z:toD (.two o' x y) = .tup [.str o',toD x,toD y]:=rfl
    rw [z] at ek
    injection ek with ek
    injection ek with ek _
    injection ek with ek
    subst ek
    exact ⟨x,y,rfl⟩
  | num n =>
    have z:toD (.num n) = .tup [.str "num",.int n]:=rfl
    rw [z] at ek
    injection ek with ek
    injection ek with ek _
    injection ek with ek
    subst ek
    exact absurd ho (by decide +kernel)
  | arg n =>
    have z:toD (.arg n) = .tup [.str "arg",.int n]:=rfl
    rw [z] at ek
    injection ek with ek
    injection ek with ek _
    injection ek with ek
    subst ek
    exact absurd ho (by decide +kernel)
  | pick x y u =>
    have z:toD (.pick x y u) = .tup [.str "pick",toD x,toD y,toD u]:=rfl
    rw [z] at ek
    injection ek with ek
    injection ek with ek _
    injection ek with ek
    subst ek
    exact absurd ho (by decide +kernel)
theorem tN {o:Addr→Addr→Addr→HO} (vs:List V) (H:Hp) (Q:VK) (E:XK):¬ iJ K o 0 vs H Q E:=fun ⟨p,_,_,_,_,_,_,_,_,_,_,_,_,_,_,h,_⟩=>by
  have:=j5 p
  omega
theorem sj (T:Txt P w K mg) {n:Nat} (Im:FnOk P w K mg base CX0 k T.DW T.DY ["mark","tree"] (spD K jq)) (Hl:FnOk P w K mg base CX0 k T.E7 T.Fb ["pattern","tree","found"] (iJ K oD n)):FnOk P w K mg base CX0 (k + 1) T.E7 T.Fb ["pattern","tree","found"] (iJ K oD (n + 1)):=by
  refine T.FP.ok sc_matches (fun vs H Q E h=>?_) (fun cdv A outer s H vs Q E hr h=>?_)
  · obtain ⟨p,t,v0,v1,f,l0,l1,l2,a,b,c,rfl,_⟩:=h; rfl
  have nd:=sc_matches.nd
  obtain ⟨p,t,v0,v1,f,l0,l1,l2,a,b,c,rfl,okp,okt,dpt,hn,hn3,h0,h1,hf,f0,f1,f2,tri,la,lb,lc,post⟩:=h
  refine ⟨_,(aq (bC (i:=3) nd rfl (Or.inl rfl) (aG aE (pv 0) ak (fun _ _=>rfl)))
  (aq (bu (aP jL (pv 3) (bp (v:=.ref T.Dh) rfl T.C0 rfl) (by with_unfolding_all rfl)) (aq (bu (bM (br (aF Im hr rfl T.GV T.EB.kp (kP T) .nil aZ (aj (pv 0) (aj (pv 1) ag))) (fun _=>rfl))) (ay (aL cE)) aS)
  (aq (bF (cV PySem.F.plainAttrs_list PySem.F.slot_list_append PySem.F.type_list_append bR (kX (tJ hr) (pv 2) (pv 3) (fun _ _=>rfl)) (aj (iH (aP bV (pv 3) aM (aU _)) (pv 1) (aG aE (pv 1) ak (fun _ _=>rfl))) ag)))
  (ay (aL cE)))) aS)
  (aq (bu (aP gF (aG aE (pv 1) ak (fun _ _=>rfl)) (pv 3) (aU _)) (ay (aL cE)) aS)
  (aq (bu (aP bV (pv 3) aM (aU _)) (ay (aL (cf bV (aG aE (pv 1) ak (fun _ _=>rfl)) (aG aE (pv 0) ak (fun _ _=>rfl)) (aU _)))) aS)
  (ay (aL (fP (aF Hl hr rfl T.Hx T.FP.kp (j0 T) .nil aZ (aj (aG aE (pv 0) ak (fun _ _=>rfl)) (aj (aG aE (pv 1) ak (fun _ _=>rfl)) (aj (pv 2) ag)))) (fQ (aF Hl hr rfl T.Hx T.FP.kp (j0 T) .nil aZ (aj (aG aE (pv 0) ak (fun _ _=>rfl)) (aj (aG aE (pv 1) ak (fun _ _=>rfl)) (aj (pv 2) ag)))))))))))),?_⟩
  obtain ⟨kd,r,ek,hnum,harg⟩:=wu t okt
  have hf':∀ {G:Hp},But3 l0 l1 l2 H G→G f = some (oD l0 l1 l2):=fun bb=>bb _ _ f0 f1 f2 hf
  have p1:=xG (n + 1)
  have p2:2 ^ (n + 1) = 2 * 2 ^ n:=by rw [Nat.pow_succ,Nat.mul_comm]
  cases p with
  | hole i =>
    have h0:Dat K H (.tup [.str "hole",.int i]) v0:=h0
    refine eG (K:=K) (d:=.str "hole") (aK (k:=0) (ae h0) ao rfl) fun v3 H1 s1 q3=>?_
    have ev:=q3.strE
    subst ev
    refine aN (K:=K) (b:=true) (RT.as (aC (fh (ae q3) T.CN)) (mK (.inl rfl))) (fun _ H2 s2=>?_) (fun c=>nomatch c)
    have s12:=s1.trans s2
    refine aN (K:=K) (b:=!true) (bo (aO (bq (R:=jq) (d:=.bl true) (af (ae (s12.dat h0)) (af (ae (s12.dat h1)) aA)) ⟨.hole i,t,rfl,rfl,okt,rfl⟩))) (fun c=>nomatch c) (fun _ H3 s3=>?_)
    have s13:=s12.trans s3
    refine cO ⟨_,rfl,_,rfl,f,.ref l0,rfl,wq (s13 _ _ hf) (tO l0 l1 l2),.inl ⟨rfl,_,SqL.of (s13 _ _ tri.h0)⟩,?_⟩
    refine RE.use (K:=K) (d:=toD t) (rb (b:=true) (RT.as (aC (K:=K) (bj (ae (Dat.strI "hole")) aI)) (decide_eq_true rfl)) (fun _=>ae (s13.dat h1)) (fun c=>nomatch c)) fun y H4 s4 q4=>?_
    have s14:=s13.trans s4
    have tri4:=tri.same s14
    refine ⟨l0,a,y,rfl,rfl,tri4.h0,bJ (by omega),?_⟩
    obtain ⟨t5,b5⟩:=tri4.p0 (v:=y)
    refine post _ [y] [] [] (s14.but3.trans b5) t5 (by simpa using p1) (by simp) (by simp) fun fd e=>?_
    cases e
    exact ⟨Dats.cons (Dat.mono (b5.grow tri4 t5) _ q4) Dats.nil,Dats.nil,Dats.nil⟩
  | gap i m =>
    have h0:Dat K H (.tup [.str "gap",.int i,.int m]) v0:=h0
    refine eG (K:=K) (d:=.str "gap") (aK (k:=0) (ae h0) ao rfl) fun v3 H1 s1 q3=>?_
    have ev:=q3.strE
    subst ev
    refine aN (K:=K) (b:=true) (RT.as (aC (fh (ae q3) T.CN)) (mK (.inr (.inl rfl)))) (fun _ H2 s2=>?_) (fun c=>nomatch c)
    have s12:=s1.trans s2
    refine aN (K:=K) (b:=!(bQ (.gap i m) t).isSome) (bo (aO (bq (R:=jq) (af (ae (s12.dat h0)) (af (ae (s12.dat h1)) aA)) ⟨.gap i m,t,rfl,rfl,okt,rfl⟩))) (fun cN H3 s3=>?_) (fun cS H3 s3=>?_)
    · have s13:=s12.trans s3
      have e:(bQ (.gap i m) t).isSome = false:=gw cN
      refine bc (K:=K) (d:=.bl false) dq fun v H' s qq=>?_
      rw [qq.blE,← e]
      have s14:=s13.trans s
      exact post _ [] [] [] s14.but3 (tri.same s14).nil (by simp) (by simp) (by simp) fun fd z=>by rw [z] at e; cases e
    · have s13:=s12.trans s3
      obtain ⟨nn,rfl⟩:∃ nn,t = .num nn:=by
        have cS':=d3 cS
        cases t with
        | num nn=>exact ⟨nn,rfl⟩
        | _=>cases cS'
      have h1:Dat K H (.tup [.str "num",.int nn]) v1:=h1
      refine cO ⟨_,rfl,_,rfl,f,.ref l1,rfl,wq (s13 _ _ hf) (xg l0 l1 l2),.inl ⟨rfl,_,SqL.of (s13 _ _ tri.h1)⟩,?_⟩
      refine RE.use (K:=K) (d:=.int nn) (rb (b:=false) (RT.as (aC (K:=K) (bj (ae (Dat.strI "gap")) aI)) (decide_eq_false (by decide +kernel))) (fun c=>nomatch c) (fun _=>aK (k:=1) (ae (s13.dat h1)) ao rfl)) fun y H4 s4 q4=>?_
      have s14:=s13.trans s4
      have tri4:=tri.same s14
      refine ⟨l1,b,y,rfl,rfl,tri4.h1,bJ (by omega),?_⟩
      obtain ⟨t5,b5⟩:=tri4.p1 (v:=y)
      have e:=d3 cS
      show Q (.bl true) _
      rw [← e]
      refine post _ [] [y] [] (s14.but3.trans b5) t5 (by simp) (by simpa using p1) (by simp) fun fd z=>?_
      have z':(if nn ≤ m then some ([],[nn],[]) else none:Option Fnd) = some fd:=z
      by_cases hm:nn ≤ m
      · rw [if_pos hm] at z'
        cases z'
        exact ⟨Dats.nil,Dats.cons (Dat.mono (b5.grow tri4 t5) _ q4) Dats.nil,Dats.nil⟩
      · rw [if_neg hm] at z'
        cases z'
  | slot i =>
    have h0:Dat K H (.tup [.str "slot",.int i]) v0:=h0
    refine eG (K:=K) (d:=.str "slot") (aK (k:=0) (ae h0) ao rfl) fun v3 H1 s1 q3=>?_
    have ev:=q3.strE
    subst ev
    refine aN (K:=K) (b:=true) (RT.as (aC (fh (ae q3) T.CN)) (mK (.inr (.inr rfl)))) (fun _ H2 s2=>?_) (fun c=>nomatch c)
    have s12:=s1.trans s2
    refine aN (K:=K) (b:=!(bQ (.slot i) t).isSome) (bo (aO (bq (R:=jq) (af (ae (s12.dat h0)) (af (ae (s12.dat h1)) aA)) ⟨.slot i,t,rfl,rfl,okt,rfl⟩))) (fun cN H3 s3=>?_) (fun cS H3 s3=>?_)
    · have s13:=s12.trans s3
      have e:(bQ (.slot i) t).isSome = false:=gw cN
      refine bc (K:=K) (d:=.bl false) dq fun v H' s qq=>?_
      rw [qq.blE,← e]
      have s14:=s13.trans s
      exact post _ [] [] [] s14.but3 (tri.same s14).nil (by simp) (by simp) (by simp) fun fd z=>by rw [z] at e; cases e
    · have s13:=s12.trans s3
      obtain ⟨nn,rfl⟩:∃ nn,t = .arg nn:=by
        have cS':=d3 cS
        cases t with
        | arg nn=>exact ⟨nn,rfl⟩
        | _=>cases cS'
      have h1:Dat K H (.tup [.str "arg",.int nn]) v1:=h1
      refine cO ⟨_,rfl,_,rfl,f,.ref l2,rfl,wq (s13 _ _ hf) (tP l0 l1 l2),.inl ⟨rfl,_,SqL.of (s13 _ _ tri.h2)⟩,?_⟩
      refine RE.use (K:=K) (d:=.int nn) (rb (b:=false) (RT.as (aC (K:=K) (bj (ae (Dat.strI "slot")) aI)) (decide_eq_false (by decide +kernel))) (fun c=>nomatch c) (fun _=>aK (k:=1) (ae (s13.dat h1)) ao rfl)) fun y H4 s4 q4=>?_
      have s14:=s13.trans s4
      have tri4:=tri.same s14
      refine ⟨l2,c,y,rfl,rfl,tri4.h2,bJ (by omega),?_⟩
      obtain ⟨t5,b5⟩:=tri4.p2 (v:=y)
      have e:=d3 cS
      show Q (.bl true) _
      rw [← e]
      refine post _ [] [] [y] (s14.but3.trans b5) t5 (by simp) (by simp) (by simpa using p1) fun fd z=>?_
      cases z
      exact ⟨Dats.nil,Dats.nil,Dats.cons (Dat.mono (b5.grow tri4 t5) _ q4) Dats.nil⟩
  | num m =>
    have h0:Dat K H (.tup [.str "num",.int m]) v0:=h0
    have h1':Dat K H (.tup (.str kd :: r)) v1:=by rw [← ek]; exact h1
    refine eG (K:=K) (d:=.str "num") (aK (k:=0) (ae h0) ao rfl) fun v3 H1 s1 q3=>?_
    refine aN (K:=K) (b:=false) (RT.as (aC (fh (ae q3) T.CN)) (by decide +kernel)) (fun c=>nomatch c) (fun _ H2 s2=>?_)
    have s12:=s1.trans s2
    refine aN (K:=K) (b:=!decide (kd = "num")) (aC (ph (aK (k:=0) (ae (s12.dat h1')) ao rfl) (ae (s2.dat q3)))) (fun cN H3 s3=>?_) (fun cS H3 s3=>?_)
    · have s13:=s12.trans s3
      have hne:¬ kd = "num":=of_decide_eq_false (gw cN)
      have e:bQ (.num m) t = none:=by
        cases t with
        | num n=>exact absurd (hnum.mpr ⟨n,rfl⟩) hne
        | _=>rfl
      refine bc (K:=K) (d:=.bl false) dq fun v H' s qq=>?_
      rw [qq.blE]
      have s14:=s13.trans s
      have pz:=post _ [] [] [] s14.but3 (tri.same s14).nil (by simp) (by simp) (by simp) fun fd z=>by rw [e] at z; cases z
      rw [e] at pz
      exact pz
    · have s13:=s12.trans s3
      obtain ⟨nn,rfl⟩:=hnum.mp (of_decide_eq_true (d3 cS))
      have h1:Dat K H (.tup [.str "num",.int nn]) v1:=h1
      refine aN (K:=K) (b:=true) (RT.as (aC (bj (ae ((s2.trans s3).dat q3)) aI)) (decide_eq_true rfl)) (fun _ H4 s4=>?_) (fun c=>nomatch c)
      have s14:=s13.trans s4
      refine bc (K:=K) (d:=.bl (decide (nn = m))) (pe (aK (k:=1) (ae (s14.dat h1)) ao rfl) (aK (k:=1) (ae (s14.dat h0)) ao rfl)) fun v H' s qq=>?_
      rw [qq.blE]
      have s15:=s14.trans s
      have pz:=post _ [] [] [] s15.but3 (tri.same s15).nil (by simp) (by simp) (by simp) fun fd z=>by
        have z':(if nn = m then some ([],[],[]) else none:Option Fnd) = some fd:=z
        by_cases hm:nn = m
        · rw [if_pos hm] at z'
          cases z'
          exact ⟨Dats.nil,Dats.nil,Dats.nil⟩
        · rw [if_neg hm] at z'
          cases z'
      have e:(bQ (.num m) (.num nn)).isSome = decide (nn = m):=by
        show (if nn = m then some _ else none:Option Fnd).isSome = _
        by_cases hm:nn = m
        · rw [if_pos hm,decide_eq_true hm]; rfl
        · rw [if_neg hm,decide_eq_false hm]; rfl
      rw [e] at pz
      exact pz
  | two o pa pb =>
    have h0:Dat K H (.tup [.str o,toP pa,toP pb]) v0:=h0
    have h1':Dat K H (.tup (.str kd :: r)) v1:=by rw [← ek]; exact h1
    obtain ⟨b1,b2⟩:=yu okp.1
    refine eG (K:=K) (d:=.str o) (aK (k:=0) (ae h0) ao rfl) fun v3 H1 s1 q3=>?_
    refine aN (K:=K) (b:=false) (RT.as (aC (fh (ae q3) T.CN)) b1) (fun c=>nomatch c) (fun _ H2 s2=>?_)
    have s12:=s1.trans s2
    refine aN (K:=K) (b:=!decide (kd = o)) (aC (ph (aK (k:=0) (ae (s12.dat h1')) ao rfl) (ae (s2.dat q3)))) (fun cN H3 s3=>?_) (fun cS H3 s3=>?_)
    · have s13:=s12.trans s3
      have e:=qk (a:=pa) (b:=pb) okp.1 ek (of_decide_eq_false (gw cN))
      refine bc (K:=K) (d:=.bl false) dq fun v H' s qq=>?_
      rw [qq.blE]
      have s14:=s13.trans s
      have pz:=post _ [] [] [] s14.but3 (tri.same s14).nil (by simp) (by simp) (by simp) fun fd z=>by rw [e] at z; cases z
      rw [e] at pz
      exact pz
    · have s13:=s12.trans s3
      obtain ⟨x,y,rfl⟩:=qu okp.1 ek (of_decide_eq_true (d3 cS))
      have h1:Dat K H (.tup [.str o,toD x,toD y]) v1:=h1
      refine aN (K:=K) (b:=false) (RT.as (aC (bj (ae ((s2.trans s3).dat q3)) aI)) (decide_eq_false b2)) (fun c=>nomatch c) (fun _ H4 s4=>?_)
      have s14:=s13.trans s4
      have dpa:ck pa ≤ n:=by simp only [ck] at hn; omega
      have dpb:ck pb ≤ n:=by simp only [ck] at hn; omega
      have dpx:bf x ≤ 8:=by simp only [bf] at dpt; omega
      have dpy:bf y ≤ 8:=by simp only [bf] at dpt; omega
      refine RE.use (K:=K) (d:=toP pa) (aK (k:=1) (ae (s14.dat h0)) ao rfl) fun w0 H5 s5 q5=>?_
      refine RE.use (K:=K) (d:=toD x) (aK (k:=1) (ae ((s14.trans s5).dat h1)) ao rfl) fun w1 H6 s6 q6=>?_
      have s16:=s14.trans (s5.trans s6)
      have tri6:=tri.same s16
      refine ⟨_,rfl,pa,x,w0,w1,f,l0,l1,l2,a,b,c,rfl,okp.2.1,okt.2.1,dpx,dpa,by omega,s6.dat q5,q6,s16 _ _ hf,f0,f1,f2,tri6,by omega,by omega,by omega,fun H7 a1 b1' c1 bb7 tri7 ka kb kc d7=>?_⟩
      refine ⟨_,rfl,?_⟩
      have n8:2 ^ n ≤ 8:=by
        have:n ≤ 3:=by omega
        match n,this with
        | 0,_=>decide
        | 1,_=>decide
        | 2,_=>decide
        | 3,_=>decide
      have g67:cQ K H6 H7:=bb7.grow tri6 tri7
      have bb17:But3 l0 l1 l2 H H7:=s16.but3.trans bb7
      cases hfa:bQ pa x with
      | none =>
        refine kR ?_
        have pz:=post H7 a1 b1' c1 bb17 tri7 (Nat.le_trans ka (Nat.pow_le_pow_right (by decide) (by omega))) (Nat.le_trans kb (Nat.pow_le_pow_right (by decide) (by omega))) (Nat.le_trans kc (Nat.pow_le_pow_right (by decide) (by omega))) fun fd z=>by rw [fX hfa] at z; cases z
        rw [fX hfa] at pz
        exact pz
      | some fa =>
        refine jH ?_
        obtain ⟨da,db,dc⟩:=d7 fa hfa
        refine dO (bS (RE.use (K:=K) (d:=toP pb) (aK (k:=2) (ae (Dat.mono g67 _ (s16.dat h0))) ao rfl) fun w2 H8 s8 q8=>?_))
        refine bS (RE.use (K:=K) (d:=toD y) (aK (k:=2) (ae (s8.dat (Dat.mono g67 _ (s16.dat h1)))) ao rfl) fun w3 H9 s9 q9=>?_)
        have s79:=s8.trans s9
        have tri9:=tri7.same s79
        refine ⟨_,rfl,pb,y,w2,w3,f,l0,l1,l2,a ++ a1,b ++ b1',c ++ c1,rfl,okp.2.2,okt.2.2,dpy,dpb,by omega,s9.dat q8,q9,s79 _ _ (hf' bb17),f0,f1,f2,tri9,by rw [List.length_append]; omega,by rw [List.length_append]; omega,by rw [List.length_append]; omega,fun H10 a2 b2' c2 bb10 tri10 ma mb mc d10=>?_⟩
        have g:=bb10.grow (K:=K) tri9 tri10
        rw [List.append_assoc,List.append_assoc,List.append_assoc] at tri10
        have pz:=post H10 (a1 ++ a2) (b1' ++ b2') (c1 ++ c2) (bb17.trans (s79.but3.trans bb10)) tri10 (ko ka ma) (ko kb mb) (ko kc mc) fun fd z=>by
          obtain ⟨_,f',g',e1,e2,e3⟩:=cZ z
          rw [hfa] at e1
          cases e1
          obtain ⟨da2,db2,dc2⟩:=d10 g' e2
          subst e3
          refine ⟨?_,?_,?_⟩
          · show Dats K H10 ((fa.1 ++ g'.1).map toD) _
            rw [List.map_append]
            exact Dats.append (Dats.mono g _ (s79.dats da)) da2
          · show Dats K H10 ((fa.2.1 ++ g'.2.1).map D.int) _
            rw [List.map_append]
            exact Dats.append (Dats.mono g _ (s79.dats db)) db2
          · show Dats K H10 ((fa.2.2 ++ g'.2.2).map D.int) _
            rw [List.map_append]
            exact Dats.append (Dats.mono g _ (s79.dats dc)) dc2
        rw [lQ hfa] at pz
        exact pz
end
end My
end
section
namespace My
open PySem L2 PyProof.Rows
section
variable {P:Program} {w:World} {K:PySem.W.Frag} {mg:Str→Option Value} {base:Heap} {k:Nat}
def fdD:Option Fnd→D
  | none=>.non
  | some f=>.tup [.tup (f.1.map toD),.tup (f.2.1.map D.int),.tup (f.2.2.map D.int)]
def lC (ds:List D) (d:D):Prop:=∃ nm p cs t,ds = [.tup [nm,toP p,cs],toD t]∧fS p∧okT t∧bf t ≤ 8∧ck p ≤ 3∧d = fdD (bQ p t)
theorem AV (x y z:V):ki [] ([(Sum.inr (Str.ofString "hole"),x),(Sum.inr (Str.ofString "gap"),y),(Sum.inr (Str.ofString "slot"),z)]:List (Key × V)) = [(Sum.inr (Str.ofString "hole"),x),(Sum.inr (Str.ofString "gap"),y),(Sum.inr (Str.ofString "slot"),z)]:=rfl
theorem BZ {K:PySem.W.Frag} {te:TE} {ts us:TS} {En:Ends} {σ:L2.St} {H:Hp} (h:te σ H fun x H'=>∃ k,vJ K x H' k∧if (!k) = true then ts { En with nx:=us En } σ H' else us En σ H'):jT (zJ (Br (fun σ H Q=>te σ H fun x H'=>∃ k,vJ K x H' k∧Q k H')) ts ue) us En σ H:=h
theorem qM (T:Txt P w K mg) (Hl:FnOk P w K mg base CX0 k T.E7 T.Fb ["pattern","tree","found"] (iJ K oD 3)):FnOk P w K mg base CX0 (k + 1) T.E6 T.E9 ["piece","tree"] (spD K lC):=by
  refine T.F4.ok sc_found_in (fun vs H Q E h=>?_) (fun cdv A outer s H vs Q E hr h=>?_)
  · obtain ⟨ds,d,hd,⟨nm,p,cs,t,rfl,_⟩,_⟩:=h; exact hd.length.symm
  have nd:=sc_found_in.nd
  obtain ⟨ds,d,hd,⟨nm,p,cs,t,rfl,okp,okt,dpt,dpp,rfl⟩,post⟩:=h
  obtain ⟨v0,v1,rfl,h0,h1⟩:=fA hd
  refine' ⟨_,?ybody,?yread⟩
  case ybody =>
    refine' aq ?y26 ?y27
    case y26 =>
      refine' bC (i:=2) ?y15 ?y16 ?y17 ?y18
      case y15=>exact nd
      case y16=>exact rfl
      case y17=>exact Or.inl rfl
      case y18 =>
        refine' y0 ?y10 ?y11 ?y12 ?y13 ?y14
        case y10 =>
          refine' mz ?y7 ?y8 ?y9
          case y7=>exact aM
          case y8=>exact (bB ag)
          case y9 =>
            refine' mz ?y4 ?y5 ?y6
            case y4=>exact aM
            case y5=>exact (bB ag)
            case y6 =>
              refine' mz ?y1 ?y2 ?y3
              case y1=>exact aM
              case y2=>exact (bB ag)
              case y3=>exact zk
        case y11=>exact rfl
        case y12=>exact rfl
        case y13=>simp
        case y14=>decide
    case y27 =>
      refine' aq ?y24 ?y25
      case y24 =>
        refine' bu ?y20 ?y21 ?y22
        case y20=>exact (bM (br (aF Hl hr rfl T.Hx T.FP.kp (j0 T) .nil aZ (aj (aG aE (pv 0) ak (fun _ _=>rfl)) (aj (pv 1) (aj (pv 2) ag)))) (fun _=>rfl)))
        case y21 =>
          refine' ay ?y19
          case y19=>exact (aL fw)
        case y22=>exact aS
      case y25 =>
        refine' ay ?y23
        case y23=>exact (aL (aT (aj (cM cI rfl T.DT cA (aj (kX (tJ hr) (pv 2) aM (fun _ _=>rfl)) ag)) (aj (cM cI rfl T.DT cA (aj (kX (tJ hr) (pv 2) aM (fun _ _=>rfl)) ag)) (aj (cM cI rfl T.DT cA (aj (kX (tJ hr) (pv 2) aM (fun _ _=>rfl)) ag)) ag)))))
  case yread =>
    refine cJ (fun f hf=>⟨bW (by decide),fun l0 hl0=>⟨bW (by decide),fun l1 hl1=>⟨bW (by decide),fun l2 hl2=>⟨?_,[(Sum.inr "hole",.ref l0),(Sum.inr "gap",.ref l1),(Sum.inr "slot",.ref l2)],rfl,by simp,?_⟩⟩⟩⟩)
    · rw [aJ (az (by rw [aJ (az (by rw [aJ (az au hl0)]; exact au) hl1),aJ (az au hl0)]; exact au) hl2),aJ (az (by rw [aJ (az au hl0)]; exact au) hl1),aJ (az au hl0)]
      exact au
    rw [AV]
    have n0f:f ≠ l0:=az au hl0
    have n1f:f ≠ l1:=az (by rw [aJ n0f]; exact au) hl1
    have n10:l0 ≠ l1:=az au hl1
    have n2f:f ≠ l2:=az (by rw [aJ n1f,aJ n0f]; exact au) hl2
    have n20:l0 ≠ l2:=az (by rw [aJ n10]; exact au) hl2
    have n21:l1 ≠ l2:=az au hl2
    generalize hG:upd (upd (upd (upd (upd H f (.dK [])) l0 (.lst [])) l1 (.lst [])) l2 (.lst [])) f (.dK [(Sum.inr "hole",V.ref l0),(Sum.inr "gap",.ref l1),(Sum.inr "slot",.ref l2)]) = G
    have gf:G f = some (oD l0 l1 l2):=by rw [← hG]; exact au
    have tri:Tri l0 l1 l2 G [] [] []:=by
      rw [← hG]
      refine ⟨?_,?_,?_,n10,n20,n21⟩
      · rw [aJ (Ne.symm n0f),aJ n20,aJ n10]; exact au
      · rw [aJ (Ne.symm n1f),aJ n21]; exact au
      · rw [aJ (Ne.symm n2f)]; exact au
    have sG:Same H G:=fun x o hx=>by
      have zf:=az hx hf
      have z0:x ≠ l0:=az (by rw [aJ zf]; exact hx) hl0
      have z1:x ≠ l1:=az (by rw [aJ z0,aJ zf]; exact hx) hl1
      have z2:x ≠ l2:=az (by rw [aJ z1,aJ z0,aJ zf]; exact hx) hl2
      rw [← hG,aJ zf,aJ z2,aJ z1,aJ z0,aJ zf]
      exact hx
    have free0:H l0 = none:=by rw [aJ (Ne.symm n0f)] at hl0; exact hl0
    have free1:H l1 = none:=by rw [aJ (Ne.symm n10),aJ (Ne.symm n1f)] at hl1; exact hl1
    have free2:H l2 = none:=by rw [aJ (Ne.symm n21),aJ (Ne.symm n20),aJ (Ne.symm n2f)] at hl2; exact hl2
    refine BZ (K:=K) (dO (bS (RE.use (K:=K) (d:=toP p) (aK (k:=1) (ae (sG.dat h0)) ao rfl) fun w0 G1 s1 q0=>?_)))
    refine ⟨_,rfl,_,rfl,p,t,w0,v1,f,l0,l1,l2,[],[],[],rfl,okp,okt,dpt,dpp,by decide,q0,(sG.trans s1).dat h1,s1 _ _ gf,n0f,n1f,n2f,tri.same s1,by decide,by decide,by decide,fun H' a' b' c' bb tri' _ _ _ dd=>⟨_,rfl,?_⟩⟩
    have sm:Same H H':=fun x o hx=>bb x o (az hx free0) (az hx free1) (az hx free2) (s1 _ _ (sG _ _ hx))
    cases hft:bQ p t with
    | none =>
      refine jH ?_
      rw [hft] at post
      exact post _ _ sm Dat.nonI
    | some fd =>
      refine kR ?_
      obtain ⟨d0,d1,d2⟩:=dd fd hft
      have gf':H' f = some (.dK [(Sum.inr "hole",V.ref l0),(Sum.inr "gap",.ref l1),(Sum.inr "slot",.ref l2)]):=bb _ _ n0f n1f n2f (s1 _ _ gf)
      rw [hft] at post
      exact bc (K:=K) (d:=fdD (some fd)) (aY (af (kr gf' (tO l0 l1 l2) tri'.h0 d0) (af (kr gf' (xg l0 l1 l2) tri'.h1 d1) (af (kr gf' (tP l0 l1 l2) tri'.h2 d2) aA)))) fun v H'' s qq=>post v H'' (sm.trans s) qq
abbrev pP (ds:List D) (d:D):Prop:=∃ x,ds = [x]∧eV x = true∧d = .non
end
end My
end
section
namespace My
open PySem L2 PyProof.Rows
section
variable {P:Program} {w:World} {K:PySem.W.Frag} {mg:Str→Option Value} {base:Heap} {k:Nat}
abbrev LPD:List D:=[.tup [.str "inc",.tup [.str "add",.tup [.str "hole",.int 0],.tup [.str "num",.int 1]],.tup [.int 12,.int 1]],
  .tup [.str "both",.tup [.str "add",.tup [.str "slot",.int 0],.tup [.str "slot",.int 1]],.tup [.int 3,.tup [.str "arg",.int 0],.int 3,.tup [.str "arg",.int 1],.int 4]],
  .tup [.str "twofold",.tup [.str "mul",.tup [.str "hole",.int 0],.tup [.str "num",.int 2]],.tup [.int 13,.int 4]],
  .tup [.str "fewer",.tup [.str "sub",.tup [.str "hole",.int 0],.tup [.str "gap",.int 0,.int 99]],.tup [.int 1,.tup [.str "low",.int 0],.int 5]],
  .tup [.str "addmul",.tup [.str "add",.tup [.str "mul",.tup [.str "hole",.int 0],.tup [.str "hole",.int 1]],.tup [.str "gap",.int 0,.int 99]],.tup [.int 6,.int 12,.tup [.str "low",.int 0]]],
  .tup [.str "turned",.tup [.str "less",.tup [.str "gap",.int 0,.int 99],.tup [.str "hole",.int 0]],.tup [.int 1,.tup [.str "low",.int 0],.int 14,.int 7]],
  .tup [.str "far",.tup [.str "add",.tup [.str "hole",.int 0],.tup [.str "gap",.int 0,.int 9999]],.tup [.int 2,.tup [.str "low",.int 0],.tup [.str "high",.int 0],.int 4]],
  .tup [.str "pair",.tup [.str "sub",.tup [.str "gap",.int 0,.int 99],.tup [.str "gap",.int 1,.int 99]],.tup [.int 1,.tup [.str "low",.int 0],.int 1,.tup [.str "low",.int 1],.int 5]]]
theorem ml (T:Txt P w K mg)  : FnOk P w K mg base CX0 (k + 1) T.Ep T.Eu [] (kC K fun ds es=>ds = []∧es = LPD):=by
  refine T.Fj.ok sc__law_pieces (fun vs H Q E h=>?_) (fun cdv A outer s H vs Q E hr h=>?_)
  · obtain ⟨ds,es,hd,⟨rfl,rfl⟩,_⟩:=h; exact hd.length.symm
  have nd:=sc__law_pieces.nd
  obtain ⟨ds,es,hd,⟨rfl,rfl⟩,post⟩:=h
  have ez:=hd.nilE
  subst ez
  refine' ⟨_,?ybody,?yread⟩
  case ybody =>
    refine' aq ?y278 ?y279
    case y278 =>
      refine' eR ?y35 ?y36 ?y37 ?y38
      case y35 =>
        refine' aT ?y34
        case y34 =>
          refine' aj ?y32 ?y33
          case y32=>exact (aT (aj aM (aj ak ag)))
          case y33 =>
            refine' aj ?y30 ?y31
            case y30=>exact (aT (aj aM (aj ak ag)))
            case y31 =>
              refine' aj ?y28 ?y29
              case y28=>exact (aT (aj aM (aj ak (aj ak ag))))
              case y29=>exact ag
      case y36=>exact (eQ rfl (bg (aW (i:=0) nd rfl (Or.inl rfl)) (bg (aW (i:=1) nd rfl (Or.inl rfl)) (bg (aW (i:=2) nd rfl (Or.inl rfl)) cG))))
      case y37=>rfl
      case y38=>kernel_rfl
    case y279 =>
      refine' aq ?y276 ?y277
      case y276 =>
        refine' bC (i:=3) ?y56 ?y57 ?y58 ?y59
        case y56=>exact nd
        case y57=>exact rfl
        case y58=>exact Or.inl rfl
        case y59 =>
          refine' bB ?y55
          case y55 =>
            refine' aj ?y53 ?y54
            case y53 =>
              refine' aT ?y52
              case y52 =>
                refine' aj ?y50 ?y51
                case y50=>exact aM
                case y51 =>
                  refine' aj ?y48 ?y49
                  case y48 =>
                    refine' aT ?y45
                    case y45 =>
                      refine' aj ?y43 ?y44
                      case y43=>exact aM
                      case y44 =>
                        refine' aj ?y41 ?y42
                        case y41=>exact (pv 0)
                        case y42 =>
                          refine' aj ?y39 ?y40
                          case y39=>exact (aT (aj aM (aj ak ag)))
                          case y40=>exact ag
                  case y49 =>
                    refine' aj ?y46 ?y47
                    case y46=>exact (aT (aj ak (aj ak ag)))
                    case y47=>exact ag
            case y54=>exact ag
      case y277 =>
        refine' aq ?y274 ?y275
        case y274 =>
          refine' bF ?y93
          case y93 =>
            refine' cV ?y87 ?y88 ?y89 ?y90 ?y91 ?y92
            case y87=>exact PySem.F.plainAttrs_list
            case y88=>exact PySem.F.slot_list_append
            case y89=>exact PySem.F.type_list_append
            case y90=>exact bR
            case y91=>exact (pv 3)
            case y92 =>
              refine' aj ?y85 ?y86
              case y85 =>
                refine' aT ?y84
                case y84 =>
                  refine' aj ?y82 ?y83
                  case y82=>exact aM
                  case y83 =>
                    refine' aj ?y80 ?y81
                    case y80 =>
                      refine' aT ?y66
                      case y66 =>
                        refine' aj ?y64 ?y65
                        case y64=>exact aM
                        case y65 =>
                          refine' aj ?y62 ?y63
                          case y62=>exact (aT (aj aM (aj ak ag)))
                          case y63 =>
                            refine' aj ?y60 ?y61
                            case y60=>exact (aT (aj aM (aj ak ag)))
                            case y61=>exact ag
                    case y81 =>
                      refine' aj ?y78 ?y79
                      case y78 =>
                        refine' aT ?y77
                        case y77 =>
                          refine' aj ?y75 ?y76
                          case y75=>exact ak
                          case y76 =>
                            refine' aj ?y73 ?y74
                            case y73=>exact (aT (aj aM (aj ak ag)))
                            case y74 =>
                              refine' aj ?y71 ?y72
                              case y71=>exact ak
                              case y72 =>
                                refine' aj ?y69 ?y70
                                case y69=>exact (aT (aj aM (aj ak ag)))
                                case y70 =>
                                  refine' aj ?y67 ?y68
                                  case y67=>exact ak
                                  case y68=>exact ag
                      case y79=>exact ag
              case y86=>exact ag
        case y275 =>
          refine' aq ?y272 ?y273
          case y272 =>
            refine' bF ?y116
            case y116 =>
              refine' cV ?y110 ?y111 ?y112 ?y113 ?y114 ?y115
              case y110=>exact PySem.F.plainAttrs_list
              case y111=>exact PySem.F.slot_list_append
              case y112=>exact PySem.F.type_list_append
              case y113=>exact bR
              case y114=>exact (pv 3)
              case y115 =>
                refine' aj ?y108 ?y109
                case y108 =>
                  refine' aT ?y107
                  case y107 =>
                    refine' aj ?y105 ?y106
                    case y105=>exact aM
                    case y106 =>
                      refine' aj ?y103 ?y104
                      case y103 =>
                        refine' aT ?y100
                        case y100 =>
                          refine' aj ?y98 ?y99
                          case y98=>exact aM
                          case y99 =>
                            refine' aj ?y96 ?y97
                            case y96=>exact (pv 0)
                            case y97 =>
                              refine' aj ?y94 ?y95
                              case y94=>exact (aT (aj aM (aj ak ag)))
                              case y95=>exact ag
                      case y104 =>
                        refine' aj ?y101 ?y102
                        case y101=>exact (aT (aj ak (aj ak ag)))
                        case y102=>exact ag
                case y109=>exact ag
          case y273 =>
            refine' aq ?y270 ?y271
            case y270 =>
              refine' bF ?y139
              case y139 =>
                refine' cV ?y133 ?y134 ?y135 ?y136 ?y137 ?y138
                case y133=>exact PySem.F.plainAttrs_list
                case y134=>exact PySem.F.slot_list_append
                case y135=>exact PySem.F.type_list_append
                case y136=>exact bR
                case y137=>exact (pv 3)
                case y138 =>
                  refine' aj ?y131 ?y132
                  case y131 =>
                    refine' aT ?y130
                    case y130 =>
                      refine' aj ?y128 ?y129
                      case y128=>exact aM
                      case y129 =>
                        refine' aj ?y126 ?y127
                        case y126=>exact (aT (aj aM (aj (pv 0) (aj (pv 2) ag))))
                        case y127 =>
                          refine' aj ?y124 ?y125
                          case y124 =>
                            refine' aT ?y123
                            case y123 =>
                              refine' aj ?y121 ?y122
                              case y121=>exact ak
                              case y122 =>
                                refine' aj ?y119 ?y120
                                case y119=>exact (aT (aj aM (aj ak ag)))
                                case y120 =>
                                  refine' aj ?y117 ?y118
                                  case y117=>exact ak
                                  case y118=>exact ag
                          case y125=>exact ag
                  case y132=>exact ag
            case y271 =>
              refine' aq ?y268 ?y269
              case y268 =>
                refine' bF ?y169
                case y169 =>
                  refine' cV ?y163 ?y164 ?y165 ?y166 ?y167 ?y168
                  case y163=>exact PySem.F.plainAttrs_list
                  case y164=>exact PySem.F.slot_list_append
                  case y165=>exact PySem.F.type_list_append
                  case y166=>exact bR
                  case y167=>exact (pv 3)
                  case y168 =>
                    refine' aj ?y161 ?y162
                    case y161 =>
                      refine' aT ?y160
                      case y160 =>
                        refine' aj ?y158 ?y159
                        case y158=>exact aM
                        case y159 =>
                          refine' aj ?y156 ?y157
                          case y156 =>
                            refine' aT ?y146
                            case y146 =>
                              refine' aj ?y144 ?y145
                              case y144=>exact aM
                              case y145 =>
                                refine' aj ?y142 ?y143
                                case y142=>exact (aT (aj aM (aj (pv 0) (aj (pv 1) ag))))
                                case y143 =>
                                  refine' aj ?y140 ?y141
                                  case y140=>exact (pv 2)
                                  case y141=>exact ag
                          case y157 =>
                            refine' aj ?y154 ?y155
                            case y154 =>
                              refine' aT ?y153
                              case y153 =>
                                refine' aj ?y151 ?y152
                                case y151=>exact ak
                                case y152 =>
                                  refine' aj ?y149 ?y150
                                  case y149=>exact ak
                                  case y150 =>
                                    refine' aj ?y147 ?y148
                                    case y147=>exact (aT (aj aM (aj ak ag)))
                                    case y148=>exact ag
                            case y155=>exact ag
                    case y162=>exact ag
              case y269 =>
                refine' aq ?y266 ?y267
                case y266 =>
                  refine' bF ?y194
                  case y194 =>
                    refine' cV ?y188 ?y189 ?y190 ?y191 ?y192 ?y193
                    case y188=>exact PySem.F.plainAttrs_list
                    case y189=>exact PySem.F.slot_list_append
                    case y190=>exact PySem.F.type_list_append
                    case y191=>exact bR
                    case y192=>exact (pv 3)
                    case y193 =>
                      refine' aj ?y186 ?y187
                      case y186 =>
                        refine' aT ?y185
                        case y185 =>
                          refine' aj ?y183 ?y184
                          case y183=>exact aM
                          case y184 =>
                            refine' aj ?y181 ?y182
                            case y181=>exact (aT (aj aM (aj (pv 2) (aj (pv 0) ag))))
                            case y182 =>
                              refine' aj ?y179 ?y180
                              case y179 =>
                                refine' aT ?y178
                                case y178 =>
                                  refine' aj ?y176 ?y177
                                  case y176=>exact ak
                                  case y177 =>
                                    refine' aj ?y174 ?y175
                                    case y174=>exact (aT (aj aM (aj ak ag)))
                                    case y175 =>
                                      refine' aj ?y172 ?y173
                                      case y172=>exact ak
                                      case y173 =>
                                        refine' aj ?y170 ?y171
                                        case y170=>exact ak
                                        case y171=>exact ag
                              case y180=>exact ag
                      case y187=>exact ag
                case y267 =>
                  refine' aq ?y264 ?y265
                  case y264 =>
                    refine' bF ?y226
                    case y226 =>
                      refine' cV ?y220 ?y221 ?y222 ?y223 ?y224 ?y225
                      case y220=>exact PySem.F.plainAttrs_list
                      case y221=>exact PySem.F.slot_list_append
                      case y222=>exact PySem.F.type_list_append
                      case y223=>exact bR
                      case y224=>exact (pv 3)
                      case y225 =>
                        refine' aj ?y218 ?y219
                        case y218 =>
                          refine' aT ?y217
                          case y217 =>
                            refine' aj ?y215 ?y216
                            case y215=>exact aM
                            case y216 =>
                              refine' aj ?y213 ?y214
                              case y213 =>
                                refine' aT ?y201
                                case y201 =>
                                  refine' aj ?y199 ?y200
                                  case y199=>exact aM
                                  case y200 =>
                                    refine' aj ?y197 ?y198
                                    case y197=>exact (pv 0)
                                    case y198 =>
                                      refine' aj ?y195 ?y196
                                      case y195=>exact (aT (aj aM (aj ak (aj ak ag))))
                                      case y196=>exact ag
                              case y214 =>
                                refine' aj ?y211 ?y212
                                case y211 =>
                                  refine' aT ?y210
                                  case y210 =>
                                    refine' aj ?y208 ?y209
                                    case y208=>exact ak
                                    case y209 =>
                                      refine' aj ?y206 ?y207
                                      case y206=>exact (aT (aj aM (aj ak ag)))
                                      case y207 =>
                                        refine' aj ?y204 ?y205
                                        case y204=>exact (aT (aj aM (aj ak ag)))
                                        case y205 =>
                                          refine' aj ?y202 ?y203
                                          case y202=>exact ak
                                          case y203=>exact ag
                                case y212=>exact ag
                        case y219=>exact ag
                  case y265 =>
                    refine' aq ?y262 ?y263
                    case y262 =>
                      refine' bF ?y260
                      case y260 =>
                        refine' cV ?y254 ?y255 ?y256 ?y257 ?y258 ?y259
                        case y254=>exact PySem.F.plainAttrs_list
                        case y255=>exact PySem.F.slot_list_append
                        case y256=>exact PySem.F.type_list_append
                        case y257=>exact bR
                        case y258=>exact (pv 3)
                        case y259 =>
                          refine' aj ?y252 ?y253
                          case y252 =>
                            refine' aT ?y251
                            case y251 =>
                              refine' aj ?y249 ?y250
                              case y249=>exact aM
                              case y250 =>
                                refine' aj ?y247 ?y248
                                case y247 =>
                                  refine' aT ?y233
                                  case y233 =>
                                    refine' aj ?y231 ?y232
                                    case y231=>exact aM
                                    case y232 =>
                                      refine' aj ?y229 ?y230
                                      case y229=>exact (aT (aj aM (aj ak (aj ak ag))))
                                      case y230 =>
                                        refine' aj ?y227 ?y228
                                        case y227=>exact (aT (aj aM (aj ak (aj ak ag))))
                                        case y228=>exact ag
                                case y248 =>
                                  refine' aj ?y245 ?y246
                                  case y245 =>
                                    refine' aT ?y244
                                    case y244 =>
                                      refine' aj ?y242 ?y243
                                      case y242=>exact ak
                                      case y243 =>
                                        refine' aj ?y240 ?y241
                                        case y240=>exact (aT (aj aM (aj ak ag)))
                                        case y241 =>
                                          refine' aj ?y238 ?y239
                                          case y238=>exact ak
                                          case y239 =>
                                            refine' aj ?y236 ?y237
                                            case y236=>exact (aT (aj aM (aj ak ag)))
                                            case y237 =>
                                              refine' aj ?y234 ?y235
                                              case y234=>exact ak
                                              case y235=>exact ag
                                  case y246=>exact ag
                          case y253=>exact ag
                    case y263 =>
                      refine' ay ?y261
                      case y261=>exact (aL (pv 3))
  case yread =>
    refine pC (K:=K) (d:=.tup [.str "hole",.int 0]) (e:=.tup [.str "hole",.int 1]) (f:=.tup [.str "gap",.int 0,.int 99]) (aY (af (aY (af aI (af ao aA))) (af (aY (af aI (af ao aA))) (af (aY (af aI (af ao (af ao aA)))) aA)))) fun vh vo vg H1 s1 dh do_ dg=>?_
    refine h9 (K:=K) (fz (af (aY (af aI (af (aY (af aI (af (ae dh) (af (aY (af aI (af ao aA))) aA)))) (af (aY (af ao (af ao aA))) aA)))) aA)) fun lb x0 G0 hb s2 h0 e0=>?_
    have hlb:H lb = none:=s1.free hb
    have dh:=s2.dat dh
    have do_:=s2.dat do_
    have dg:=s2.dat dg
    have bb0:But lb H G0:=(s1.trans s2).but
    have l0:=e0.length
    simp only [List.length_cons,List.length_nil,List.length_append] at l0
    refine h8 (K:=K) (aY (af aI (af (aY (af aI (af (aY (af aI (af ao aA))) (af (aY (af aI (af ao aA))) aA)))) (af (aY (af ao (af (aY (af aI (af ao aA))) (af ao (af (aY (af aI (af ao aA))) (af ao aA)))))) aA)))) h0 (by first | omega | (simp only [List.length_append,List.length_cons,List.length_nil]; omega)) fun y1 G1 b1 h1 e1'=>?_
    have g1:cQ K _ G1:=b1.grow h0 h1
    have dh:=Dat.mono g1 _ dh
    have do_:=Dat.mono g1 _ do_
    have dg:=Dat.mono g1 _ dg
    have e1:=Dats.append (Dats.mono g1 _ e0) (Dats.cons e1' Dats.nil)
    have l1:=e1.length
    have bb1:=bb0.trans b1
    simp only [List.length_cons,List.length_nil,List.length_append] at l1
    refine h8 (K:=K) (aY (af aI (af (aY (af aI (af (ae dh) (af (aY (af aI (af ao aA))) aA)))) (af (aY (af ao (af ao aA))) aA)))) h1 (by first | omega | (simp only [List.length_append,List.length_cons,List.length_nil]; omega)) fun y2 G2 b2 h2 e2'=>?_
    have g2:cQ K _ G2:=b2.grow h1 h2
    have dh:=Dat.mono g2 _ dh
    have do_:=Dat.mono g2 _ do_
    have dg:=Dat.mono g2 _ dg
    have e2:=Dats.append (Dats.mono g2 _ e1) (Dats.cons e2' Dats.nil)
    have l2:=e2.length
    have bb2:=bb1.trans b2
    simp only [List.length_cons,List.length_nil,List.length_append] at l2
    refine h8 (K:=K) (aY (af aI (af (aY (af aI (af (ae dh) (af (ae dg) aA)))) (af (aY (af ao (af (aY (af aI (af ao aA))) (af ao aA)))) aA)))) h2 (by first | omega | (simp only [List.length_append,List.length_cons,List.length_nil]; omega)) fun y3 G3 b3 h3 e3'=>?_
    have g3:cQ K _ G3:=b3.grow h2 h3
    have dh:=Dat.mono g3 _ dh
    have do_:=Dat.mono g3 _ do_
    have dg:=Dat.mono g3 _ dg
    have e3:=Dats.append (Dats.mono g3 _ e2) (Dats.cons e3' Dats.nil)
    have l3:=e3.length
    have bb3:=bb2.trans b3
    simp only [List.length_cons,List.length_nil,List.length_append] at l3
    refine h8 (K:=K) (aY (af aI (af (aY (af aI (af (aY (af aI (af (ae dh) (af (ae do_) aA)))) (af (ae dg) aA)))) (af (aY (af ao (af ao (af (aY (af aI (af ao aA))) aA)))) aA)))) h3 (by first | omega | (simp only [List.length_append,List.length_cons,List.length_nil]; omega)) fun y4 G4 b4 h4 e4'=>?_
    have g4:cQ K _ G4:=b4.grow h3 h4
    have dh:=Dat.mono g4 _ dh
    have do_:=Dat.mono g4 _ do_
    have dg:=Dat.mono g4 _ dg
    have e4:=Dats.append (Dats.mono g4 _ e3) (Dats.cons e4' Dats.nil)
    have l4:=e4.length
    have bb4:=bb3.trans b4
    simp only [List.length_cons,List.length_nil,List.length_append] at l4
    refine h8 (K:=K) (aY (af aI (af (aY (af aI (af (ae dg) (af (ae dh) aA)))) (af (aY (af ao (af (aY (af aI (af ao aA))) (af ao (af ao aA))))) aA)))) h4 (by first | omega | (simp only [List.length_append,List.length_cons,List.length_nil]; omega)) fun y5 G5 b5 h5 e5'=>?_
    have g5:cQ K _ G5:=b5.grow h4 h5
    have dh:=Dat.mono g5 _ dh
    have do_:=Dat.mono g5 _ do_
    have dg:=Dat.mono g5 _ dg
    have e5:=Dats.append (Dats.mono g5 _ e4) (Dats.cons e5' Dats.nil)
    have l5:=e5.length
    have bb5:=bb4.trans b5
    simp only [List.length_cons,List.length_nil,List.length_append] at l5
    refine h8 (K:=K) (aY (af aI (af (aY (af aI (af (ae dh) (af (aY (af aI (af ao (af ao aA)))) aA)))) (af (aY (af ao (af (aY (af aI (af ao aA))) (af (aY (af aI (af ao aA))) (af ao aA))))) aA)))) h5 (by first | omega | (simp only [List.length_append,List.length_cons,List.length_nil]; omega)) fun y6 G6 b6 h6 e6'=>?_
    have g6:cQ K _ G6:=b6.grow h5 h6
    have dh:=Dat.mono g6 _ dh
    have do_:=Dat.mono g6 _ do_
    have dg:=Dat.mono g6 _ dg
    have e6:=Dats.append (Dats.mono g6 _ e5) (Dats.cons e6' Dats.nil)
    have l6:=e6.length
    have bb6:=bb5.trans b6
    simp only [List.length_cons,List.length_nil,List.length_append] at l6
    refine h8 (K:=K) (aY (af aI (af (aY (af aI (af (aY (af aI (af ao (af ao aA)))) (af (aY (af aI (af ao (af ao aA)))) aA)))) (af (aY (af ao (af (aY (af aI (af ao aA))) (af ao (af (aY (af aI (af ao aA))) (af ao aA)))))) aA)))) h6 (by first | omega | (simp only [List.length_append,List.length_cons,List.length_nil]; omega)) fun y7 G7 b7 h7 e7'=>?_
    have g7:cQ K _ G7:=b7.grow h6 h7
    have dh:=Dat.mono g7 _ dh
    have do_:=Dat.mono g7 _ do_
    have dg:=Dat.mono g7 _ dg
    have e7:=Dats.append (Dats.mono g7 _ e6) (Dats.cons e7' Dats.nil)
    have l7:=e7.length
    have bb7:=bb6.trans b7
    have sm:Same H G7:=fun b o hbo=>bb7 b o (az hbo hlb) hbo
    exact ⟨_,rfl,post lb _ G7 sm h7 hlb e7⟩
end
end My
end
section
namespace My
open PySem L2 PyProof.Rows
section
variable {P:Program} {w:World} {K:PySem.W.Frag} {mg:Str→Option Value} {base:Heap} {k:Nat}
structure Pc where
  nm:Str
  pt:Pa
  cs:List D
def pcD (p:Pc):D:=.tup [.str p.nm,toP p.pt,.tup p.cs]
def kj:Pa→Bool
  | .hole _=>false
  | _=>true
structure xh (p:Pc):Prop where
  nm:p.nm ≠ "pick"
  ok:fS p.pt
  dp:ck p.pt ≤ 3
  cs:p.cs.length ≤ 12
  nh:kj p.pt = true
structure Wy where
  nm:Str
  cs:List D
  ts:List Tr
def wyD (w:Wy):D:=.tup [.str w.nm,.tup w.cs,.tup (w.ts.map toD)]
def gD (t:Tr) (p:Pc):Option Wy:=(bQ p.pt t).map fun f=>⟨p.nm,p.cs,f.1⟩
def i9:Tr→Bool
  | .pick _ _ _=>true
  | _=>false
def gy (ps:List Pc) (t:Tr):List Wy:=if i9 t = true then [⟨"pick",[],d8 t⟩] else ps.filterMap (gD t)
def ff (near far many:Int):List Int:=if many ≤ 9 then [near,many] else [far,many % 100,many / 100]
def jI (many:Int):Int:=if many ≤ 9 then 2 else 3
theorem lW (near far many:Int):((ff near far many).length:Int) = jI many:=by
  unfold ff jI
  split <;> rfl
theorem wF (a:Int):2 ≤ jI a∧jI a ≤ 3:=by unfold jI; split <;> omega
theorem oA:∀ (p:Pa) (t:Tr) (f:Fnd),bQ p t = some f→∀ x ∈ f.1,x ∈ bT t
  | .hole i,t,f,h,x,hx=>by
    cases h
    simp at hx
    rw [hx,jf]
    exact List.mem_cons_self
  | .gap i m,t,f,h,x,hx=>by
    cases t with
    | num n =>
      have h':(if n ≤ m then some ([],[n],[]) else none:Option Fnd) = some f:=h
      by_cases z:n ≤ m
      · rw [if_pos z] at h'; cases h'; simp at hx
      · rw [if_neg z] at h'; cases h'
    | _=>cases h
  | .slot i,t,f,h,x,hx=>by
    cases t with
    | arg n=>cases h; simp at hx
    | _=>cases h
  | .num m,t,f,h,x,hx=>by
    cases t with
    | num n =>
      have h':(if n = m then some ([],[],[]) else none:Option Fnd) = some f:=h
      by_cases z:n = m
      · rw [if_pos z] at h'; cases h'; simp at hx
      · rw [if_neg z] at h'; cases h'
    | _=>cases h
  | .two o a b,t,f,h,x,hx=>by
    cases t with
    | two o' u v =>
      obtain ⟨_,f1,f2,e1,e2,e3⟩:=cZ h
      subst e3
      have hx':x ∈ f1.1 ++ f2.1:=hx
      simp only [bT,List.mem_cons,List.mem_append]
      rcases List.mem_append.mp hx' with hx | hx
      · exact .inr (.inl (oA a u f1 e1 x hx))
      · exact .inr (.inr (oA b v f2 e2 x hx))
    | _=>cases h
theorem jB {p:Pa} {t:Tr} {f:Fnd} (hp:kj p = true) (h:bQ p t = some f):∀ x ∈ f.1,x ∈ (d8 t).flatMap bT:=by
  intro x hx
  cases p with
  | hole i=>cases hp
  | gap i m =>
    cases t with
    | num n =>
      have h':(if n ≤ m then some ([],[n],[]) else none:Option Fnd) = some f:=h
      by_cases z:n ≤ m
      · rw [if_pos z] at h'; cases h'; simp at hx
      · rw [if_neg z] at h'; cases h'
    | _=>cases h
  | slot i =>
    cases t with
    | arg n=>cases h; simp at hx
    | _=>cases h
  | num m =>
    cases t with
    | num n =>
      have h':(if n = m then some ([],[],[]) else none:Option Fnd) = some f:=h
      by_cases z:n = m
      · rw [if_pos z] at h'; cases h'; simp at hx
      · rw [if_neg z] at h'; cases h'
    | _=>cases h
  | two o a b =>
    cases t with
    | two o' u v =>
      obtain ⟨_,f1,f2,e1,e2,e3⟩:=cZ h
      subst e3
      have hx':x ∈ f1.1 ++ f2.1:=hx
      simp only [d8,List.flatMap_cons,List.flatMap_nil,List.append_nil,List.mem_append]
      rcases List.mem_append.mp hx' with hx | hx
      · exact .inl (oA a u f1 e1 x hx)
      · exact .inr (oA b v f2 e2 x hx)
    | _=>cases h
theorem nO (t:Tr):t ∈ bT t:=by rw [jf]; exact List.mem_cons_self
theorem zL {ps:List Pc} (hp:∀ p ∈ ps,kj p.pt = true) {t:Tr} {w:Wy} (hw:w ∈ gy ps t):∀ x ∈ w.ts,x ∈ (d8 t).flatMap bT:=by
  unfold gy at hw
  split at hw
  · rw [List.mem_singleton.mp hw]
    intro x hx
    exact List.mem_flatMap.mpr ⟨x,hx,nO x⟩
  · obtain ⟨p,h1,h2⟩:=List.mem_filterMap.mp hw
    unfold gD at h2
    cases e:bQ p.pt t with
    | none=>rw [e] at h2; cases h2
    | some f =>
      rw [e] at h2
      cases h2
      exact jB (hp p h1) e
theorem eO:∀ (t x:Tr),x ∈ bT t→aX x ≤ aX t∧bf x ≤ bf t
  | .num n,x,h=>by
    have e:x = .num n:=by simpa [bT] using h
    subst e; exact ⟨Nat.le_refl _,Nat.le_refl _⟩
  | .arg n,x,h=>by
    have e:x = .arg n:=by simpa [bT] using h
    subst e; exact ⟨Nat.le_refl _,Nat.le_refl _⟩
  | .two o a b,x,h=>by
    simp only [bT,List.mem_cons,List.mem_append] at h
    rcases h with rfl | h | h
    · exact ⟨Nat.le_refl _,Nat.le_refl _⟩
    · have:=eO a x h; simp only [aX,bf]; omega
    · have:=eO b x h; simp only [aX,bf]; omega
  | .pick a b c,x,h=>by
    simp only [bT,List.mem_cons,List.mem_append] at h
    rcases h with rfl | (h | h) | h
    · exact ⟨Nat.le_refl _,Nat.le_refl _⟩
    · have:=eO a x h; simp only [aX,bf]; omega
    · have:=eO b x h; simp only [aX,bf]; omega
    · have:=eO c x h; simp only [aX,bf]; omega
theorem eY:∀ (t x:Tr),okT t→x ∈ bT t→okT x
  | .num n,x,k,h=>by
    have e:x = .num n:=by simpa [bT] using h
    subst e; exact k
  | .arg n,x,k,h=>by
    have e:x = .arg n:=by simpa [bT] using h
    subst e; exact k
  | .two o a b,x,k,h=>by
    simp only [bT,List.mem_cons,List.mem_append] at h
    rcases h with rfl | h | h
    · exact k
    · exact eY a x k.2.1 h
    · exact eY b x k.2.2 h
  | .pick a b c,x,k,h=>by
    simp only [bT,List.mem_cons,List.mem_append] at h
    rcases h with rfl | (h | h) | h
    · exact k
    · exact eY a x k.1 h
    · exact eY b x k.2.1 h
    · exact eY c x k.2.2 h
theorem nG {t x:Tr} (h:x ∈ d8 t):aX x < aX t∧bf x < bf t:=by
  cases t with
  | num n=>simp [d8] at h
  | arg n=>simp [d8] at h
  | two o a b =>
    simp only [d8,List.mem_cons,List.not_mem_nil,or_false] at h
    simp only [aX,bf]
    rcases h with rfl | rfl <;> omega
  | pick a b c =>
    simp only [d8,List.mem_cons,List.not_mem_nil,or_false] at h
    simp only [aX,bf]
    rcases h with rfl | rfl | rfl <;> omega
theorem ip {t x:Tr} (h:x ∈ (d8 t).flatMap bT):aX x < aX t∧bf x < bf t:=by
  obtain ⟨k,h1,h2⟩:=List.mem_flatMap.mp h
  have:=nG h1
  have:=eO k x h2
  omega
theorem gO {t x:Tr} (h:x ∈ (d8 t).flatMap bT):x ∈ bT t:=by rw [jf]; exact List.mem_cons_of_mem _ h
theorem ym {ps:List Pc} {t:Tr} {p:Pc} {f:Fnd} (hp:p ∈ ps) (ht:i9 t = false) (h:bQ p.pt t = some f):(⟨p.nm,p.cs,f.1⟩:Wy) ∈ gy ps t:=by
  unfold gy
  rw [if_neg (by rw [ht]; exact Bool.false_ne_true)]
  exact List.mem_filterMap.mpr ⟨p,hp,by unfold gD; rw [h]; rfl⟩
theorem yn {ps:List Pc} {a b c:Tr}:gy ps (.pick a b c) = [⟨"pick",[],[a,b,c]⟩]:=rfl
def fu:Pa→Nat
  | .hole _=>1
  | .two _ a b=>fu a + fu b
  | _=>0
theorem j7:∀ (p:Pa) (t:Tr) (f:Fnd),bQ p t = some f→f.1.length = fu p
  | .hole i,t,f,h=>by cases h; rfl
  | .gap i m,t,f,h=>by
    cases t with
    | num n =>
      have h':(if n ≤ m then some ([],[n],[]) else none:Option Fnd) = some f:=h
      by_cases z:n ≤ m
      · rw [if_pos z] at h'; cases h'; rfl
      · rw [if_neg z] at h'; cases h'
    | _=>cases h
  | .slot i,t,f,h=>by
    cases t with
    | arg n=>cases h; rfl
    | _=>cases h
  | .num m,t,f,h=>by
    cases t with
    | num n =>
      have h':(if n = m then some ([],[],[]) else none:Option Fnd) = some f:=h
      by_cases z:n = m
      · rw [if_pos z] at h'; cases h'; rfl
      · rw [if_neg z] at h'; cases h'
    | _=>cases h
  | .two o a b,t,f,h=>by
    cases t with
    | two o' u v =>
      obtain ⟨_,f1,f2,e1,e2,e3⟩:=cZ h
      subst e3
      show (f1.1 ++ f2.1).length = fu a + fu b
      rw [List.length_append,j7 a u f1 e1,j7 b v f2 e2]
    | _=>cases h
abbrev Cg:Pc:=⟨"add",.two "add" (.hole 0) (.hole 1),[.int 4]⟩
abbrev BP:List Pc:=[⟨"one",.gap 0 99,[.int 1,.tup [.str "low",.int 0]]⟩,⟨"two",.gap 0 9999,[.int 2,.tup [.str "low",.int 0],.tup [.str "high",.int 0]]⟩,⟨"slot",.slot 0,[.int 3,.tup [.str "arg",.int 0]]⟩,
  Cg,⟨"sub",.two "sub" (.hole 0) (.hole 1),[.int 5]⟩,⟨"mul",.two "mul" (.hole 0) (.hole 1),[.int 6]⟩,⟨"less",.two "less" (.hole 0) (.hole 1),[.int 7]⟩,⟨"more",.two "add" (.hole 0) (.gap 0 99),[.int 12,.tup [.str "low",.int 0]]⟩]
theorem AK (o:Str) (x y:Tr):bQ (.two o (.hole 0) (.hole 1)) (.two o x y) = some ([x,y],[],[]):=by
  show (if o = o then _ else _) = _
  rw [if_pos rfl]
  rfl
theorem xm {o:Str} (h:okB o):∃ c:D,(⟨o,.two o (.hole 0) (.hole 1),[c]⟩:Pc) ∈ BP:=by
  rcases h with rfl | rfl | rfl | rfl
  · exact ⟨.int 4,by simp [BP]⟩
  · exact ⟨.int 5,by simp [BP]⟩
  · exact ⟨.int 6,by simp [BP]⟩
  · exact ⟨.int 7,by simp [BP]⟩
end
end My
end
section
namespace My
open PySem L2 PyProof.Rows
section
variable {P:Program} {w:World} {K:PySem.W.Frag} {mg:Str→Option Value} {base:Heap} {k:Nat}
def sR (ds es:List D):Prop:=∃ m n f,ds = [.int m,.tup [.int n,.int f]]∧es = (ff n f m).map D.int
theorem mC {tA:TA} {σ:L2.St} {H:Hp} {Q:VK} (h:tA σ H fun xs H1=>xs.length ≤ sizeLine∧∀ p,H1 p = none→Q (.ref p) (upd H1 p (.tup xs))):Bt tA σ H Q:=h
theorem pB {En:Ends} {σ:L2.St} {H:Hp} (h:En.nx σ H):ue En σ H:=h
theorem jO {te:TE} {En:Ends} {σ:L2.St} {G:Hp} {j:Nat} {l:Addr} {xs:List V} {d:D} (h:RE K te σ G d) (hl:G l = some (.lst xs)) (hx:xs.length ≤ 900)
    (q:∀ y G',But l G G'→G' l = some (.lst (xs ++ [y]))→Dat K G' d y→En.nx σ G') (hv:σ[j]? = some (some (.ref l)):=by rfl):nS (tBM K "list" o7 (dJ j) (bD te dt)) En σ G:=by
  refine ⟨_,hv,.inl ⟨rfl,_,SqL.of hl⟩,h.use fun y H1 s1 q1=>?_⟩
  have hl1:=s1 _ _ hl
  refine ⟨l,xs,y,rfl,rfl,hl1,bJ (by omega),?_⟩
  have b:But l H1 (upd H1 l (.lst (xs ++ [y]))):=But.upd (Same.refl _).but
  exact q y _ (s1.but.trans b) au (Dat.mono (b.grow hl1 au) _ q1)
theorem oU (T:Txt P w K mg)  : FnOk P w K mg base CX0 (k + 1) T.Fs T.Fx ["many","kinds"] (kC K sR):=by
  refine T.FC.ok sc_jump_over (fun vs H Q E h=>?_) (fun cdv A outer s H vs Q E hr h=>?_)
  · obtain ⟨ds,d,hd,⟨m,n,f,rfl,_⟩,_⟩:=h; exact hd.length.symm
  have nd:=sc_jump_over.nd
  obtain ⟨ds,es,hd,⟨m,n,f,rfl,rfl⟩,post⟩:=h
  obtain ⟨v0,v1,rfl,h0,h1⟩:=fA hd
  refine ⟨_,(aq (eR (pv 1) (eQ rfl (bg (aW (i:=2) nd rfl (Or.inl rfl)) (bg (aW (i:=3) nd rfl (Or.inl rfl)) cG))))
  (aq (bu (aP ir (pv 0) (bp (v:=.int 9) rfl T.EM ⟨_,rfl⟩) (aU _)) (ay (aL (bB (aj (pv 2) (aj (pv 0) ag))))) aS)
  (ay (aL (bB (aj (pv 3) (aj (bz ef (pv 0) ak) (aj (bz hV (pv 0) ak) ag)))))))),?_⟩
  refine lA (K:=K) (ae h1) fun v w H1 s1 q1 q2=>?_
  have h0:=s1.dat h0
  refine aN (K:=K) (b:=decide (m ≤ 9)) (aC (d4 (p:=fun i j=>decide (i ≤ j)) (ae h0) ao)) (fun c H2 s2=>?_) (fun c H2 s2=>?_)
  · have e:ff n f m = [n,m]:=by unfold ff; rw [if_pos (of_decide_eq_true c)]
    rw [e] at post
    exact dS (RC.use (K:=K) (fz (af (ae (s2.dat q1)) (af (ae (s2.dat h0)) aA))) fun l ys H' hl s hy hd=>post l ys H' (s1.trans (s2.trans s)) hy ((s1.trans s2).free hl) hd)
  · have e:ff n f m = [f,m % 100,m / 100]:=by unfold ff; rw [if_neg (of_decide_eq_false c)]
    rw [e] at post
    exact dS (RC.use (K:=K) (fz (af (ae (s2.dat q2)) (af (pf (ae (s2.dat h0)) ao (by decide)) (af (kZ (ae (s2.dat h0)) ao ⟨by decide,by decide⟩) aA)))) fun l ys H' hl s hy hd=>post l ys H' (s1.trans (s2.trans s)) hy ((s1.trans s2).free hl) hd)
def ub (K:PySem.W.Frag):Sp:=fun vs H Q _=>∃ y z:Int,vs = [.int y,.int z]∧∀ (p a b:Addr) (us ws:List V) (H':Hp),Same H H'→SqT K H' p [.ref a,.ref b]→H' a = some (.lst us)→H' b = some (.lst ws)→H a = none→H b = none→a ≠ b →
  Dats K H' ((ff 10 11 (y + jI z)).map D.int) us→Dats K H' ((ff 8 9 z).map D.int) ws→Q (.ref p) H'
theorem km (T:Txt P w K mg) (Ih:FnOk P w K mg base CX0 k T.Fs T.Fx ["many","kinds"] (kC K sR)):FnOk P w K mg base CX0 (k + 1) T.DV T.DX ["second","third"] (ub K):=by
  refine T.EA.ok sc_jumps_of_pick (fun vs H Q E h=>?_) (fun cdv A outer s H vs Q E hr h=>?_)
  · obtain ⟨y,z,rfl,_⟩:=h; rfl
  have nd:=sc_jumps_of_pick.nd
  obtain ⟨y,z,rfl,post⟩:=h
  refine ⟨_,(aq (bC (i:=2) nd rfl (Or.inl rfl) (aF Ih hr rfl T.Hj T.FC.kp (kH T) .nil aZ (aj (pv 1) (aj (bp (v:=.ref T.HJ) rfl T.Gz rfl) ag))))
  (aq (bC (i:=3) nd rfl (Or.inl rfl) (aF Ih hr rfl T.Hj T.FC.kp (kH T) .nil aZ (aj (bz fO (pv 0) (aH aR rfl T.C1 bI (aj (pv 2) ag))) (aj (bp (v:=.ref T.Io) rfl T.Hs rfl) ag))))
  (ay (aL (aT (aj (pv 3) (aj (pv 2) ag))))))),?_⟩
  refine h9 (K:=K) (iN (R:=sR) (af (ae (k:=1) (Dat.intI z)) (af (mD T.Jq) aA)) ⟨z,8,9,rfl,rfl⟩) fun b ws H1 hb s1 hbs dws=>?_
  have el:(ws.length:Int) = jI z:=by rw [← dws.length,List.length_map,lW]
  have b1:=tY (K:=K) (σ:=(cX ["second","third","behind","ahead"] [.int y,.int z]).set 2 (some (.ref b))) (k:=2) hbs
  rw [el] at b1
  refine h9 (K:=K) (iN (R:=sR) (af (hX (ae (k:=0) (Dat.intI y)) b1) (af (mD T.Jz) aA)) ⟨_,10,11,rfl,rfl⟩) fun a us H2 ha s2 has dus=>?_
  refine dS (mC ⟨_,rfl,_,rfl,bW (by simp),fun p hp=>?_⟩)
  have s3:Same H2 (upd H2 p (.tup [.ref a,.ref b])):=aD hp _
  have nab:a ≠ b:=Ne.symm (az hbs ha)
  exact post p a b us ws _ (s1.trans (s2.trans s3)) (SqT.of au) (s3 _ _ has) (s3 _ _ (s2 _ _ hbs)) (s1.free ha) hb nab (s3.dats dus) ((s2.trans s3).dats dws)
theorem nM {o:Str} (h:o = "num"∨o = "arg"∨okB o):decide (o = ("pick":Str)) = false∧o ≠ "call":=by
  rcases h with rfl | rfl | rfl | rfl | rfl | rfl <;> exact ⟨by decide +kernel,by decide +kernel⟩
theorem tH (t:Tr) (ht:okT t):∃ kd r,toD t = .tup (.str kd :: r)∧decide (kd = "pick") = i9 t∧kd ≠ "call"∧(i9 t = true→r = (d8 t).map toD):=by
  cases t with
  | num n=>exact ⟨_,_,rfl,(nM (.inl rfl)).1,(nM (.inl rfl)).2,fun z=>nomatch z⟩
  | arg n=>exact ⟨_,_,rfl,(nM (.inr (.inl rfl))).1,(nM (.inr (.inl rfl))).2,fun z=>nomatch z⟩
  | two o a b=>exact ⟨_,_,rfl,(nM (.inr (.inr ht.1))).1,(nM (.inr (.inr ht.1))).2,fun z=>nomatch z⟩
  | pick a b c=>exact ⟨_,_,rfl,decide_eq_true rfl,by decide +kernel,fun _=>rfl⟩
structure iG (ps:List Pc):Prop where
  ok:∀ p ∈ ps,xh p
  few:ps.length ≤ 100
def vH (as:List Ar) (es:List D):Prop:=∃ ps t,as = [.d (toD t),.l (ps.map pcD)]∧iG ps∧okT t∧bf t ≤ 8∧es = (gy ps t).map wyD
theorem wm (f:Fnd):fdD (some f) = .tup [.tup (f.1.map toD),.tup (f.2.1.map D.int),.tup (f.2.2.map D.int)]:=rfl
theorem sk (T:Txt P w K mg) (HD:FnOk P w K mg base CX0 k T.E6 T.E9 ["piece","tree"] (spD K lC)):FnOk P w K mg base CX0 (k + 1) T.Gr T.Gx ["tree","some"] (jk K vH):=by
  refine T.Hr.ok sc_ways_of (fun vs H Q E h=>?_) (fun cdv A outer s H vs Q E hr h=>?_)
  · obtain ⟨as,d,hd,⟨ps,t,rfl,_⟩,_⟩:=h; exact hd.length.symm
  have nd:=sc_ways_of.nd
  obtain ⟨as,es,hd,⟨ps,t,rfl,okS,okt,dpt,rfl⟩,post⟩:=h
  obtain ⟨v0,v1,rfl,h0,h1⟩:=Ay hd
  have h0:Dat K H (toD t) v0:=h0
  have h1:LD K H (ps.map pcD) v1:=h1
  refine ⟨_,(aq (bu (aP bV (aG aE (pv 0) ak (fun _ _=>rfl)) aM (aU _)) (ay (aL (bB (aj (aT (aj aM (aj (aT ag) (aj (eA ji (pv 0) (eE ak) fZ) ag)))) ag)))) aS)
  (aq (bC (i:=2) nd rfl (Or.inl rfl) (bB ag))
  (aq (jh PassesOwn.never rfl (eB (pv 1)) (aW (i:=3) nd rfl (Or.inl rfl)) (aq (bC (i:=4) nd rfl (Or.inl rfl) (aF HD hr rfl T.HG T.F4.kp (lF T) .nil aZ (aj (pv 3) (aj (pv 0) ag))))
  (ay (bu (aP tS (pv 4) fw (aU _)) (ay (bF (cV PySem.F.plainAttrs_list PySem.F.slot_list_append PySem.F.type_list_append bR (pv 2) (aj (aT (aj (aG aE (pv 3) ak (fun _ _=>rfl)) (aj (aG aE (pv 3) ak (fun _ _=>rfl)) (aj (aG aE (pv 4) ak (fun _ _=>rfl)) ag)))) ag)))) aS))))
  (ay (aL (pv 2)))))),?_⟩
  obtain ⟨kd,r,ek,hpk,_,hkids⟩:=tH t okt
  have h0':Dat K H (.tup (.str kd :: r)) v0:=by rw [← ek]; exact h0
  refine aN (K:=K) (b:=i9 t) (RT.as (aC (bj (aK (k:=0) (ae h0') ao rfl) aI)) hpk) (fun c H1 s1=>?_) (fun c H1 s1=>?_)
  · have e:(gy ps t).map wyD = [.tup [.str "pick",.tup [],.tup r]]:=by
      unfold gy
      rw [if_pos c,hkids c]
      rfl
    rw [e] at post
    exact dS (RC.use (K:=K) (fz (af (aY (af aI (af (aY aA) (af (gI (ae (s1.dat h0'))) aA)))) aA)) fun l ys H' hl s hy hd=>post l ys H' (s1.trans s) hy (s1.free hl) hd)
  have ew:gy ps t = ps.filterMap (gD t):=by unfold gy; rw [if_neg (by rw [c]; exact Bool.false_ne_true)]
  rw [ew] at post
  refine cJ ⟨bW (by decide),fun wl hwl=>?_⟩
  have s2:Same H1 (upd H1 wl (.lst [])):=aD hwl _
  have s12:=s1.trans s2
  obtain ⟨a,vs,rfl,ha,hda⟩:=h1
  have la:=hda.length
  rw [List.length_map] at la
  have hps:=okS.few
  have hwn:H wl = none:=s1.free hwl
  refine cO ⟨_,rfl,a,rfl,⟨vs,(s12.aLst ha).sqL⟩,jD (xs:=vs) (fun i σ G=>∃ (z3 z4:Option V) (ys:List V),σ = [some v0,some (.ref a),some (.ref wl),z3,z4]∧Same H G∧G wl = some (.lst ys)∧Dats K G (((ps.take i).filterMap (gD t)).map wyD) ys) ?_ (fun i σ G _ ⟨_,_,_,_,p,_⟩=>(p.aLst ha).sqL) ?_ ?_⟩
  · exact ⟨none,none,[],rfl,s12,au,by rw [List.take_zero]; exact Dats.nil⟩
  · rintro i vx σ G hi ⟨z3,z4,ys,rfl,sG,hwG,dy⟩
    obtain ⟨dx,ex,hx⟩:=(sG.dats hda).getV hi
    rw [List.getElem?_map] at ex
    cases hp:ps[i]? with
    | none=>rw [hp] at ex; cases ex
    | some p =>
      rw [hp] at ex
      cases ex
      have okp:=okS.ok p (List.mem_of_getElem? hp)
      have et:ps.take (i + 1) = ps.take i ++ [p]:=by rw [List.take_add_one,hp]; rfl
      have lys:ys.length ≤ 100:=by
        have l1:=dy.length
        rw [List.length_map] at l1
        have l2:=List.length_filterMap_le (gD t) (ps.take i)
        rw [List.length_take] at l2
        omega
      refine lj ?_
      dsimp only
      refine eG (K:=K) (d:=fdD (bQ p.pt t)) (bq (R:=lC) (af (ae (k:=3) hx) (af (ae (k:=0) (sG.dat h0)) aA)) ⟨.str p.nm,p.pt,.tup p.cs,t,rfl,okp.ok,okt,dpt,okp.dp,rfl⟩) fun vf G2 s2 qf=>?_
      have hw2:=s2 _ _ hwG
      cases hft:bQ p.pt t with
      | none =>
        have eW:gD t p = none:=by unfold gD; rw [hft]; rfl
        rw [hft] at qf
        refine gJ (b:=false) (aC (lg (K:=K) (ae (k:=4) qf))) (fun c=>nomatch c) (fun _ G3 s3=>pB ?_)
        refine ⟨_,_,ys,rfl,sG.trans (s2.trans s3),s3 _ _ hw2,?_⟩
        rw [et,List.filterMap_append]
        simp only [List.filterMap_cons,List.filterMap_nil,eW,List.append_nil]
        exact (s2.trans s3).dats dy
      | some f =>
        have eW:gD t p = some ⟨p.nm,p.cs,f.1⟩:=by unfold gD; rw [hft]; rfl
        rw [hft,wm] at qf
        refine gJ (b:=true) (aC (lg (K:=K) (ae (k:=4) qf))) (fun _ G3 s3=>?_) (fun c=>nomatch c)
        have hw3:=s3 _ _ hw2
        have hx3:=(s2.trans s3).dat hx
        refine jO (K:=K) (d:=.tup [.str p.nm,.tup p.cs,.tup (f.1.map toD)]) (aY (af (aK (k:=0) (ae (k:=3) hx3) ao rfl) (af (aK (k:=2) (ae (k:=3) hx3) ao rfl) (af (aK (k:=0) (ae (k:=4) (s3.dat qf)) ao rfl) aA)))) hw3 (by omega) fun y G4 b4 hw4 q4=>?_
        have g4:cQ K G3 G4:=b4.grow hw3 hw4
        refine ⟨_,_,ys ++ [y],rfl,fun x o hx=>b4 x o (az hx hwn) (s3 _ _ (s2 _ _ (sG _ _ hx))),hw4,?_⟩
        rw [et,List.filterMap_append,List.map_append]
        simp only [List.filterMap_cons,List.filterMap_nil,eW]
        exact Dats.append (Dats.mono g4 _ ((s2.trans s3).dats dy)) (Dats.cons q4 Dats.nil)
  · rintro σ G ⟨z3,z4,ys,rfl,sG,hwG,dy⟩
    rw [← la,List.take_length] at dy
    exact ⟨_,rfl,post wl ys G sG hwG hwn dy⟩
end
end My
end
section
namespace My
open PySem L2 PyProof.Rows
section
variable {P:Program} {w:World} {K:PySem.W.Frag} {mg:Str→Option Value} {base:Heap} {k:Nat}
theorem pA {te:TE} {g:TG} {us:TS} {En:Ends} {σ:L2.St} {H:Hp} (h:te σ H fun x H1=>g x σ H1 (us En)):jT (pJ te g) us En σ H:=h
theorem gP:∀ t:Tr,cU (toD t) = bf t
  | .num n=>by unfold toD bf; simp [cU,bP]
  | .arg n=>by unfold toD bf; simp [cU,bP]
  | .two o a b=>by unfold toD bf; simp [cU,bP,gP a,gP b]
  | .pick a b c=>by unfold toD bf; simp [cU,bP,gP a,gP b,gP c]
theorem iV:∀ t:Tr,noL (toD t) = true
  | .num n=>by unfold toD; simp [noL,di]
  | .arg n=>by unfold toD; simp [noL,di]
  | .two o a b=>by unfold toD; simp [noL,di,iV a,iV b]
  | .pick a b c=>by unfold toD; simp [noL,di,iV a,iV b,iV c]
theorem lS:∀ p:Pa,fu p ≤ 2 ^ (ck p - 1)
  | .hole _=>by simp [fu,ck]
  | .gap _ _=>by simp [fu,ck]
  | .slot _=>by simp [fu,ck]
  | .num _=>by simp [fu,ck]
  | .two o a b=>by
    have h1:=lS a
    have h2:=lS b
    have d1:=j5 a
    have d2:=j5 b
    have e:ck (.two o a b) - 1 = (max (ck a) (ck b) - 1) + 1:=by simp only [ck]; omega
    rw [e,Nat.pow_succ]
    have p1:2 ^ (ck a - 1) ≤ 2 ^ (max (ck a) (ck b) - 1):=Nat.pow_le_pow_right (by decide) (by omega)
    have p2:2 ^ (ck b - 1) ≤ 2 ^ (max (ck a) (ck b) - 1):=Nat.pow_le_pow_right (by decide) (by omega)
    simp only [fu]
    omega
theorem sO {ps:List Pc} (h:∀ p ∈ ps,xh p) {t:Tr} {w:Wy} (hw:w ∈ gy ps t):w.ts.length ≤ 8∧(w.nm = "pick"→w.ts.length = 3):=by
  unfold gy at hw
  split at hw
  · rename_i c
    rw [List.mem_singleton.mp hw]
    cases t with
    | pick a b c=>exact ⟨by simp [d8],fun _=>rfl⟩
    | _=>cases c
  · obtain ⟨p,h1,h2⟩:=List.mem_filterMap.mp hw
    unfold gD at h2
    cases e:bQ p.pt t with
    | none=>rw [e] at h2; cases h2
    | some f =>
      rw [e] at h2
      cases h2
      refine ⟨?_,fun z=>absurd z (h p h1).nm⟩
      show f.1.length ≤ 8
      rw [j7 _ _ _ e]
      have:=lS p.pt
      have hd:=(h p h1).dp
      calc fu p.pt ≤ 2 ^ (ck p.pt - 1):=this
        _ ≤ 2 ^ 2:=Nat.pow_le_pow_right (by decide) (by omega)
        _ ≤ 8:=by decide
end
end My
end
section
namespace My
open PySem L2 PyProof.Rows
section
variable {P:Program} {w:World} {K:PySem.W.Frag} {mg:Str→Option Value} {base:Heap} {k:Nat}
theorem BU {ps:List Pc} (h:iG ps):∀ p ∈ ps,kj p.pt = true:=fun p hp=>(h.ok p hp).nh
structure oE (ps:List Pc):Prop where
  lo:1 ≤ ps.length
  hi:ps.length ≤ 16
  pc:∀ p ∈ ps,mw (pcD p) = some true∧p.nm.length ≤ sizeLine
  nd:(ps.map (·.nm)).Nodup
def Aq (as:List Ar) (d:D):Prop:=∃ ps,as = [.l (ps.map pcD)]∧oE ps∧d = .bl true
theorem uL (T:Txt P w K mg) (Ju:FnOk P w K mg base CX0 k T.FW T.F1 ["thing"] (spD K rG)):FnOk P w K mg base CX0 (k + 1) T.Hd T.He ["thing"] (spA K Aq):=by
  refine T.HN.ok sc_is_set (fun vs H Q E h=>?_) (fun cdv A outer s H vs Q E hr h=>?_)
  · obtain ⟨as,d,hd,⟨ps,rfl,_⟩,_⟩:=h; exact hd.length.symm
  have nd:=sc_is_set.nd
  obtain ⟨as,d,hd,⟨ps,rfl,hS,rfl⟩,post⟩:=h
  obtain ⟨v0,rfl,h0⟩:=Ax hd
  have h0:LD K H (ps.map pcD) v0:=h0
  have hlo:=hS.lo
  have hhi:=hS.hi
  refine ⟨_,(aq (bu (PW.pt (cW (bM (br (aH (cC yH) rfl T.CJ aQ (aV (pv 0) (aV (dj (v:=.ty "list") rfl T.Jg om rfl) ag))) (fun _=>rfl))) (dm (bM (mB ir ir ak (aH aR rfl T.C1 bI (aj (pv 0) ag)) (bp (v:=.int 16) rfl T.DZ ⟨_,rfl⟩)))))) (ay (aL cE)) aS)
  (aq (bu (bM (br (aH (gB rfl) rfl T.IG j3 (aj (dk (own:=["piece"]) (fr:=[]) (N':=["piece"]) (eB (pv 0)) rfl (by show cm ["thing"] (fun x=>(aB gL).names.lookup x) _ _ _ _ = true; decide +kernel) rfl (fun _ _ _ _ _=>(aW (i:=0) (by show List.Nodup [("piece":Str)]; decide +kernel) rfl (Or.inl rfl))) (fun _ _ _ _ _=>b9) (fun _ _ _ _ _=>(aF Ju hr rfl T.IF T.GO.kp (rL T) .nil aZ (aj (pv 0) ag)))) ag)) (fun _=>rfl))) (ay (aL cE)) aS)
  (ay (aL (cf bV (aH pT rfl T.C1 bI (aj (cM (ur rfl) rfl T.JS AD (aj (dk (own:=["piece"]) (fr:=[]) (N':=["piece"]) (eB (pv 0)) rfl (by show cm ["thing"] (fun x=>(aB gL).names.lookup x) _ _ _ _ = true; decide +kernel) rfl (fun _ _ _ _ _=>(aW (i:=0) (by show List.Nodup [("piece":Str)]; decide +kernel) rfl (Or.inl rfl))) (fun _ _ _ _ _=>b9) (fun _ _ _ _ _=>(aG (r:=m5 K) aE (pv 0) ak (fun _ _=>rfl)))) ag)) ag)) (aH aR rfl T.C1 bI (aj (pv 0) ag)) (aU _)))))),?_⟩
  refine aN (K:=K) (b:=false) ?_ (fun c=>nomatch c) (fun _ H1 s1=>?_)
  · refine RT.as (bN (b:=false) (RT.as (bo (aO (bA (ae h0.lst)))) rfl) fun _=>bo (aC (jN (p:=fun i j=>decide (i ≤ j)) (r:=fun i j=>decide (i ≤ j)) ao (gb (bh h0)) fun _=>ao))) ?_
    rw [List.length_map,Bool.false_or,decide_eq_true (show (1:Int) ≤ (ps.length:Int) by omega),decide_eq_true (show (ps.length:Int) ≤ 16 by omega)]
    rfl
  have h0:=s1.ld h0
  refine aN (K:=K) (b:=false) ?_ (fun c=>nomatch c) (fun _ H2 s2=>?_)
  · refine RT.as (bo (aO (iO (bs:=ps.map fun _=>true) (qX (bh h0) (by rw [List.length_map]; omega) _ (by simp) rfl (fun G1 j c v d s1 hc hd hv=>?_))))) ?_
    · simp only [List.getElem?_map] at hc hd
      cases hx:ps[j]? with
      | none=>rw [hx] at hc; cases hc
      | some p =>
        rw [hx] at hc hd
        cases hc
        cases hd
        obtain ⟨k1,k2⟩:=hS.pc p (List.mem_of_getElem? hx)
        exact bq (R:=rG) (af (ae (k:=0) hv) aA) ⟨pcD p,true,rfl,k2,k1,rfl⟩
    · rw [List.all_map]
      simp
  have h0:=s2.ld h0
  refine bc (K:=K) (d:=.bl true) (RE.as (pe (uV (zs:=ps.map (·.nm)) (qX (bh h0) (by rw [List.length_map]; omega) _ (by simp) rfl (fun G1 j c v d s1 hc hd hv=>?_)) (by rw [List.length_map]; omega)) (gb (bh h0))) ?_) fun v H' s q=>post v H' (s1.trans (s2.trans s)) q
  · simp only [List.getElem?_map] at hc hd
    cases hx:ps[j]? with
    | none=>rw [hx] at hc; cases hc
    | some p =>
      rw [hx] at hc hd
      cases hc
      cases hd
      exact aK (k:=0) (ae (k:=0) hv) ao rfl
  · rw [(yz _).mpr hS.nd,List.length_map,List.length_map]
    simp
def jX (as:List Ar) (d:D):Prop:=∃ ps,as = [.l (ps.map pcD)]∧oE ps∧d = .non
theorem qQ (T:Txt P w K mg) (JH:FnOk P w K mg base CX0 k T.Hd T.He ["thing"] (spA K Aq)):FnOk P w K mg base CX0 (k + 1) T.E8 T.Fc ["some"] (spA K jX):=by
  refine T.F5.ok sc_need_set (fun vs H Q E h=>?_) (fun cdv A outer s H vs Q E hr h=>?_)
  · obtain ⟨as,d,hd,⟨ps,rfl,_⟩,_⟩:=h; exact hd.length.symm
  have nd:=sc_need_set.nd
  obtain ⟨as,d,hd,⟨ps,rfl,hS,rfl⟩,post⟩:=h
  obtain ⟨v0,rfl,h0⟩:=Ax hd
  have h0:LD K H (ps.map pcD) v0:=h0
  refine ⟨_,(ay (bu (bM (br (aF JH hr rfl T.Jr T.HN.kp (vK T) .nil aZ (aj (pv 0) ag)) (fun _=>rfl))) (ay jM) aS)),?_⟩
  exact gJ (b:=false) (bo (aO (dD (K:=K) (R:=Aq) (dP (bh h0) b0) ⟨ps,rfl,hS,rfl⟩))) (fun c=>nomatch c) (fun _ H1 s1=>post _ H1 s1 Dat.nonI)
structure jU (ps:List Pc) (t:Tr):Prop where
  os:iG ps
  gs:oE ps
  ot:okT t
  dp:bf t ≤ 8
  sz:aX t ≤ 40
end
end My
end
section
namespace My
open PySem L2 PyProof.Rows
section
variable {P:Program} {w:World} {K:PySem.W.Frag} {mg:Str→Option Value} {base:Heap} {k:Nat}
def BA (T:Txt P w K mg) (D:Addr) (j:Nat):Prop:=(D = T.CK∧j = 8)
abbrev uZ (j:Nat):D:=.tup [.str "refused",.int j]
def uc (T:Txt P w K mg):Sp:=fun vs H Q _=>∃ (x D:Addr) (j:Nat),vs = [.ref x]∧H x = some (nX x D)∧BA T D j∧∀ v H',Same H H'→Dat K H' (uZ j) v→Q v H'
theorem mW (T:Txt P w K mg)  : sP P w K mg base (k + 1) T.ES T.EX ["_law_e"] (uc T):=by
  refine T.FI.okH sc__law_which (fun vs H Q E h=>?_) (fun cdv A outer s H vs Q E hr h=>?_)
  · obtain ⟨x,D,j,rfl,_⟩:=h; rfl
  have nd:=sc__law_which.nd
  obtain ⟨x,D,j,rfl,hx,hw,post⟩:=h
  refine ⟨_,(aq (bC (i:=1) nd rfl (Or.inl rfl) (bB (aj (aH bO rfl T.CJ aQ (aV (pv 0) (aV (bp (v:=.ref T.Hb) rfl T.GE rfl) ag))) (aj (aH bO rfl T.CJ aQ (aV (pv 0) (aV (bp (v:=.ref T.Hc) rfl T.GF rfl) ag))) (aj (aH bO rfl T.CJ aQ (aV (pv 0) (aV (bp (v:=.ref T.G8) rfl T.GB rfl) ag))) (aj (aH bO rfl T.CJ aQ (aV (pv 0) (aV (bp (v:=.ref T.G9) rfl T.GC rfl) ag))) ag))))))
  (aq (bF (cV PySem.F.plainAttrs_list PySem.F.slot_list_extend PySem.F.type_list_extend d9 (pv 1) (aj (bB (aj (aH bO rfl T.CJ aQ (aV (pv 0) (aV (bp (v:=.ref T.Gk) rfl T.FS rfl) ag))) (aj (aH bO rfl T.CJ aQ (aV (pv 0) (aV (bp (v:=.ref T.Iq) rfl T.Ic rfl) ag))) (aj (aH bO rfl T.CJ aQ (aV (pv 0) (aV (bp (v:=.ref T.Gj) rfl T.FR rfl) ag))) (aj (aH bO rfl T.CJ aQ (aV (pv 0) (aV (bp (v:=.ref T.HL) rfl T.Hv rfl) ag))) ag))))) ag)))
  (aq (bF (cV PySem.F.plainAttrs_list PySem.F.slot_list_extend PySem.F.type_list_extend d9 (pv 1) (aj (bB (aj (aH bO rfl T.CJ aQ (aV (pv 0) (aV (bp (v:=.ref T.CK) rfl T.Fh rfl) ag))) (aj (aH bO rfl T.CJ aQ (aV (pv 0) (aV (bp (v:=.ref T.Gi) rfl T.FQ rfl) ag))) (aj (aH bO rfl T.CJ aQ (aV (pv 0) (aV (bp (v:=.ref T.Ha) rfl T.GD rfl) ag))) (aj (aH bO rfl T.CJ aQ (aV (pv 0) (aV (bp (v:=.ref T.HM) rfl T.Hw rfl) ag))) ag))))) ag)))
  (aq (bF (cV PySem.F.plainAttrs_list PySem.F.slot_list_extend PySem.F.type_list_extend d9 (pv 1) (aj (bB (aj (aH bO rfl T.CJ aQ (aV (pv 0) (aV (bp (v:=.ref T.HK) rfl T.Hu rfl) ag))) (aj (aH bO rfl T.CJ aQ (aV (pv 0) (aV (bp (v:=.ref T.GZ) rfl T.GA rfl) ag))) ag))) ag)))
  (aq (bu (PW.pt (cW (aP gF (cV PySem.F.plainAttrs_list PySem.F.slot_list_count PySem.F.type_list_count uG (pv 1) (aj cE ag)) ak (aU _)) (dm (bM (br (aH bO rfl T.CJ aQ (aV (pv 0) (aV (dj (v:=.ty "ValueError") rfl T.HU mT rfl) ag))) (fun _=>rfl)))))) (ay (aL (aT (aj aM (aj (xu sM ak) ag))))) aS)
  (ay (aL (aT (aj aM (aj (cV PySem.F.plainAttrs_list PySem.F.slot_list_index PySem.F.type_list_index uH (pv 1) (aj cE ag)) ag)))))))))),?_⟩
  rcases hw with ⟨rfl,rfl⟩
  · refine cJ (pw (K:=K) (af (cu (c:=.ref T.Hb) hx T.CM T.Df (.inl ⟨_,rfl⟩)) (af (cu (c:=.ref T.Hc) hx T.CM T.Dg (.inl ⟨_,rfl⟩)) (af (cu (c:=.ref T.G8) hx T.CM T.Dc (.inl ⟨_,rfl⟩)) (af (cu (c:=.ref T.G9) hx T.CM T.Dd (.inl ⟨_,rfl⟩)) aA)))) fun lb x0 H1 s1 hb e0=>?_)
    have hx1:upd H1 lb (.lst x0) x = some (nX x T.CK):=(s1.trans (aD hb _)) _ _ hx
    have nlb:lb ≠ x:=fun z=>by rw [z] at hb; rw [s1 _ _ hx] at hb; cases hb
    have hlb:H lb = none:=s1.free hb
    have e0:=(aD hb (.lst x0)).dats e0
    have h0:upd H1 lb (.lst x0) lb = some (.lst x0):=au
    have l0:x0.length = 4:=e0.length.symm
    have bb0:But lb H (upd H1 lb (.lst x0)):=(s1.trans (aD hb _)).but
    refine jP (K:=K) (af (cu (c:=.ref T.Gk) hx1 T.CM T.C6 (.inl ⟨_,rfl⟩)) (af (cu (c:=.ref T.Iq) hx1 T.CM T.DI (.inl ⟨_,rfl⟩)) (af (cu (c:=.ref T.Gj) hx1 T.CM T.C5 (.inl ⟨_,rfl⟩)) (af (cu (c:=.ref T.HL) hx1 T.CM T.Ds (.inl ⟨_,rfl⟩)) aA)))) h0 (by omega) fun x1 G1 b1 h1 f1=>?_
    have hx2:=b1 _ _ (Ne.symm nlb) hx1
    have e1:=Dats.append (Dats.mono (b1.grow h0 h1) _ e0) f1
    have l1:(x0 ++ x1).length = 8:=e1.length.symm
    have bb1:=bb0.trans b1
    refine jP (K:=K) (af (cu (c:=.ref T.CK) hx2 T.CM T.C3 (.inl ⟨_,rfl⟩)) (af (cu (c:=.ref T.Gi) hx2 T.CM T.C4 (.inl ⟨_,rfl⟩)) (af (cu (c:=.ref T.Ha) hx2 T.CM T.De (.inl ⟨_,rfl⟩)) (af (cu (c:=.ref T.HM) hx2 T.CM T.Dt (.inl ⟨_,rfl⟩)) aA)))) h1 (by omega) fun x2 G2 b2 h2 f2=>?_
    have hx3:=b2 _ _ (Ne.symm nlb) hx2
    have e2:=Dats.append (Dats.mono (b2.grow h1 h2) _ e1) f2
    have l2:(x0 ++ x1 ++ x2).length = 12:=e2.length.symm
    have bb2:=bb1.trans b2
    refine jP (K:=K) (af (cu (c:=.ref T.HK) hx3 T.CM T.Dr (.inl ⟨_,rfl⟩)) (af (cu (c:=.ref T.GZ) hx3 T.CM T.Da (.inl ⟨_,rfl⟩)) aA)) h2 (by omega) fun x3 G3 b3 h3 f3=>?_
    have hx4:=b3 _ _ (Ne.symm nlb) hx3
    have e3:=Dats.append (Dats.mono (b3.grow h2 h3) _ e2) f3
    have l3:(x0 ++ x1 ++ x2 ++ x3).length = 14:=e3.length.symm
    have bb3:=bb2.trans b3
    have sm:Same H G3:=fun b o hbo=>bb3 b o (az hbo hlb) hbo
    have ev:=vZ (bs:=[false,false,false,false,false,false,false,false,true,false,false,false,false,false]) e3
    have h3':G3 lb = some (.lst (blV [false,false,false,false,false,false,false,false,true,false,false,false,false,false])):=by rw [← show _ = blV [false,false,false,false,false,false,false,false,true,false,false,false,false,false] from ev]; exact h3
    refine aN (K:=K) (b:=false) ?_ (fun c=>nomatch c) (fun _ H5 s5=>?_)
    · exact RT.as (bN (aC (eT (uS h3') ao)) fun _=>bo (aO (cu (c:=.ty "ValueError") hx4 T.CM T.CS (.inr ⟨_,rfl⟩)))) rfl
    · refine bc (K:=K) (d:=uZ 8) (aY (af aI (af (uT (j:=8) (s5 _ _ h3') (by decide) rfl (fun m hm=>?_)) aA))) fun v H' s q=>post v H' (sm.trans (s5.trans s)) q
      match m,hm with
      | 0,_=>rfl
      | 1,_=>rfl
      | 2,_=>rfl
      | 3,_=>rfl
      | 4,_=>rfl
      | 5,_=>rfl
      | 6,_=>rfl
      | 7,_=>rfl
end
end My
end
section
namespace My
open PySem L2 PyProof.Rows
section
variable {P:Program} {w:World} {K:PySem.W.Frag} {mg:Str→Option Value} {base:Heap} {k:Nat}
def nB:Pa→Nat
  | .gap _ _=>1
  | .two _ a b=>nB a + nB b
  | _=>0
def kz:Pa→Nat
  | .slot _=>1
  | .two _ a b=>kz a + kz b
  | _=>0
theorem jA:∀ (p:Pa) (t:Tr) (f:Fnd),bQ p t = some f→f.2.1.length = nB p∧f.2.2.length = kz p
  | .hole i,t,f,h=>by cases h; exact ⟨rfl,rfl⟩
  | .gap i m,t,f,h=>by
    cases t with
    | num n =>
      have h':(if n ≤ m then some ([],[n],[]) else none:Option Fnd) = some f:=h
      by_cases z:n ≤ m
      · rw [if_pos z] at h'; cases h'; exact ⟨rfl,rfl⟩
      · rw [if_neg z] at h'; cases h'
    | _=>cases h
  | .slot i,t,f,h=>by
    cases t with
    | arg n=>cases h; exact ⟨rfl,rfl⟩
    | _=>cases h
  | .num m,t,f,h=>by
    cases t with
    | num n =>
      have h':(if n = m then some ([],[],[]) else none:Option Fnd) = some f:=h
      by_cases z:n = m
      · rw [if_pos z] at h'; cases h'; exact ⟨rfl,rfl⟩
      · rw [if_neg z] at h'; cases h'
    | _=>cases h
  | .two o a b,t,f,h=>by
    cases t with
    | two o' u v =>
      obtain ⟨_,f1,f2,e1,e2,e3⟩:=cZ h
      subst e3
      have h1:=jA a u f1 e1
      have h2:=jA b v f2 e2
      refine ⟨?_,?_⟩
      · show (f1.2.1 ++ f2.2.1).length = nB a + nB b
        rw [List.length_append,h1.1,h2.1]
      · show (f1.2.2 ++ f2.2.2).length = kz a + kz b
        rw [List.length_append,h1.2,h2.2]
    | _=>cases h
inductive Cl where
  | n (i:Int)
  | arg (k:Nat)
  | low (k:Nat)
  | high (k:Nat)
def clD:Cl→D
  | .n i=>.int i
  | .arg k=>.tup [.str "arg",.int k]
  | .low k=>.tup [.str "low",.int k]
  | .high k=>.tup [.str "high",.int k]
def gW (g s:Nat):Cl→Bool
  | .n _=>true
  | .arg k=>decide (k < s)
  | .low k=>decide (k < g)
  | .high k=>decide (k < g)
def kL (nums ks:List Int):Cl→Int
  | .n i=>i
  | .arg k=>ks.getD k 0
  | .low k=>nums.getD k 0 % 100
  | .high k=>nums.getD k 0 / 100
structure zN (p:Pc) (cl:List Cl):Prop where
  eq:p.cs = cl.map clD
  ok:∀ c ∈ cl,gW (nB p.pt) (kz p.pt) c = true
def cR (near far:Int) (n:Nat):List D:=(ff near far n).map D.int
theorem qz (near far:Int) (n:Nat):((cR near far n).length:Int) = jI n:=by unfold cR; rw [List.length_map,lW]
def dF (x y z:List D):List D:=x ++ cR 10 11 (y ++ cR 8 9 z.length).length ++ (y ++ cR 8 9 z.length) ++ z
def bY (xss:List (List D)) (f:Fnd) (cl:List Cl):List D:=xss.flatten ++ cl.map fun c=>D.int (kL f.2.1 f.2.2 c)
end
end My
end
section
namespace My
open PySem L2 PyProof.Rows
section
variable {P:Program} {w:World} {K:PySem.W.Frag} {mg:Str→Option Value} {base:Heap} {k:Nat}
theorem BL (t:Tr):∃ kd y r,toD t = .tup (.str kd :: y :: r):=by
  cases t <;> exact ⟨_,_,_,rfl⟩
theorem z8 {ta tb:TE} {σ:L2.St} {H:Hp} {Q:VK} (h:ta σ H fun x H1=>∃ c,x = .bl c∧if c = true then tb σ H1 Q else Q (.bl false) H1):yb ta tb σ H Q:=h
def oL (l0 l1 l2:Addr):HO:=.lst [.ref l0,.ref l1,.ref l2]
theorem AI (m:Int) (t:Tr) (ht:okT t):eqD (toD t) (toP (.num m)) = (bQ (.num m) t).isSome:=by
  cases t with
  | num n =>
    show eqD (.tup [.str "num",.int n]) (.tup [.str "num",.int m]) = (if n = m then some _ else none:Option Fnd).isSome
    by_cases h:n = m
    · rw [if_pos h]; simp [eqD,dE,h]
    · rw [if_neg h]; simp [eqD,dE,h]
  | arg n=>exact rfl
  | two o a b =>
    have h:o = "add"∨o = "sub"∨o = "mul"∨o = "less":=ht.1
    show eqD (.tup [.str o,toD a,toD b]) (.tup [.str "num",.int m]) = false
    unfold eqD dE eqD
    rcases h with rfl | rfl | rfl | rfl <;> rfl
  | pick a b c=>exact rfl
theorem qJ (T:Txt P w K mg) {n:Nat} (E5:FnOk P w K mg base CX0 k T.D6 T.Eb ["_law_pattern","_law_tree_here","_law_found"] (iJ K oL n)):FnOk P w K mg base CX0 (k + 1) T.D6 T.Eb ["_law_pattern","_law_tree_here","_law_found"] (iJ K oL (n + 1)):=by
  refine T.EH.ok sc__law_fit (fun vs H Q E h=>?_) (fun cdv A outer s H vs Q E hr h=>?_)
  · obtain ⟨p,t,v0,v1,f,l0,l1,l2,a,b,c,rfl,_⟩:=h; rfl
  have nd:=sc__law_fit.nd
  obtain ⟨p,t,v0,v1,f,l0,l1,l2,a,b,c,rfl,okp,okt,dpt,hn,hn3,h0,h1,hf,f0,f1,f2,tri,la,lb,lc,post⟩:=h
  refine ⟨_,(aq (bu (aP bV (aG aE (pv 0) ak (fun _ _=>rfl)) aM (aU _)) (aq (bF (cV PySem.F.plainAttrs_list PySem.F.slot_list_append PySem.F.type_list_append bR (aG bE (pv 2) ak (fun _ _=>rfl)) (aj (pv 1) ag)))
  (ay (aL cE))) aS)
  (aq (bu (aP bV (aG aE (pv 0) ak (fun _ _=>rfl)) aM (aU _)) (aq (bF (cV PySem.F.plainAttrs_list PySem.F.slot_list_append PySem.F.type_list_append bR (aG bE (pv 2) ak (fun _ _=>rfl)) (aj (aG aE (pv 1) ak (fun _ _=>rfl)) ag)))
  (ay (aL (fP (cf bV (aG aE (pv 1) ak (fun _ _=>rfl)) aM (aU _)) (fQ (cf ir (aG aE (pv 1) ak (fun _ _=>rfl)) (aG aE (pv 0) ak (fun _ _=>rfl)) (aU _))))))) aS)
  (aq (bu (aP bV (aG aE (pv 0) ak (fun _ _=>rfl)) aM (aU _)) (aq (bF (cV PySem.F.plainAttrs_list PySem.F.slot_list_append PySem.F.type_list_append bR (aG bE (pv 2) ak (fun _ _=>rfl)) (aj (aG aE (pv 1) ak (fun _ _=>rfl)) ag)))
  (ay (aL (cf bV (aG aE (pv 1) ak (fun _ _=>rfl)) aM (aU _))))) aS)
  (aq (bu (aP bV (aG aE (pv 0) ak (fun _ _=>rfl)) aM (aU _)) (ay (aL (cf (xi hr) (pv 1) (pv 0) (aU _)))) aS)
  (ay (aL (fP (cf bV (aG aE (pv 1) ak (fun _ _=>rfl)) (aG aE (pv 0) ak (fun _ _=>rfl)) (aU _)) (fP (aF E5 hr rfl T.F8 T.EH.kp (gS T) .nil aZ (aj (aG aE (pv 0) ak (fun _ _=>rfl)) (aj (aG aE (pv 1) ak (fun _ _=>rfl)) (aj (pv 2) ag)))) (fQ (aF E5 hr rfl T.F8 T.EH.kp (gS T) .nil aZ (aj (aG aE (pv 0) ak (fun _ _=>rfl)) (aj (aG aE (pv 1) ak (fun _ _=>rfl)) (aj (pv 2) ag))))))))))))),?_⟩
  obtain ⟨kd,y1,r,ek⟩:=BL t
  obtain ⟨kd',r',ek',hnum,harg⟩:=wu t okt
  have ekk:kd' = kd:=by
    rw [ek] at ek'
    injection ek' with z
    injection z with z _
    injection z with z
    exact z.symm
  subst ekk
  have h1':Dat K H (.tup (.str kd' :: y1 :: r)) v1:=by rw [← ek]; exact h1
  have hf':∀ {G:Hp},But3 l0 l1 l2 H G→G f = some (oL l0 l1 l2):=fun bb=>bb _ _ f0 f1 f2 hf
  have p1:=xG (n + 1)
  have p2:2 ^ (n + 1) = 2 * 2 ^ n:=by rw [Nat.pow_succ,Nat.mul_comm]
  cases p with
  | hole i =>
    have h0:Dat K H (.tup [.str "hole",.int i]) v0:=h0
    refine aN (K:=K) (b:=true) (RT.as (aC (bj (aK (k:=0) (ae h0) ao rfl) aI)) (decide_eq_true rfl)) (fun _ H1 s1=>?_) (fun c=>nomatch c)
    refine cO ⟨_,rfl,f,_,0,_,rfl,rfl,SqL.of (show H1 f = some (.lst [.ref l0,.ref l1,.ref l2]) from s1 _ _ hf),at0,.inl ⟨rfl,_,SqL.of (s1 _ _ tri.h0)⟩,_,rfl,?_⟩
    have tri1:=tri.same s1
    refine ⟨l0,a,v1,rfl,rfl,tri1.h0,bJ (by omega),?_⟩
    obtain ⟨t5,b5⟩:=tri1.p0 (v:=v1)
    refine post _ [v1] [] [] (s1.but3.trans b5) t5 (by simpa using p1) (by simp) (by simp) fun fd e=>?_
    cases e
    exact ⟨Dats.cons (Dat.mono (b5.grow tri1 t5) _ (s1.dat h1)) Dats.nil,Dats.nil,Dats.nil⟩
  | gap i m =>
    have h0:Dat K H (.tup [.str "gap",.int i,.int m]) v0:=h0
    refine aN (K:=K) (b:=false) (RT.as (aC (bj (aK (k:=0) (ae h0) ao rfl) aI)) (decide_eq_false (by decide +kernel))) (fun c=>nomatch c) (fun _ H1 s1=>?_)
    have h0:=s1.dat h0
    refine aN (K:=K) (b:=true) (RT.as (aC (bj (aK (k:=0) (ae h0) ao rfl) aI)) (decide_eq_true rfl)) (fun _ H2 s2=>?_) (fun c=>nomatch c)
    have h0:=s2.dat h0
    have s12:=s1.trans s2
    refine cO ⟨_,rfl,f,_,1,_,rfl,rfl,SqL.of (show H2 f = some (.lst [.ref l0,.ref l1,.ref l2]) from s12 _ _ hf),at1,.inl ⟨rfl,_,SqL.of (s12 _ _ tri.h1)⟩,?_⟩
    refine bS (RE.use (K:=K) (d:=y1) (aK (k:=1) (ae (s12.dat h1')) ao rfl) fun y H4 s4 q4=>?_)
    have s14:=s12.trans s4
    have tri4:=tri.same s14
    refine ⟨l1,b,y,rfl,rfl,tri4.h1,bJ (by omega),?_⟩
    obtain ⟨t5,b5⟩:=tri4.p1 (v:=y)
    have g5:=b5.grow (K:=K) tri4 t5
    dsimp only
    by_cases hnn:∃ nn,t = .num nn
    · obtain ⟨nn,rfl⟩:=hnn
      have h1:Dat K H (.tup [.str "num",.int nn]) v1:=h1
      have ey:y1 = .int nn:=by
        have z:toD (.num nn) = .tup [.str "num",.int nn]:=rfl
        rw [z] at ek
        injection ek with ek
        injection ek with _ ek
        injection ek with ek _
        exact ek.symm
      subst ey
      have h5:=Dat.mono g5 _ (s14.dat h1)
      refine bc (K:=K) (d:=.bl (decide (nn ≤ m))) (RE.as (cq (b:=true) (RE.as (bj (aK (k:=0) (ae h5) ao rfl) aI) (congrArg D.bl (decide_eq_true rfl))) fun _=>d4 (p:=fun i j=>decide (i ≤ j)) (aK (k:=1) (ae h5) ao rfl) (aK (k:=2) (ae (Dat.mono g5 _ (s4.dat h0))) ao rfl)) rfl) fun v H' s qq=>?_
      rw [qq.blE]
      have pz:=post _ [] [y] [] ((s14.but3.trans b5).trans s.but3) (t5.same s) (by simp) (by simpa using p1) (by simp) fun fd z=>by
        have z':(if nn ≤ m then some ([],[nn],[]) else none:Option Fnd) = some fd:=z
        by_cases hm:nn ≤ m
        · rw [if_pos hm] at z'
          cases z'
          exact ⟨Dats.nil,Dats.cons (s.dat (Dat.mono g5 _ q4)) Dats.nil,Dats.nil⟩
        · rw [if_neg hm] at z'
          cases z'
      have e:(bQ (.gap i m) (.num nn)).isSome = decide (nn ≤ m):=by
        show (if nn ≤ m then some _ else none:Option Fnd).isSome = _
        by_cases hm:nn ≤ m
        · rw [if_pos hm,decide_eq_true hm]; rfl
        · rw [if_neg hm,decide_eq_false hm]; rfl
      rw [e] at pz
      exact pz
    · have e:=qp (i:=i) (m:=m) fun n z=>hnn ⟨n,z⟩
      refine bc (K:=K) (d:=.bl false) (RE.as (cq (b:=false) (c:=true) (RE.as (bj (aK (k:=0) (ae (Dat.mono g5 _ (s14.dat h1'))) ao rfl) aI) (congrArg D.bl (decide_eq_false (fun z=>hnn (hnum.mp z))))) fun c=>nomatch c) rfl) fun v H' s qq=>?_
      rw [qq.blE]
      have pz:=post _ [] [y] [] ((s14.but3.trans b5).trans s.but3) (t5.same s) (by simp) (by simpa using p1) (by simp) fun fd z=>by rw [e] at z; cases z
      rw [e] at pz
      exact pz
  | slot i =>
    have h0:Dat K H (.tup [.str "slot",.int i]) v0:=h0
    refine aN (K:=K) (b:=false) (RT.as (aC (bj (aK (k:=0) (ae h0) ao rfl) aI)) (decide_eq_false (by decide +kernel))) (fun c=>nomatch c) (fun _ H1 s1=>?_)
    have h0:=s1.dat h0
    refine aN (K:=K) (b:=false) (RT.as (aC (bj (aK (k:=0) (ae h0) ao rfl) aI)) (decide_eq_false (by decide +kernel))) (fun c=>nomatch c) (fun _ H2 s2=>?_)
    have h0:=s2.dat h0
    refine aN (K:=K) (b:=true) (RT.as (aC (bj (aK (k:=0) (ae h0) ao rfl) aI)) (decide_eq_true rfl)) (fun _ H3 s3=>?_) (fun c=>nomatch c)
    have s13:=s1.trans (s2.trans s3)
    refine cO ⟨_,rfl,f,_,2,_,rfl,rfl,SqL.of (show H3 f = some (.lst [.ref l0,.ref l1,.ref l2]) from s13 _ _ hf),at2,.inl ⟨rfl,_,SqL.of (s13 _ _ tri.h2)⟩,?_⟩
    refine bS (RE.use (K:=K) (d:=y1) (aK (k:=1) (ae (s13.dat h1')) ao rfl) fun y H4 s4 q4=>?_)
    have s14:=s13.trans s4
    have tri4:=tri.same s14
    refine ⟨l2,c,y,rfl,rfl,tri4.h2,bJ (by omega),?_⟩
    obtain ⟨t5,b5⟩:=tri4.p2 (v:=y)
    have g5:=b5.grow (K:=K) tri4 t5
    dsimp only
    refine bc (K:=K) (d:=.bl (decide (kd' = "arg"))) (bj (aK (k:=0) (ae (Dat.mono g5 _ (s14.dat h1'))) ao rfl) aI) fun v H' s qq=>?_
    rw [qq.blE]
    have pz:=post _ [] [] [y] ((s14.but3.trans b5).trans s.but3) (t5.same s) (by simp) (by simp) (by simpa using p1) fun fd z=>by
      cases t with
      | arg nn =>
        cases z
        have ey:y1 = .int nn:=by
          have z:toD (.arg nn) = .tup [.str "arg",.int nn]:=rfl
          rw [z] at ek
          injection ek with ek
          injection ek with _ ek
          injection ek with ek _
          exact ek.symm
        subst ey
        exact ⟨Dats.nil,Dats.nil,Dats.cons (s.dat (Dat.mono g5 _ q4)) Dats.nil⟩
      | _=>cases z
    by_cases ha:∃ n,t = .arg n
    · rw [decide_eq_true (harg.mpr ha)]
      obtain ⟨nn,rfl⟩:=ha
      exact pz
    · rw [decide_eq_false (fun z=>ha (harg.mp z))]
      rw [nP fun n z=>ha ⟨n,z⟩] at pz
      exact pz
  | num m =>
    have h0:Dat K H (.tup [.str "num",.int m]) v0:=h0
    refine aN (K:=K) (b:=false) (RT.as (aC (bj (aK (k:=0) (ae h0) ao rfl) aI)) (decide_eq_false (by decide +kernel))) (fun c=>nomatch c) (fun _ H1 s1=>?_)
    have h0:=s1.dat h0
    refine aN (K:=K) (b:=false) (RT.as (aC (bj (aK (k:=0) (ae h0) ao rfl) aI)) (decide_eq_false (by decide +kernel))) (fun c=>nomatch c) (fun _ H2 s2=>?_)
    have h0:=s2.dat h0
    refine aN (K:=K) (b:=false) (RT.as (aC (bj (aK (k:=0) (ae h0) ao rfl) aI)) (decide_eq_false (by decide +kernel))) (fun c=>nomatch c) (fun _ H3 s3=>?_)
    have h0:=s3.dat h0
    refine aN (K:=K) (b:=true) (RT.as (aC (bj (aK (k:=0) (ae h0) ao rfl) aI)) (decide_eq_true rfl)) (fun _ H4 s4=>?_) (fun c=>nomatch c)
    have s14:=s1.trans (s2.trans (s3.trans s4))
    refine ⟨_,rfl,_,rfl,toD t,toP (.num m),s14.dat h1,s4.dat h0,iV t,by unfold toP; simp [noL,di],by rw [gP]; omega,?_⟩
    show Q (.bl (eqD (toD t) (toP (.num m)))) _
    rw [AI m t okt]
    exact post _ [] [] [] s14.but3 (tri.same s14).nil (by simp) (by simp) (by simp) fun fd z=>by
      cases t with
      | num nn =>
        have z':(if nn = m then some ([],[],[]) else none:Option Fnd) = some fd:=z
        by_cases hm:nn = m
        · rw [if_pos hm] at z'
          cases z'
          exact ⟨Dats.nil,Dats.nil,Dats.nil⟩
        · rw [if_neg hm] at z'
          cases z'
      | _=>cases z
  | two o pa pb =>
    have h0:Dat K H (.tup [.str o,toP pa,toP pb]) v0:=h0
    have ho:okB o:=okp.1
    refine aN (K:=K) (b:=false) (RT.as (aC (bj (aK (k:=0) (ae h0) ao rfl) aI)) (decide_eq_false (by intro z; subst z; exact absurd ho (by decide +kernel)))) (fun c=>nomatch c) (fun _ H1 s1=>?_)
    have h0:=s1.dat h0
    refine aN (K:=K) (b:=false) (RT.as (aC (bj (aK (k:=0) (ae h0) ao rfl) aI)) (decide_eq_false (by intro z; subst z; exact absurd ho (by decide +kernel)))) (fun c=>nomatch c) (fun _ H2 s2=>?_)
    have h0:=s2.dat h0
    refine aN (K:=K) (b:=false) (RT.as (aC (bj (aK (k:=0) (ae h0) ao rfl) aI)) (decide_eq_false (by intro z; subst z; exact absurd ho (by decide +kernel)))) (fun c=>nomatch c) (fun _ H3 s3=>?_)
    have h0:=s3.dat h0
    refine aN (K:=K) (b:=false) (RT.as (aC (bj (aK (k:=0) (ae h0) ao rfl) aI)) (decide_eq_false (by intro z; subst z; exact absurd ho (by decide +kernel)))) (fun c=>nomatch c) (fun _ H4 s4=>?_)
    have h0:=s4.dat h0
    have s14:=s1.trans (s2.trans (s3.trans s4))
    refine dS (z8 (RE.use (K:=K) (d:=.bl (decide (kd' = o))) (bj (aK (k:=0) (ae (s14.dat h1')) ao rfl) (aK (k:=0) (ae h0) ao rfl)) fun vb G sG qb=>⟨_,qb.blE,?_⟩))
    have s1G:=s14.trans sG
    by_cases hk:kd' = o
    · rw [decide_eq_true hk]
      refine jH ?_
      obtain ⟨x,y,rfl⟩:=qu ho ek hk
      have h1:Dat K H (.tup [.str o,toD x,toD y]) v1:=h1
      have dpa:ck pa ≤ n:=by simp only [ck] at hn; omega
      have dpb:ck pb ≤ n:=by simp only [ck] at hn; omega
      have dpx:bf x ≤ 8:=by simp only [bf] at dpt; omega
      have dpy:bf y ≤ 8:=by simp only [bf] at dpt; omega
      refine z8 (dO (bS (RE.use (K:=K) (d:=toP pa) (aK (k:=1) (ae (sG.dat h0)) ao rfl) fun w0 H5 s5 q5=>?_)))
      refine bS (RE.use (K:=K) (d:=toD x) (aK (k:=1) (ae ((s1G.trans s5).dat h1)) ao rfl) fun w1 H6 s6 q6=>?_)
      have s16:=s1G.trans (s5.trans s6)
      have tri6:=tri.same s16
      refine ⟨_,rfl,pa,x,w0,w1,f,l0,l1,l2,a,b,c,rfl,okp.2.1,okt.2.1,dpx,dpa,by omega,s6.dat q5,q6,s16 _ _ hf,f0,f1,f2,tri6,by omega,by omega,by omega,fun H7 a1 b1' c1 bb7 tri7 ka kb kc d7=>?_⟩
      refine ⟨_,rfl,?_⟩
      have g67:cQ K H6 H7:=bb7.grow tri6 tri7
      have bb17:But3 l0 l1 l2 H H7:=s16.but3.trans bb7
      cases hfa:bQ pa x with
      | none =>
        refine kR ?_
        have pz:=post H7 a1 b1' c1 bb17 tri7 (Nat.le_trans ka (Nat.pow_le_pow_right (by decide) (by omega))) (Nat.le_trans kb (Nat.pow_le_pow_right (by decide) (by omega))) (Nat.le_trans kc (Nat.pow_le_pow_right (by decide) (by omega))) fun fd z=>by rw [fX hfa] at z; cases z
        rw [fX hfa] at pz
        exact pz
      | some fa =>
        refine jH ?_
        obtain ⟨da,db,dc⟩:=d7 fa hfa
        refine dO (bS (RE.use (K:=K) (d:=toP pb) (aK (k:=2) (ae (Dat.mono g67 _ ((sG.trans (s5.trans s6)).dat h0))) ao rfl) fun w2 H8 s8 q8=>?_))
        refine bS (RE.use (K:=K) (d:=toD y) (aK (k:=2) (ae (s8.dat (Dat.mono g67 _ (s16.dat h1)))) ao rfl) fun w3 H9 s9 q9=>?_)
        have s79:=s8.trans s9
        have tri9:=tri7.same s79
        refine ⟨_,rfl,pb,y,w2,w3,f,l0,l1,l2,a ++ a1,b ++ b1',c ++ c1,rfl,okp.2.2,okt.2.2,dpy,dpb,by omega,s9.dat q8,q9,s79 _ _ (hf' bb17),f0,f1,f2,tri9,by rw [List.length_append]; omega,by rw [List.length_append]; omega,by rw [List.length_append]; omega,fun H10 a2 b2' c2 bb10 tri10 ma mb mc d10=>?_⟩
        have g:=bb10.grow (K:=K) tri9 tri10
        rw [List.append_assoc,List.append_assoc,List.append_assoc] at tri10
        have pz:=post H10 (a1 ++ a2) (b1' ++ b2') (c1 ++ c2) (bb17.trans (s79.but3.trans bb10)) tri10 (ko ka ma) (ko kb mb) (ko kc mc) fun fd z=>by
          obtain ⟨_,f',g',e1,e2,e3⟩:=cZ z
          rw [hfa] at e1
          cases e1
          obtain ⟨da2,db2,dc2⟩:=d10 g' e2
          subst e3
          refine ⟨?_,?_,?_⟩
          · show Dats K H10 ((fa.1 ++ g'.1).map toD) _
            rw [List.map_append]
            exact Dats.append (Dats.mono g _ (s79.dats da)) da2
          · show Dats K H10 ((fa.2.1 ++ g'.2.1).map D.int) _
            rw [List.map_append]
            exact Dats.append (Dats.mono g _ (s79.dats db)) db2
          · show Dats K H10 ((fa.2.2 ++ g'.2.2).map D.int) _
            rw [List.map_append]
            exact Dats.append (Dats.mono g _ (s79.dats dc)) dc2
        rw [lQ hfa] at pz
        exact pz
    · rw [decide_eq_false hk]
      refine kR ?_
      have e:=qk (a:=pa) (b:=pb) ho ek hk
      have pz:=post _ [] [] [] s1G.but3 (tri.same s1G).nil (by simp) (by simp) (by simp) fun fd z=>by rw [e] at z; cases z
      rw [e] at pz
      exact pz
theorem B1 {σ:L2.St} {H:Hp} {tt:TT} {ta tb:TE} {b:Bool} {es:List D} (h:RT tt σ H b) (h1:b = true→RC K ta σ H es) (h2:b = false→RC K tb σ H es):RC K (tIf tt ta tb) σ H es:=fun H1 s Q q =>
  (h.mono s).use fun H' s'=>by
    cases b with
    | true=>exact jH (h1 rfl H' (s.trans s') Q fun l ys H2 hl s2=>q l ys H2 (s'.free hl) (s'.trans s2))
    | false=>exact kR (h2 rfl H' (s.trans s') Q fun l ys H2 hl s2=>q l ys H2 (s'.free hl) (s'.trans s2))
def nZ (ds es:List D):Prop:=∃ n f m,ds = [.int n,.int f,.int m]∧es = (ff n f m).map D.int
theorem oO (T:Txt P w K mg)  : FnOk P w K mg base CX0 (k + 1) T.Fp T.Fv ["_law_near","_law_far","_law_cells"] (kC K nZ):=by
  refine T.FA.ok sc__law_jump (fun vs H Q E h=>?_) (fun cdv A outer s H vs Q E hr h=>?_)
  · obtain ⟨ds,es,hd,⟨n,f,m,rfl,rfl⟩,_⟩:=h; exact hd.length.symm
  have nd:=sc__law_jump.nd
  obtain ⟨ds,es,hd,⟨n,f,m,rfl,rfl⟩,post⟩:=h
  obtain ⟨v0,v1,v2,rfl,h0,h1,h2⟩:=p7 hd
  refine ⟨_,(ay (aL (iH (aP ir (pv 2) ak (aU _)) (bB (aj (pv 0) (aj (pv 2) ag))) (bB (aj (pv 1) (aj (bz ef (pv 2) ak) (aj (bz hV (pv 2) ak) ag))))))),?_⟩
  refine dS (RC.use (K:=K) (B1 (b:=decide (m ≤ 9)) (aC (d4 (p:=fun i j=>decide (i ≤ j)) (ae h2) ao)) (fun c=>?_) (fun c=>?_)) fun l ys H' hl s hy hd=>post l ys H' s hy hl hd)
  · have e:ff n f m = [n,m]:=by unfold ff; rw [if_pos (of_decide_eq_true c)]
    rw [e]
    exact fz (af (ae h0) (af (ae h2) aA))
  · have e:ff n f m = [f,m % 100,m / 100]:=by unfold ff; rw [if_neg (of_decide_eq_false c)]
    rw [e]
    exact fz (af (ae h1) (af (pf (ae h2) ao (by decide)) (af (kZ (ae h2) ao ⟨by decide,by decide⟩) aA)))
theorem A8 {te:TE} {g:TG} {tb:TS} {En:Ends} {σ:L2.St} {H:Hp} (h:te σ H fun x H1=>∃ a,x = .ref a∧(∃ xs,SqT K H1 a xs)∧∃ W:Nat→Nat→L2.St→Hp→Prop,(∃ m,W 0 m σ H1)∧∀ i m σ H,W i m σ H →
      ((Itt K a).stop i H∧En.nx σ H)∨((Itt K a).go i H∧∃ N:L2.St→Hp→Prop,(∀ σ' H',N σ' H'→∃ m',m' < m∧W (i + 1) m' σ' H')∧∀ x H',(Itt K a).yld i H x H'→g x σ H' fun σ2 H2=>tb { En with nx:=N,ct:=N,bk:=En.nx } σ2 H2)):B7 (wC K te) g tb En σ H:=h
def rE (as:List Ar) (es:List D):Prop:=∃ (cl:List Cl) (nums ks:List Int),as = [.d (.tup (cl.map clD)),.l (nums.map D.int),.l (ks.map D.int)]∧(∀ c ∈ cl,gW nums.length ks.length c = true)∧cl.length ≤ 12∧es = cl.map fun c=>D.int (kL nums ks c)
theorem iM {ns:List Int} {k:Nat} (h:k < ns.length):(ns.map D.int)[k]? = some (.int (ns.getD k 0)):=by
  rw [List.getElem?_map,List.getD_eq_getElem?_getD,List.getElem?_eq_getElem h]
  rfl
theorem oN (T:Txt P w K mg)  : FnOk P w K mg base CX0 (k + 1) T.Fo T.Fu ["_law_cells","_law_nums","_law_ks"] (jk K rE):=by
  refine T.Ge.ok sc__law_fill (fun vs H Q E h=>?_) (fun cdv A outer s H vs Q E hr h=>?_)
  · obtain ⟨as,es,hd,⟨cl,nums,ks,rfl,_⟩,_⟩:=h; exact hd.length.symm
  have nd:=sc__law_fill.nd
  obtain ⟨as,es,hd,⟨cl,nums,ks,rfl,okc,lc,rfl⟩,post⟩:=h
  obtain ⟨v0,v1,v2,rfl,h0,h1,h2⟩:=n6 hd
  have h0:Dat K H (.tup (cl.map clD)) v0:=h0
  have h1:LD K H (nums.map D.int) v1:=h1
  have h2:LD K H (ks.map D.int) v2:=h2
  obtain ⟨a,us,rfl,ha,hus⟩:=h0.tupE
  have lu:=hus.length
  rw [List.length_map] at lu
  refine ⟨_,(aq (bC (i:=3) nd rfl (Or.inl rfl) (bB ag))
  (aq (jh PassesOwn.never rfl (jg (pv 0)) (aW (i:=4) nd rfl (Or.inl rfl)) (ay (bu (bM (br (aH (cC fM) rfl T.CJ aQ (aV (pv 4) (aV (dj (v:=.ty "tuple") rfl T.DT cA rfl) ag))) (fun _=>rfl))) (ay (bF (cV PySem.F.plainAttrs_list PySem.F.slot_list_append PySem.F.type_list_append bR (pv 3) (aj (pv 4) ag)))) (ay (bu (aP bV (aG aE (pv 4) ak (fun _ _=>rfl)) aM (aU _)) (ay (bF (cV PySem.F.plainAttrs_list PySem.F.slot_list_append PySem.F.type_list_append bR (pv 3) (aj (aG bE (pv 2) (aG aE (pv 4) ak (fun _ _=>rfl)) (fun _ _=>rfl)) ag)))) (ay (bF (cV PySem.F.plainAttrs_list PySem.F.slot_list_append PySem.F.type_list_append bR (pv 3) (aj (iH (aP bV (aG aE (pv 4) ak (fun _ _=>rfl)) aM (aU _)) (bz ef (aG bE (pv 1) (aG aE (pv 4) ak (fun _ _=>rfl)) (fun _ _=>rfl)) ak) (bz hV (aG bE (pv 1) (aG aE (pv 4) ak (fun _ _=>rfl)) (fun _ _=>rfl)) ak)) ag)))))))))
  (ay (aL (pv 3))))),?_⟩
  refine cJ ⟨bW (by decide),fun l hl=>?_⟩
  have s1:Same H (upd H l (.lst [])):=aD hl _
  refine cO (A8 (K:=K) ⟨_,rfl,a,rfl,⟨us,s1.sqT ha⟩,tE (xs:=us) (fun i σ G=>∃ (z:Option V) (ys:List V),σ = [some (.ref a),some v1,some v2,some (.ref l),z]∧Same H G∧G l = some (.lst ys)∧Dats K G ((cl.take i).map fun c=>D.int (kL nums ks c)) ys) ?_ (fun i σ G _ ⟨_,_,_,p,_⟩=>p.sqT ha) ?_ ?_⟩)
  · exact ⟨none,[],rfl,s1,au,by rw [List.take_zero]; exact Dats.nil⟩
  · rintro i vx σ G hi ⟨z,ys,rfl,sG,hlG,dy⟩
    obtain ⟨dx,ex,hx⟩:=(sG.dats hus).getV hi
    rw [List.getElem?_map] at ex
    cases hc:cl[i]? with
    | none=>rw [hc] at ex; cases ex
    | some c =>
      rw [hc] at ex
      cases ex
      have okc:=okc c (List.mem_of_getElem? hc)
      have et:cl.take (i + 1) = cl.take i ++ [c]:=by rw [List.take_add_one,hc]; rfl
      have lys:ys.length ≤ 12:=by rw [← dy.length,List.length_map,List.length_take]; omega
      refine lj ?_
      dsimp only
      have fin:∀ {G1 G2:Hp} {y:V} {b:Option V},Same G G1→But l G1 G2→G2 l = some (.lst (ys ++ [y]))→Dat K G2 (.int (kL nums ks c)) y→∃ (z:Option V) (ys:List V),[some (.ref a),some v1,some v2,some (.ref l),b] = [some (.ref a),some v1,some v2,some (.ref l),z]∧Same H G2∧G2 l = some (.lst ys)∧Dats K G2 ((cl.take (i + 1)).map fun c=>D.int (kL nums ks c)) ys:=fun {G1 G2 y b} s1 b2 h2 q2=>by
        have g2:cQ K G1 G2:=b2.grow (s1 _ _ hlG) h2
        refine ⟨_,ys ++ [y],rfl,fun x o hx=>b2 x o (az hx hl) (s1 _ _ (sG _ _ hx)),h2,?_⟩
        rw [et,List.map_append]
        exact Dats.append (Dats.mono g2 _ (s1.dats dy)) (Dats.cons q2 Dats.nil)
      cases c with
      | n j =>
        have hx:Dat K G (.int j) vx:=hx
        refine gJ (b:=true) (bo (aO (bA (K:=K) (ae (k:=4) hx)))) (fun _ G1 s1=>?_) (fun c=>nomatch c)
        exact jO (K:=K) (d:=.int j) (ae (k:=4) (s1.dat hx)) (s1 _ _ hlG) (by omega) fun y G2 b2 h2 q2=>fin s1 b2 h2 q2
      | arg j =>
        have hx:Dat K G (.tup [.str "arg",.int j]) vx:=hx
        have okc:=of_decide_eq_true okc
        refine gJ (b:=false) (bo (aO (bA (K:=K) (ae (k:=4) hx)))) (fun c=>nomatch c) (fun _ G1 s1=>?_)
        have hx:=s1.dat hx
        refine gJ (b:=true) (RT.as (aC (bj (aK (k:=0) (ae (k:=4) hx) ao rfl) aI)) (decide_eq_true rfl)) (fun _ G2 s2=>?_) (fun c=>nomatch c)
        have s12:=s1.trans s2
        exact jO (K:=K) (d:=.int (ks.getD j 0)) (kq (k:=j) (bh (k:=2) ((sG.trans s12).ld h2)) (aK (k:=1) (ae (k:=4) (s2.dat hx)) ao rfl) (iM okc)) (s12 _ _ hlG) (by omega) fun y G3 b3 h3 q3=>fin s12 b3 h3 q3
      | low j =>
        have hx:Dat K G (.tup [.str "low",.int j]) vx:=hx
        have okc:=of_decide_eq_true okc
        refine gJ (b:=false) (bo (aO (bA (K:=K) (ae (k:=4) hx)))) (fun c=>nomatch c) (fun _ G1 s1=>?_)
        have hx:=s1.dat hx
        refine gJ (b:=false) (RT.as (aC (bj (aK (k:=0) (ae (k:=4) hx) ao rfl) aI)) (decide_eq_false (by decide +kernel))) (fun c=>nomatch c) (fun _ G2 s2=>?_)
        have s12:=s1.trans s2
        have hx:=s2.dat hx
        refine jO (K:=K) (d:=.int (nums.getD j 0 % 100)) (rb (b:=true) (RT.as (aC (bj (aK (k:=0) (ae (k:=4) hx) ao rfl) aI)) (decide_eq_true rfl)) (fun _=>pf (kq (k:=j) (bh (k:=1) ((sG.trans s12).ld h1)) (aK (k:=1) (ae (k:=4) hx) ao rfl) (iM okc)) ao (by decide)) (fun c=>nomatch c)) (s12 _ _ hlG) (by omega) fun y G3 b3 h3 q3=>fin s12 b3 h3 q3
      | high j =>
        have hx:Dat K G (.tup [.str "high",.int j]) vx:=hx
        have okc:=of_decide_eq_true okc
        refine gJ (b:=false) (bo (aO (bA (K:=K) (ae (k:=4) hx)))) (fun c=>nomatch c) (fun _ G1 s1=>?_)
        have hx:=s1.dat hx
        refine gJ (b:=false) (RT.as (aC (bj (aK (k:=0) (ae (k:=4) hx) ao rfl) aI)) (decide_eq_false (by decide +kernel))) (fun c=>nomatch c) (fun _ G2 s2=>?_)
        have s12:=s1.trans s2
        have hx:=s2.dat hx
        refine jO (K:=K) (d:=.int (nums.getD j 0 / 100)) (rb (b:=false) (RT.as (aC (bj (aK (k:=0) (ae (k:=4) hx) ao rfl) aI)) (decide_eq_false (by decide +kernel))) (fun c=>nomatch c) (fun _=>kZ (kq (k:=j) (bh (k:=1) ((sG.trans s12).ld h1)) (aK (k:=1) (ae (k:=4) hx) ao rfl) (iM okc)) ao ⟨by decide,by decide⟩)) (s12 _ _ hlG) (by omega) fun y G3 b3 h3 q3=>fin s12 b3 h3 q3
  · rintro σ G ⟨z,ys,rfl,sG,hlG,dy⟩
    rw [← lu,List.take_length] at dy
    exact ⟨_,rfl,post l ys G sG hlG hl dy⟩
end
end My
end
section
namespace My
open PySem L2 PyProof.Rows
section
variable {P:Program} {w:World} {K:PySem.W.Frag} {mg:Str→Option Value} {base:Heap} {k:Nat}
structure New3 (F G:Hp) (f l0 l1 l2:Addr):Prop where
  s:Same F G
  hf:G f = some (oL l0 l1 l2)
  n0:f ≠ l0
  n1:f ≠ l1
  n2:f ≠ l2
  tri:Tri l0 l1 l2 G [] [] []
  f0:F l0 = none
  f1:F l1 = none
  f2:F l2 = none
theorem New3.mono {F G G':Hp} {f l0 l1 l2:Addr} (h:New3 F G f l0 l1 l2) (s:Same G G'):New3 F G' f l0 l1 l2:=⟨h.s.trans s,s _ _ h.hf,h.n0,h.n1,h.n2,h.tri.same s,h.f0,h.f1,h.f2⟩
theorem xK {σ:L2.St} {F:Hp} {Q:VK} (q:∀ f l0 l1 l2 G,New3 F G f l0 l1 l2→Q (.ref f) G):pL (bD (pL dt) (bD (pL dt) (bD (pL dt) dt))) σ F Q:=by
  refine ⟨bW (by decide),fun l0 hl0=>⟨bW (by decide),fun l1 hl1=>⟨bW (by decide),fun l2 hl2=>⟨bW (by simp),fun f hf=>?_⟩⟩⟩⟩
  have n10:l0 ≠ l1:=az au hl1
  have n20:l0 ≠ l2:=az (by rw [aJ n10]; exact au) hl2
  have n21:l1 ≠ l2:=az au hl2
  have nf0:l0 ≠ f:=az (by rw [aJ n20,aJ n10]; exact au) hf
  have nf1:l1 ≠ f:=az (by rw [aJ n21]; exact au) hf
  have nf2:l2 ≠ f:=az au hf
  refine q f l0 l1 l2 _ ⟨(aD hl0 _).trans ((aD hl1 _).trans ((aD hl2 _).trans (aD hf _))),au,Ne.symm nf0,Ne.symm nf1,Ne.symm nf2,⟨?_,?_,?_,n10,n20,n21⟩,hl0,?_,?_⟩
  · rw [aJ nf0,aJ n20,aJ n10]; exact au
  · rw [aJ nf1,aJ n21]; exact au
  · rw [aJ nf2]; exact au
  · rw [aJ (Ne.symm n10)] at hl1; exact hl1
  · rw [aJ (Ne.symm n21),aJ (Ne.symm n20)] at hl2; exact hl2
structure Full3 (K:PySem.W.Frag) (F G:Hp) (f l0 l1 l2:Addr) (fd:Fnd):Prop where
  hf:G f = some (.lst [.ref l0,.ref l1,.ref l2])
  h0:LD K G (fd.1.map toD) (.ref l0)
  h1:LD K G (fd.2.1.map D.int) (.ref l1)
  h2:LD K G (fd.2.2.map D.int) (.ref l2)
theorem Full3.mono {F G G':Hp} {f l0 l1 l2:Addr} {fd:Fnd} (h:Full3 K F G f l0 l1 l2 fd) (s:Same G G'):Full3 K F G' f l0 l1 l2 fd:=⟨s _ _ h.hf,s.ld h.h0,s.ld h.h1,s.ld h.h2⟩
theorem Aa {E:XK} {tp tt:TE} {j:Nat} {σ:L2.St} {F G:Hp} {f l0 l1 l2:Addr} {p:Pa} {t:Tr} {Q:VK} (N:New3 F G f l0 l1 l2) (okp:fS p) (okt:okT t) (dpt:bf t ≤ 8) (dpp:ck p ≤ 3) (hp:RE K tp σ G (toP p)) (ht:RE K tt σ G (toD t))
    (q:∀ G',Same F G'→(∀ fd,bQ p t = some fd→Full3 K F G' f l0 l1 l2 fd)→Q (.bl (bQ p t).isSome) G') (hv:σ[j]? = some (some (.ref f)):=by rfl):fB (iJ K oL 3) [] E (bD tp (bD tt (bD (dJ j) dt))) σ G Q:=by
  refine dO (bS (hp.use fun w0 G1 s1 q1=>bS ((ht.mono s1).use fun w1 G2 s2 q2=>?_)))
  have N2:=N.mono (s1.trans s2)
  refine ⟨_,hv,p,t,w0,w1,f,l0,l1,l2,[],[],[],rfl,okp,okt,dpt,dpp,by decide,s2.dat q1,q2,N2.hf,N2.n0,N2.n1,N2.n2,N2.tri,by decide,by decide,by decide,fun G3 a' b' c' bb tri' _ _ _ dd=>?_⟩
  refine q G3 (fun x o hx=>bb x o (az hx N2.f0) (az hx N2.f1) (az hx N2.f2) (N2.s _ _ hx)) fun fd e=>?_
  obtain ⟨d0,d1,d2⟩:=dd fd e
  exact ⟨bb _ _ N2.n0 N2.n1 N2.n2 N2.hf,LD.of tri'.h0 d0,LD.of tri'.h1 d1,LD.of tri'.h2 d2⟩
theorem rg {tb:TE} {k:Nat} {v:Nat} {σ:L2.St} {H:Hp} {f l:Addr} {us:List V} {es:List D} (hf:H f = some (.lst us)) (hl:LD K H es (.ref l)) (h2:RE K tb σ H (.int (v:Nat))) (e:us[v]? = some (.ref l)) (hv:σ[k]? = some (some (.ref f)):=by rfl):RL K (tOp (zm K) (dJ k) tb) σ H es:=fun H1 s Q q =>
  ⟨_,hv,h2 H1 s _ fun w H3 s3 q3=>⟨f,us,v,.ref l,rfl,q3.intE,SqL.of ((s.trans s3) _ _ hf),fD e,q _ _ s3 ((s.trans s3).ld hl)⟩⟩
theorem nr:∀ l:List Int,bP (l.map D.int) ≤ 1
  | []=>by simp [bP]
  | n :: ns=>by
    have:=nr ns
    simp only [List.map_cons,bP,cU]
    omega
end
end My
end
section
namespace My
open PySem L2 PyProof.Rows
section
variable {P:Program} {w:World} {K:PySem.W.Frag} {mg:Str→Option Value} {base:Heap} {k:Nat}
def kN (f:Tr→D→Bool) (ts:List Tr) (cs:List D):List Bool:=(ts.zip cs).map fun p=>f p.1 p.2
def jv (f:Tr→D→Bool) (ts:List Tr) (cs:List D):Bool:=decide (ts.length = cs.length) && (kN f ts cs).all id
def ft:D→Option (Str × List D)
  | .tup [.str nm,.tup cs]=>some (nm,cs)
  | _=>none
def gx (ps:List Pc):Nat→Tr→D→Bool
  | 0,_,_=>false
  | n + 1,t,c=>match ft c with
    | none=>false
    | some x=>match (gy ps t).find? fun w=>decide (w.nm = x.1) with
      | none=>false
      | some w=>jv (gx ps n) w.ts x.2
def vB (n:Nat) (as:List Ar) (d:D):Prop:=∃ (ps:List Pc) (ts:List Tr) (cs:List D),as = [.d (.tup (ts.map toD)),.l (ps.map pcD),.d (.tup cs)]∧iG ps∧(∀ t ∈ ts,okT t∧bf t ≤ n)∧n ≤ 8∧ts.length ≤ 8∧d = .bl (jv (gx ps n) ts cs)
def jW (n:Nat) (as:List Ar) (d:D):Prop:=∃ (ps:List Pc) (t:Tr) (c:D),as = [.d (toD t),.l (ps.map pcD),.d c]∧iG ps∧okT t∧bf t ≤ n∧n ≤ 8∧d = .bl (gx ps n t c)
theorem yR (as:List Ar) (d:D):¬ jW 0 as d:=fun ⟨ps,t,c,_,_,_,h,_⟩=>by
  have:1 ≤ bf t:=by cases t <;> simp [bf]
  omega
theorem zM {ts:List Tr} {cs:List D} {j:Nat} {t:Tr} {c:D} (h1:ts[j]? = some t) (h2:cs[j]? = some c):(ts.zip cs)[j]? = some (t,c):=by
  rw [List.getElem?_zip_eq_some]
  exact ⟨h1,h2⟩
theorem jJ (T:Txt P w K mg) {n:Nat} (DU:FnOk P w K mg base CX0 k T.CW T.CY ["tree","some","thing"] (spA K (jW n))):FnOk P w K mg base CX0 (k + 1) T.DB T.DE ["trees","some","things"] (spA K (vB n)):=by
  refine T.Ei.ok sc_are_covered_by (fun vs H Q E h=>?_) (fun cdv A outer s H vs Q E hr h=>?_)
  · obtain ⟨as,d,hd,⟨ps,ts,cs,rfl,_⟩,_⟩:=h; exact hd.length.symm
  have nd:=sc_are_covered_by.nd
  obtain ⟨as,d,hd,⟨ps,ts,cs,rfl,okS,okts,n8,l8,rfl⟩,post⟩:=h
  obtain ⟨v0,v1,v2,rfl,h0,h1,h2⟩:=n6 hd
  have h0:Dat K H (.tup (ts.map toD)) v0:=h0
  have h1:LD K H (ps.map pcD) v1:=h1
  have h2:Dat K H (.tup cs) v2:=h2
  refine ⟨_,(aq (bu (aP gF (aH aR rfl T.C1 bI (aj (pv 0) ag)) (aH aR rfl T.C1 bI (aj (pv 2) ag)) (aU _)) (ay (aL cE)) aS)
  (ay (aL (aH (gB rfl) rfl T.IG j3 (aj (dk (own:=["tree","thing"]) (fr:=[1]) (N':=["tree","thing","some"]) (o5 rfl T.IV (aj (pv 0) (aj (pv 2) ag))) rfl (by show cm ["trees","some","things"] (fun x=>(aB cP).names.lookup x) _ _ _ _ = true; decide +kernel) rfl (fun _ _ _ _ _=>(kY (K:=K) (n:=2) rfl rfl (bg (aW (i:=0) (by show List.Nodup [("tree":Str),("thing":Str),("some":Str)]; decide +kernel) rfl (Or.inl rfl)) (bg (aW (i:=1) (by show List.Nodup [("tree":Str),("thing":Str),("some":Str)]; decide +kernel) rfl (Or.inl rfl)) cG)))) (fun _ _ _ _ _=>b9) (fun _ _ _ _ _=>(aF DU hr rfl T.EC T.Dq.kp (fq T) .nil aZ (aj (pv 0) (aj (pv 2) (aj (pv 1) ag)))))) ag))))),?_⟩
  have el:decide (((ts.map toD).length:Int) = (cs.length:Int)) = decide (ts.length = cs.length):=by
    rw [List.length_map]
    by_cases z:ts.length = cs.length
    · rw [decide_eq_true z,decide_eq_true (by omega)]
    · rw [decide_eq_false z,decide_eq_false (by omega)]
  refine aN (K:=K) (b:=!decide (ts.length = cs.length)) (RT.as (aC (eT (cg (ae (k:=0) h0)) (cg (ae (k:=2) h2)))) (by rw [el])) (fun c H1 s1=>?_) (fun c H1 s1=>?_)
  · refine bc (K:=K) (d:=.bl false) dq fun v H2 s2 q=>post v H2 (s1.trans s2) ?_
    have e:jv (gx ps n) ts cs = false:=by
      unfold jv
      have z:decide (ts.length = cs.length) = false:=by simpa using c
      rw [z]
      rfl
    rw [e]
    exact q
  · have z:decide (ts.length = cs.length) = true:=by simpa using c
    have el:=of_decide_eq_true z
    have e:jv (gx ps n) ts cs = (kN (gx ps n) ts cs).all id:=by
      unfold jv
      rw [z]
      rfl
    rw [e] at post
    refine bc (K:=K) (d:=.bl ((kN (gx ps n) ts cs).all id)) (iO (bs:=kN (gx ps n) ts cs) (Bc (cs:=ts.map toD) (ds:=cs) (af (ae (k:=0) (s1.dat h0)) (af (ae (k:=2) (s1.dat h2)) aA)) (by rw [List.length_map]; exact el) (by rw [List.length_map]; omega) _ (by unfold kN; rw [List.length_map,List.length_map,List.length_map,List.length_zip]; omega) (by decide) rfl (fun G j c d e v w s2 hc hd he hv hw=>?_))) fun v H2 s2 q=>post v H2 (s1.trans s2) q
    rw [List.getElem?_map] at hc
    cases ht:ts[j]? with
    | none=>rw [ht] at hc; cases hc
    | some t =>
      rw [ht] at hc
      cases hc
      unfold kN at he
      rw [List.getElem?_map,List.getElem?_map,zM ht hd] at he
      cases he
      have ok:=okts t (List.mem_of_getElem? ht)
      exact dD (R:=jW n) (dn (ae (k:=0) hv) (dP (bh (k:=2) ((s1.trans s2).ld h1)) (dn (ae (k:=1) hw) b0))) ⟨ps,t,d,rfl,okS,ok.1,ok.2,n8,rfl⟩
theorem yD {α:Type} {p:α→Bool} {l:List α} {i:Nat} {x:α} (h:l[i]? = some x) (hx:p x = true) (hn:∀ y ∈ l.take i,p y = false):l.find? p = some x:=by
  rw [List.find?_eq_some_iff_getElem]
  have hi:i < l.length:=(List.getElem?_eq_some_iff.mp h).1
  refine ⟨hx,i,hi,(List.getElem?_eq_some_iff.mp h).2,fun j hj=>?_⟩
  have hm:l[j] ∈ l.take i:=List.mem_take_iff_getElem.mpr ⟨j,by omega,rfl⟩
  rw [hn _ hm]
  rfl
theorem yE {α:Type} {p:α→Bool} {l:List α} (hn:∀ y ∈ l,p y = false):l.find? p = none:=by
  rw [List.find?_eq_none]
  intro y hy
  rw [hn y hy]
  exact Bool.false_ne_true
theorem ux {ps:List Pc} {n:Nat} {t:Tr} {c:D} (h:ft c = none):gx ps (n + 1) t c = false:=by
  show (match ft c with | none=>false | some x=>_) = false
  rw [h]
def oz (c:D):Bool:=!cy c || (match c with | .tup ds=>!decide ((ds.length:Int) = 2) || !jc (ds.getD 1 .non) "tuple" | _=>true)
theorem lO (c:D):oz c = (ft c).isNone:=by
  unfold oz
  match c with
  | .tup [.str nm,.tup cs]=>rfl
  | .tup []=>rfl
  | .tup [.str nm]=>rfl
  | .tup (.str nm :: x :: y :: r) =>
    have e:(ft (.tup (.str nm :: x :: y :: r))).isNone = true:=by cases x <;> rfl
    rw [e]
    show (false || (!decide ((((D.str nm) :: x :: y :: r).length:Int) = 2) || _)) = true
    have z:decide ((((D.str nm) :: x :: y :: r).length:Int) = 2) = false:=decide_eq_false (by simp only [List.length_cons]; omega)
    rw [z]
    rfl
  | .tup [.str nm,.non]=>rfl
  | .tup [.str nm,.bl _]=>rfl
  | .tup [.str nm,.int _]=>rfl
  | .tup [.str nm,.str _]=>rfl
  | .tup [.str nm,.lst]=>rfl
  | .tup (.non :: r)=>cases r <;> rfl
  | .tup (.bl _ :: r)=>cases r <;> rfl
  | .tup (.int _ :: r)=>cases r <;> rfl
  | .tup (.tup _ :: r)=>cases r <;> rfl
  | .tup (.lst :: r)=>cases r <;> rfl
  | .non=>rfl
  | .bl _=>rfl
  | .int _=>rfl
  | .str _=>rfl
  | .lst=>rfl
theorem kl (T:Txt P w K mg) {n:Nat} (D1:FnOk P w K mg base CX0 k T.DK T.DM ["thing"] (spD K gQ)) (JG:FnOk P w K mg base CX0 k T.Gr T.Gx ["tree","some"] (jk K vH)) (HV:FnOk P w K mg base CX0 k T.DB T.DE ["trees","some","things"] (spA K (vB n))):FnOk P w K mg base CX0 (k + 1) T.CW T.CY ["tree","some","thing"] (spA K (jW (n + 1))):=by
  refine T.Dq.ok sc_is_covered_by (fun vs H Q E h=>?_) (fun cdv A outer s H vs Q E hr h=>?_)
  · obtain ⟨as,d,hd,⟨ps,t,c,rfl,_⟩,_⟩:=h; exact hd.length.symm
  have nd:=sc_is_covered_by.nd
  obtain ⟨as,d,hd,⟨ps,t,c,rfl,okS,okt,dpt,n8,rfl⟩,post⟩:=h
  obtain ⟨v0,v1,v2,rfl,h0,h1,h2⟩:=n6 hd
  have h0:Dat K H (toD t) v0:=h0
  have h1:LD K H (ps.map pcD) v1:=h1
  have h2:Dat K H c v2:=h2
  refine ⟨_,(aq (bu (PW.pt (cW (bM (br (aF D1 hr rfl T.FE T.Ef.kp (fU T) .nil aZ (aj (pv 2) ag)) (fun _=>rfl))) (cW (aP gF (aH aR rfl T.C1 bI (aj (pv 2) ag)) ak (aU _)) (dm (bM (br (aH (cC fM) rfl T.CJ aQ (aV (aG aE (pv 2) ak (fun _ _=>rfl)) (aV (dj (v:=.ty "tuple") rfl T.DT cA rfl) ag))) (fun _=>rfl))))))) (ay (aL cE)) aS)
  (aq (jh PassesOwn.never rfl (eB (aF JG hr rfl T.IU T.Hr.kp (um T) .nil aZ (aj (pv 0) (aj (pv 1) ag)))) (eQ rfl (bg (aW (i:=3) nd rfl (Or.inl rfl)) (bg (aW (i:=4) nd rfl (Or.inl rfl)) (bg (aW (i:=5) nd rfl (Or.inl rfl)) cG)))) (ay (bu (aP bV (pv 3) (aG aE (pv 2) ak (fun _ _=>rfl)) (aU _)) (ay (aL (aF HV hr rfl T.GG T.Ei.kp (jY T) .nil aZ (aj (pv 5) (aj (pv 1) (aj (aG aE (pv 2) ak (fun _ _=>rfl)) ag)))))) aS)))
  (ay (aL cE)))),?_⟩
  have tg:RE K (fB (spD K gQ) [] E0 (bD (dJ 2) dt)) (cX ["tree","some","thing","name","cells","trees"] [v0,v1,v2]) H (.bl (cy c)):=bq (R:=gQ) (af (ae (k:=2) h2) aA) ⟨c,rfl,rfl⟩
  refine aN (K:=K) (b:=oz c) ?_ (fun cn H1 s1=>?_) (fun cs H1 s1=>?_)
  · by_cases ht:cy c = true
    · obtain ⟨nm,r,rfl⟩:∃ nm r,c = .tup (.str nm :: r):=by
        match c,ht with
        | .tup (.str nm :: r),_=>exact ⟨nm,r,rfl⟩
      by_cases hl:((D.str nm :: r).length:Int) = 2
      · obtain ⟨x,rfl⟩:∃ x,r = [x]:=by
          match r,hl with
          | [x],_=>exact ⟨x,rfl⟩
          | [],hl=>simp at hl
          | x :: y :: r,hl=>simp only [List.length_cons] at hl; omega
        exact RT.as (bN (bo (aO tg)) fun _=>bN (aC (eT (cg (ae (k:=2) h2)) ao)) fun _=>bo (aO (bA (aK (k:=1) (ae (k:=2) h2) ao rfl)))) rfl
      · refine RT.as (bN (bo (aO tg)) fun _=>bN (c:=true) (aC (eT (cg (ae (k:=2) h2)) ao)) fun z=>?_) ?_
        · rw [decide_eq_false hl] at z; cases z
        · show (false || (!decide (((D.str nm :: r).length:Int) = 2) || true)) = (false || (!decide (((D.str nm :: r).length:Int) = 2) || _))
          rw [decide_eq_false hl]
          rfl
    · have ht:cy c = false:=by simpa using ht
      refine RT.as (bN (c:=true) (bo (aO tg)) fun z=>?_) ?_
      · rw [ht] at z; cases z
      · unfold oz; rw [ht]; rfl
  · rw [lO] at cn
    refine bc (K:=K) (d:=.bl false) dq fun v H2 s2 q=>post v H2 (s1.trans s2) ?_
    rw [ux (by cases e:ft c with | none=>rfl | some _=>rw [e] at cn; cases cn)]
    exact q
  rw [lO] at cs
  obtain ⟨nm,cv,rfl⟩:∃ nm cv,c = .tup [.str nm,.tup cv]:=by
    unfold ft at cs
    split at cs
    · exact ⟨_,_,rfl⟩
    · cases cs
  have ec:gx ps (n + 1) t (.tup [.str nm,.tup cv]) = (match (gy ps t).find? fun w=>decide (w.nm = nm) with | none=>false | some w=>jv (gx ps n) w.ts cv):=rfl
  rw [ec] at post
  refine cO (RC.use (K:=K) (eF (R:=vH) (dn (ae (k:=0) (s1.dat h0)) (dP (bh (k:=1) (s1.ld h1)) b0)) ⟨ps,t,rfl,okS,okt,by omega,rfl⟩) fun l ys H2 hl s2 hy hdy=>?_)
  have s12:=s1.trans s2
  have ly:=hdy.length
  rw [List.length_map] at ly
  refine ⟨l,rfl,⟨ys,SqL.of hy⟩,jD (xs:=ys) (fun i σ G=>∃ (z3 z4 z5:Option V),σ = [some v0,some v1,some v2,z3,z4,z5]∧Same H2 G∧∀ w ∈ (gy ps t).take i,decide (w.nm = nm) = false) ?_ (fun i σ G _ ⟨_,_,_,_,p,_⟩=>SqL.of (p _ _ hy)) ?_ ?_⟩
  · exact ⟨none,none,none,rfl,Same.refl _,fun w hw=>by simp at hw⟩
  · rintro i vx σ G hi ⟨z3,z4,z5,rfl,sG,hno⟩
    have sHG:=s12.trans sG
    obtain ⟨dx,ex,hx⟩:=(sG.dats hdy).getV hi
    rw [List.getElem?_map] at ex
    cases hw:(gy ps t)[i]? with
    | none=>rw [hw] at ex; cases ex
    | some w =>
      rw [hw] at ex
      cases ex
      have hwm:=List.mem_of_getElem? hw
      have et:(gy ps t).take (i + 1) = (gy ps t).take i ++ [w]:=by rw [List.take_add_one,hw]; rfl
      obtain ⟨pa,us,rfl,hpa,hus⟩:=(show Dat K G (.tup [.str w.nm,.tup w.cs,.tup (w.ts.map toD)]) vx from hx).tupE
      obtain ⟨x3,x4,x5,rfl,k3,k4,k5⟩:=p7 hus
      refine ⟨pa,_,rfl,hpa,rfl,_,_,rfl,_,_,rfl,_,_,rfl,rfl,?_⟩
      dsimp only
      have h2G:Dat K G (.tup [.str nm,.tup cv]) v2:=sHG.dat h2
      refine gJ (b:=decide (w.nm = nm)) (aC (bj (K:=K) (ae (k:=3) k3) (aK (k:=0) (ae (k:=2) h2G) ao rfl))) (fun cY G1 t1=>?_) (fun cN G1 t1=>pB ?_)
      · rw [yD hw cY hno] at post
        have tail:=fun x hx=>zL (BU okS) hwm x hx
        refine bc (K:=K) (d:=.bl (jv (gx ps n) w.ts cv)) (dD (R:=vB n) (dn (ae (k:=5) (t1.dat k5)) (dP (bh (k:=1) ((sHG.trans t1).ld h1)) (dn (aK (k:=1) (ae (k:=2) (t1.dat h2G)) ao rfl) b0))) ⟨ps,w.ts,cv,rfl,okS,fun x hx=>⟨eY t x okt (gO (tail x hx)),?_⟩,by omega,(sO okS.ok hwm).1,rfl⟩) fun v G2 t2 q=>post v G2 (sHG.trans (t1.trans t2)) q
        have:=(ip (tail x hx)).2
        omega
      · refine ⟨_,_,_,rfl,sG.trans t1,fun y hy=>?_⟩
        rw [et] at hy
        rcases List.mem_append.mp hy with hy | hy
        · exact hno y hy
        · rw [List.mem_singleton.mp hy]; exact cN
  · rintro σ G ⟨z3,z4,z5,rfl,sG,hno⟩
    rw [← ly,List.take_length] at hno
    rw [yE hno] at post
    dsimp only
    exact bc (K:=K) (d:=.bl false) dq fun v G2 t2 q=>post v G2 (s12.trans (sG.trans t2)) q
def yt (as:List Ar) (d:D):Prop:=∃ (ps:List Pc) (t:Tr) (c:D),as = [.d (toD t),.l (ps.map pcD),.d c]∧jU ps t∧d = .bl (gx ps 8 t c)
theorem mn (T:Txt P w K mg) (GY:FnOk P w K mg base CX0 k T.EJ T.EK ["tree"] (spD K pP)) (HE:FnOk P w K mg base CX0 k T.E8 T.Fc ["some"] (spA K jX)) (DU:FnOk P w K mg base CX0 k T.CW T.CY ["tree","some","thing"] (spA K (jW 8))):FnOk P w K mg base CX0 (k + 1) T.Es T.Ex ["tree","some","thing"] (spA K yt):=by
  refine T.Fl.ok sc_is_covering (fun vs H Q E h=>?_) (fun cdv A outer s H vs Q E hr h=>?_)
  · obtain ⟨as,d,hd,⟨ps,t,c,rfl,_⟩,_⟩:=h; exact hd.length.symm
  have nd:=sc_is_covering.nd
  obtain ⟨as,d,hd,⟨ps,t,c,rfl,gi,rfl⟩,post⟩:=h
  obtain ⟨v0,v1,v2,rfl,h0,h1,h2⟩:=n6 hd
  have h0:Dat K H (toD t) v0:=h0
  have h1:LD K H (ps.map pcD) v1:=h1
  have h2:Dat K H c v2:=h2
  refine ⟨_,(aq (bF (aF GY hr rfl T.Hk T.FD.kp (kI T) .nil aZ (aj (pv 0) ag)))
  (aq (bF (aF HE hr rfl T.HH T.F5.kp (lG T) .nil aZ (aj (pv 1) ag)))
  (ay (aL (aF DU hr rfl T.EC T.Dq.kp (fq T) .nil aZ (aj (pv 0) (aj (pv 1) (aj (pv 2) ag)))))))),?_⟩
  refine ku (RE.use (bq (R:=pP) (d:=.non) (af (ae (K:=K) (k:=0) h0) aA) ⟨toD t,rfl,pN gi.ot gi.dp gi.sz,rfl⟩) fun v4 H1 s1 _=>?_)
  refine ku (RE.use (dD (R:=jX) (d:=.non) (dP (bh (K:=K) (k:=1) (s1.ld h1)) b0) ⟨ps,rfl,gi.gs,rfl⟩) fun v5 H2 s2 _=>?_)
  have s12:=s1.trans s2
  exact bc (K:=K) (d:=.bl (gx ps 8 t c)) (dD (R:=jW 8) (dn (ae (k:=0) (s12.dat h0)) (dP (bh (k:=1) (s12.ld h1)) (dn (ae (k:=2) (s12.dat h2)) b0))) ⟨ps,t,c,rfl,gi.os,gi.ot,gi.dp,by decide,rfl⟩) fun v H' s q=>post v H' (s12.trans s) q
end
end My
end
section
namespace My
open PySem L2 PyProof.Rows
section
variable {P:Program} {w:World} {K:PySem.W.Frag} {mg:Str→Option Value} {base:Heap} {k:Nat}
structure wM (ps:List Pc):Prop where
  nd:(ps.map (·.nm)).Nodup
  nl:∀ p ∈ ps,noL (pcD p) = true∧cU (pcD p) ≤ 19
def wR (nm:Str):D→Bool
  | .tup (.str x :: _)=>decide (x = nm)
  | _=>false
theorem j6 {nm:Str}:∀ {ps:List Pc},(∀ p ∈ ps,p.nm ≠ nm)→(ps.map pcD).filter (wR nm) = []
  | [],_=>rfl
  | p :: ps,h=>by
    rw [List.map_cons,List.filter_cons,if_neg]
    · exact j6 fun q hq=>h q (List.mem_cons_of_mem _ hq)
    · show ¬ decide (p.nm = nm) = true
      rw [decide_eq_false (h p List.mem_cons_self)]
      exact Bool.false_ne_true
theorem lN {p:Pc}:∀ {ps:List Pc},(ps.map (·.nm)).Nodup→p ∈ ps→(ps.map pcD).filter (wR p.nm) = [pcD p]
  | [],_,h=>by cases h
  | q :: ps,nd,h=>by
    rw [List.map_cons,List.nodup_cons] at nd
    rcases List.mem_cons.mp h with rfl | h
    · rw [List.map_cons,List.filter_cons,if_pos (show wR p.nm (pcD p) = true from decide_eq_true rfl),j6 fun x hx z=>nd.1 (List.mem_map.mpr ⟨x,hx,z⟩)]
    · rw [List.map_cons,List.filter_cons,if_neg]
      · exact lN nd.2 h
      · show ¬ decide (q.nm = p.nm) = true
        rw [decide_eq_false fun z=>nd.1 (List.mem_map.mpr ⟨p,h,z.symm⟩)]
        exact Bool.false_ne_true
theorem qZ {k:Nat} {σ:L2.St} {H:Hp} {l:Addr} {ys:List V} {ds:List D} (hl:H l = some (.lst ys)) (hd:Dats K H ds ys) (n1:di ds = true) (dp:bP ds ≤ 20) (hv:σ[k]? = some (some (.ref l)):=by rfl):RE K (tOp (BW K false) (dJ k) (pL dt)) σ H (.bl (dE ds [])):=fun H1 s Q q =>
  ⟨_,hv,bW (by decide),fun p hp=>by
    have sp:=aD hp (.lst [])
    exact ⟨l,p,ys,[],ds,[],rfl,rfl,SqL.of (sp _ _ (s _ _ hl)),SqL.of au,sp.dats (s.dats hd),Dats.nil,n1,rfl,dp,q _ _ sp (Dat.blI _)⟩⟩
theorem qC {α:Type} {xss:List (List α)} {n:Nat} (h:xss.flatten.length ≤ n):∀ {i:Nat} {x:List α},xss[i]? = some x→(xss.take i).flatten.length + x.length ≤ n:=by
  intro i x hx
  have e:xss.take (i + 1) = xss.take i ++ [x]:=by rw [List.take_add_one,hx]; rfl
  have l:(xss.take (i + 1)).flatten.length ≤ xss.flatten.length:=by
    have z:xss = xss.take (i + 1) ++ xss.drop (i + 1):=(List.take_append_drop _ _).symm
    rw [congrArg List.flatten z,List.flatten_append,List.length_append]
    omega
  rw [e,List.flatten_append,List.length_append] at l
  simp only [List.flatten_cons,List.flatten_nil,List.append_nil] at l
  omega
def CF:D→Bool
  | .str _=>true
  | _=>false
def je:Nat→D→Bool
  | 0,_=>true
  | n + 1,c=>match c with
    | .tup [x,.tup cs]=>CF x && cs.all (je n)
    | _=>true
def Ci:D→Cl
  | .tup [.str k,.int j]=>if k = "arg" then .arg j.toNat else if k = "low" then .low j.toNat else .high j.toNat
  | .int i=>.n i
  | _=>.n 0
def bx (p:Pc):List Cl:=p.cs.map Ci
def fW (nm:Str) (ps:List Pc):Option Pc:=ps.find? fun p=>decide (p.nm = nm)
def ix:List (Option (List D))→Option (List (List D))
  | []=>some []
  | none :: _=>none
  | some x :: r=>(ix r).map (x :: ·)
def dA (f:Tr→D→Option (List D)) (ts:List Tr) (cs:List D):List (Option (List D)):=(ts.zip cs).map fun p=>f p.1 p.2
def uE:List (List D)→Option (List D)
  | [a,b,c]=>some (dF a b c)
  | _=>none
def iq (f:Tr→D→Option (List D)) (t:Tr) (cs:List D):Option (List D):=match t with
  | .pick a b d=>if cs.length = 3 then (ix (dA f [a,b,d] cs)).bind uE else none
  | _=>none
def dR (f:Tr→D→Option (List D)) (ps:List Pc) (t:Tr) (nm:Str) (cs:List D):Option (List D):=match fW nm ps with
  | none=>none
  | some p=>match bQ p.pt t with
    | none=>none
    | some g=>if g.1.length = cs.length then (ix (dA f g.1 cs)).map fun xss=>bY xss g (bx p) else none
def bL (ps:List Pc):Nat→Tr→D→Option (List D)
  | 0,_,_=>none
  | n + 1,t,c=>match ft c with
    | none=>none
    | some x=>if x.1 = "pick" then iq (bL ps n) t x.2 else dR (bL ps n) ps t x.1 x.2
theorem gA:∀ {os:List (Option (List D))},os.any Option.isNone = true→ix os = none
  | [],h=>by cases h
  | none :: os,_=>rfl
  | some x :: os,h=>by
    rw [List.any_cons] at h
    have ih:=gA (os:=os) (by simpa using h)
    show (ix os).map _ = none
    rw [ih]
    rfl
theorem jr:∀ ess:List (List D),ix (ess.map some) = some ess
  | []=>rfl
  | x :: ess=>by
    show (ix (ess.map some)).map _ = _
    rw [jr ess]
    rfl
theorem nI {f:Tr→D→Option (List D)} {ts:List Tr} {cs:List D} {k:Nat} {t:Tr} {c:D} {o:Option (List D)} (h1:ts[k]? = some t) (h2:cs[k]? = some c) (h3:(dA f ts cs)[k]? = some o):o = f t c:=by
  unfold dA at h3
  rw [List.getElem?_map,(List.getElem?_zip_eq_some (z:=(t,c))).mpr ⟨h1,h2⟩] at h3
  cases h3
  rfl
theorem nK {f:Tr→D→Option (List D)} {ts:List Tr} {cs:List D} (h:ts.length = cs.length):(dA f ts cs).length = ts.length:=by
  unfold dA
  rw [List.length_map,List.length_zip]
  omega
theorem nL {f:Tr→D→Option (List D)} (hf:∀ t c es,f t c = some es→es.length ≤ 12 * aX t):∀ {ts:List Tr} {cs:List D} {ess:List (List D)},ts.length = cs.length→dA f ts cs = ess.map some→ess.flatten.length ≤ 12 * (ts.map aX).sum
  | [],[],ess,_,h=>by
    have:ess = []:=by cases ess with | nil=>rfl | cons _ _=>cases h
    subst this
    simp
  | t :: ts,c :: cs,ess,hl,h=>by
    cases ess with
    | nil=>cases h
    | cons x ess =>
      have h':f t c :: dA f ts cs = some x :: ess.map some:=h
      injection h' with h1 h2
      have i1:=hf t c x h1
      have i2:=nL hf (ts:=ts) (cs:=cs) (by simpa using hl) h2
      rw [List.flatten_cons,List.length_append,List.map_cons,List.sum_cons]
      omega
  | [],c :: cs,_,h,_=>by simp at h
  | t :: ts,[],_,h,_=>by simp at h
end
end My
end
section
namespace My
open PySem L2 PyProof.Rows
section
variable {P:Program} {w:World} {K:PySem.W.Frag} {mg:Str→Option Value} {base:Heap} {k:Nat}
structure qB (ps:List Pc):Prop where
  ls:wM ps
  cl:∀ p ∈ ps,zN p (bx p)
theorem oB:∀ (p:Pa) (t:Tr) (f:Fnd),bQ p t = some f→(f.1.map aX).sum ≤ aX t∧(kj p = true→(f.1.map aX).sum + 1 ≤ aX t)
  | .hole i,t,f,h=>by cases h; exact ⟨by simp,fun z=>nomatch z⟩
  | .gap i m,t,f,h=>by
    cases t with
    | num n =>
      have h':(if n ≤ m then some ([],[n],[]) else none:Option Fnd) = some f:=h
      by_cases z:n ≤ m
      · rw [if_pos z] at h'; cases h'; exact ⟨by simp,fun _=>by simp [aX]⟩
      · rw [if_neg z] at h'; cases h'
    | _=>cases h
  | .slot i,t,f,h=>by
    cases t with
    | arg n=>cases h; exact ⟨by simp,fun _=>by simp [aX]⟩
    | _=>cases h
  | .num m,t,f,h=>by
    cases t with
    | num n =>
      have h':(if n = m then some ([],[],[]) else none:Option Fnd) = some f:=h
      by_cases z:n = m
      · rw [if_pos z] at h'; cases h'; exact ⟨by simp,fun _=>by simp [aX]⟩
      · rw [if_neg z] at h'; cases h'
    | _=>cases h
  | .two o a b,t,f,h=>by
    cases t with
    | two o' u v =>
      obtain ⟨_,f1,f2,e1,e2,e3⟩:=cZ h
      subst e3
      have h1:=(oB a u f1 e1).1
      have h2:=(oB b v f2 e2).1
      have e:((f1.1 ++ f2.1).map aX).sum = (f1.1.map aX).sum + (f2.1.map aX).sum:=by simp
      refine ⟨?_,fun _=>?_⟩
      · show ((f1.1 ++ f2.1).map aX).sum ≤ _; simp only [aX]; omega
      · show ((f1.1 ++ f2.1).map aX).sum + 1 ≤ _; simp only [aX]; omega
    | _=>cases h
theorem eM {nm:Str} {ps:List Pc} {p:Pc} (h:fW nm ps = some p):p ∈ ps∧p.nm = nm:=by
  unfold fW at h
  have h0:decide (p.nm = nm) = true:=List.find?_some (p:=fun p:Pc=>decide (p.nm = nm)) h
  exact ⟨List.mem_of_find?_eq_some h,of_decide_eq_true h0⟩
theorem rO {nm:Str} {ps:List Pc} (h:fW nm ps = none):∀ p ∈ ps,p.nm ≠ nm:=fun p hp e=>by
  unfold fW at h
  rw [List.find?_eq_none] at h
  exact absurd (decide_eq_true e) (h p hp)
theorem gZ {f:Tr→D→Option (List D)} {ps:List Pc} {t:Tr} {nm:Str} {cs es:List D} (h:dR f ps t nm cs = some es):∃ p g ess,fW nm ps = some p∧bQ p.pt t = some g∧g.1.length = cs.length∧dA f g.1 cs = ess.map some∧es = bY ess g (bx p):=by
  unfold dR at h
  cases e1:fW nm ps with
  | none=>rw [e1] at h; cases h
  | some p =>
    rw [e1] at h
    dsimp only at h
    cases e2:bQ p.pt t with
    | none=>rw [e2] at h; cases h
    | some g =>
      rw [e2] at h
      dsimp only at h
      by_cases hl:g.1.length = cs.length
      · rw [if_pos hl] at h
        cases ha:(dA f g.1 cs).any Option.isNone with
        | true=>rw [gA ha] at h; cases h
        | false =>
          obtain ⟨ess,e⟩:=iK ha
          rw [e,jr] at h
          cases h
          exact ⟨p,g,ess,rfl,e2,hl,e,rfl⟩
      · rw [if_neg hl] at h; cases h
theorem g9 {f:Tr→D→Option (List D)} {t:Tr} {cs es:List D} (h:iq f t cs = some es):∃ a b d ca cb cd xa xb xd,t = .pick a b d∧cs = [ca,cb,cd]∧f a ca = some xa∧f b cb = some xb∧f d cd = some xd∧es = dF xa xb xd:=by
  cases t with
  | pick a b d =>
    have h:(if cs.length = 3 then (ix (dA f [a,b,d] cs)).bind uE else none) = some es:=h
    by_cases hl:cs.length = 3
    · rw [if_pos hl] at h
      match cs,hl with
      | [ca,cb,cd],_ =>
        have e:dA f [a,b,d] [ca,cb,cd] = [f a ca,f b cb,f d cd]:=rfl
        rw [e] at h
        cases ea:f a ca with
        | none=>rw [ea] at h; cases h
        | some xa =>
          cases eb:f b cb with
          | none=>rw [ea,eb] at h; cases h
          | some xb =>
            cases ed:f d cd with
            | none=>rw [ea,eb,ed] at h; cases h
            | some xd =>
              rw [ea,eb,ed] at h
              have h:some (dF xa xb xd) = some es:=h
              cases h
              exact ⟨a,b,d,ca,cb,cd,xa,xb,xd,rfl,rfl,ea,eb,ed,rfl⟩
    · rw [if_neg hl] at h; cases h
  | _=>cases h
theorem fg {ps:List Pc} (ok:∀ p ∈ ps,xh p):∀ (n:Nat) (t:Tr) (c:D) (es:List D),bL ps n t c = some es→es.length ≤ 12 * aX t
  | 0,_,_,_,h=>by cases h
  | n + 1,t,c,es,h=>by
    have h:(match ft c with | none=>none | some x=>if x.1 = "pick" then iq (bL ps n) t x.2 else dR (bL ps n) ps t x.1 x.2) = some es:=h
    cases ec:ft c with
    | none=>rw [ec] at h; cases h
    | some x =>
      rw [ec] at h
      dsimp only at h
      by_cases hp:x.1 = "pick"
      · rw [if_pos hp] at h
        obtain ⟨a,b,d,ca,cb,cd,xa,xb,xd,rfl,_,la,lb,ld,rfl⟩:=g9 h
        have h1:=fg ok n a ca xa la
        have h2:=fg ok n b cb xb lb
        have h3:=fg ok n d cd xd ld
        have k1:=qz 8 9 xd.length
        have k2:=qz 10 11 (xb ++ cR 8 9 xd.length).length
        have j1:=wF (xd.length:Int)
        have j2:=wF ((xb ++ cR 8 9 xd.length).length:Int)
        have ll:(dF xa xb xd).length = xa.length + (cR 10 11 (xb ++ cR 8 9 xd.length).length).length + (xb.length + (cR 8 9 xd.length).length) + xd.length:=by unfold dF; simp only [List.length_append]
        simp only [aX]
        omega
      · rw [if_neg hp] at h
        obtain ⟨p,g,ess,e1,e2,hl,e,rfl⟩:=gZ h
        have okp:=ok p (eM e1).1
        have h1:=nL (fg ok n) hl e
        have h2:=(oB _ _ _ e2).2 okp.nh
        have h3:=okp.cs
        have z:(bY ess g (bx p)).length = ess.flatten.length + p.cs.length:=by unfold bY bx; rw [List.length_append,List.length_map,List.length_map]
        omega
theorem lP {p:Pa} (h:kj p = true) (a b c:Tr):bQ p (.pick a b c) = none:=by
  cases p with
  | hole i=>cases h
  | _=>rfl
theorem mr {f:Tr→D→Option (List D)} {g:Tr→D→Bool} (h:∀ t c,g t c = (f t c).isSome):∀ (ts:List Tr) (cs:List D),(kN g ts cs).all id = !(dA f ts cs).any Option.isNone
  | [],cs=>by cases cs <;> rfl
  | t :: ts,[]=>rfl
  | t :: ts,c :: cs=>by
    have ih:=mr h ts cs
    show (id (g t c) && (kN g ts cs).all id) = !((f t c).isNone || (dA f ts cs).any Option.isNone)
    rw [ih,id,h t c]
    cases f t c <;> cases (dA f ts cs).any Option.isNone <;> rfl
theorem kD (os:List (Option (List D))):(ix os).isSome = !os.any Option.isNone:=by
  cases h:os.any Option.isNone with
  | true=>rw [gA h]; rfl
  | false=>obtain ⟨ess,rfl⟩:=iK h; rw [jr]; rfl
theorem yl {ps:List Pc} {t:Tr} (hpk:i9 t = false) (nd:(ps.map (·.nm)).Nodup) (nm:Str):(gy ps t).find? (fun w=>decide (w.nm = nm)) = (fW nm ps).bind (gD t):=by
  unfold gy fW
  rw [if_neg (by rw [hpk]; exact Bool.false_ne_true)]
  induction ps with
  | nil=>rfl
  | cons p ps ih =>
    rw [List.map_cons,List.nodup_cons] at nd
    have ih:=ih nd.2
    by_cases e:p.nm = nm
    · have hn:ps.find? (fun p=>decide (p.nm = nm)) = none:=by
        rw [List.find?_eq_none]
        intro q hq z
        exact nd.1 (List.mem_map.mpr ⟨q,hq,by rw [e]; exact of_decide_eq_true z⟩)
      rw [hn] at ih
      rw [List.find?_cons,decide_eq_true e]
      show _ = gD t p
      rw [List.filterMap_cons]
      cases hf:gD t p with
      | none=>exact ih
      | some w =>
        have ew:w.nm = nm:=by
          unfold gD at hf
          cases hg:bQ p.pt t with
          | none=>rw [hg] at hf; cases hf
          | some g=>rw [hg] at hf; cases hf; exact e
        show List.find? _ (w :: _) = _
        rw [List.find?_cons,decide_eq_true ew]
    · rw [List.find?_cons,decide_eq_false e]
      show _ = (ps.find? fun p=>decide (p.nm = nm)).bind (gD t)
      rw [← ih,List.filterMap_cons]
      cases hf:gD t p with
      | none=>rfl
      | some w =>
        have ew:¬ w.nm = nm:=by
          unfold gD at hf
          cases hg:bQ p.pt t with
          | none=>rw [hg] at hf; cases hf
          | some g=>rw [hg] at hf; cases hf; exact e
        show List.find? _ (w :: _) = _
        rw [List.find?_cons,decide_eq_false ew]
theorem kU {ps:List Pc} (nd:(ps.map (·.nm)).Nodup) (ok:∀ p ∈ ps,xh p):∀ (n:Nat) (t:Tr) (c:D),gx ps n t c = (bL ps n t c).isSome
  | 0,_,_=>rfl
  | n + 1,t,c=>by
    show (match ft c with | none=>false | some x=>match (gy ps t).find? fun w=>decide (w.nm = x.1) with | none=>false | some w=>jv (gx ps n) w.ts x.2) = (match ft c with | none=>none | some x=>if x.1 = "pick" then iq (bL ps n) t x.2 else dR (bL ps n) ps t x.1 x.2).isSome
    cases ec:ft c with
    | none=>rfl
    | some x =>
      obtain ⟨nm,cs⟩:=x
      dsimp only
      have ih:=kU nd ok n
      by_cases hpk:i9 t = true
      · cases t with
        | pick a b d =>
          rw [yn,List.find?_cons]
          by_cases hp:nm = "pick"
          · subst hp
            rw [decide_eq_true rfl,if_pos rfl]
            show jv (gx ps n) [a,b,d] cs = (if cs.length = 3 then (ix (dA (bL ps n) [a,b,d] cs)).bind uE else none).isSome
            unfold jv
            rw [mr ih]
            by_cases hl:cs.length = 3
            · rw [if_pos hl,decide_eq_true (show [a,b,d].length = cs.length by rw [hl]; rfl),Bool.true_and,← kD]
              match cs,hl with
              | [ca,cb,cd],_ =>
                show (ix [bL ps n a ca,bL ps n b cb,bL ps n d cd]).isSome = ((ix [bL ps n a ca,bL ps n b cb,bL ps n d cd]).bind uE).isSome
                cases bL ps n a ca <;> cases bL ps n b cb <;> cases bL ps n d cd <;> rfl
            · rw [if_neg hl,decide_eq_false (fun z=>hl (by rw [← z]; rfl))]
              rfl
          · rw [decide_eq_false (fun z=>hp z.symm),if_neg hp]
            show false = (dR (bL ps n) ps (.pick a b d) nm cs).isSome
            unfold dR
            cases e1:fW nm ps with
            | none=>rfl
            | some p=>dsimp only; rw [lP (ok p (eM e1).1).nh]; rfl
        | _=>cases hpk
      · have hpk:i9 t = false:=by simpa using hpk
        rw [yl hpk nd]
        by_cases hp:nm = "pick"
        · rw [if_pos hp]
          have hn:fW nm ps = none:=by
            cases e1:fW nm ps with
            | none=>rfl
            | some p=>have z:=eM e1; exact absurd (z.2.trans hp) (ok p z.1).nm
          rw [hn]
          cases t with
          | pick a b d=>cases hpk
          | _=>rfl
        · rw [if_neg hp]
          unfold dR
          cases e1:fW nm ps with
          | none=>rfl
          | some p =>
            show (match gD t p with | none=>false | some w=>jv (gx ps n) w.ts cs) = _
            dsimp only
            unfold gD
            cases e2:bQ p.pt t with
            | none=>rfl
            | some g =>
              show jv (gx ps n) g.1 cs = (if g.1.length = cs.length then (ix (dA (bL ps n) g.1 cs)).map (fun xss=>bY xss g (bx p)) else none).isSome
              unfold jv
              rw [mr ih]
              by_cases hl:g.1.length = cs.length
              · rw [if_pos hl,decide_eq_true hl,Bool.true_and,← kD,Option.isSome_map]
              · rw [if_neg hl,decide_eq_false hl]
                rfl
end
end My
end
section
namespace My
open PySem L2 PyProof.Rows
section
variable {P:Program} {w:World} {K:PySem.W.Frag} {mg:Str→Option Value} {base:Heap} {k:Nat}
def i0 (n:Nat) (as:List Ar) (o:Option (List D)):Prop:=∃ (ps:List Pc) (t:Tr) (c:D),as = [.d (toD t),.l (ps.map pcD),.d c]∧iG ps∧qB ps∧okT t∧bf t ≤ n∧n ≤ 8∧aX t ≤ 40∧je n c = true∧o = bL ps n t c
def AE (c:D):Bool:=!jc c "tuple" || (match c with | .tup ds=>!decide ((ds.length:Int) = 2) || !jc (ds.getD 1 .non) "tuple" | _=>true)
theorem pY {n:Nat} (c:D) (h:je (n + 1) c = true):AE c = (ft c).isNone:=by
  unfold AE
  match c,h with
  | .tup [.str nm,.tup cs],_=>rfl
  | .tup [],_=>rfl
  | .tup [x],_=>cases x <;> rfl
  | .tup (x :: y :: z :: r),_ =>
    have e:(ft (.tup (x :: y :: z :: r))).isNone = true:=by cases x <;> cases y <;> rfl
    rw [e]
    show (false || (!decide (((x :: y :: z :: r).length:Int) = 2) || _)) = true
    have d:decide (((x :: y :: z :: r).length:Int) = 2) = false:=decide_eq_false (by simp only [List.length_cons]; omega)
    rw [d]
    rfl
  | .tup [x,.non],_=>cases x <;> rfl
  | .tup [x,.bl _],_=>cases x <;> rfl
  | .tup [x,.int _],_=>cases x <;> rfl
  | .tup [x,.str _],_=>cases x <;> rfl
  | .tup [x,.lst],_=>cases x <;> rfl
  | .tup [.non,.tup cs],h=>cases h
  | .tup [.bl _,.tup cs],h=>cases h
  | .tup [.int _,.tup cs],h=>cases h
  | .tup [.tup _,.tup cs],h=>cases h
  | .tup [.lst,.tup cs],h=>cases h
  | .non,_=>rfl
  | .bl _,_=>rfl
  | .int _,_=>rfl
  | .str _,_=>rfl
  | .lst,_=>rfl
theorem ni {c:D} {x:Str × List D} (h:ft c = some x):c = .tup [.str x.1,.tup x.2]:=by
  unfold ft at h
  split at h
  · cases h; rfl
  · cases h
theorem yW {n:Nat} {nm:Str} {cs:List D} (h:je (n + 1) (.tup [.str nm,.tup cs]) = true):∀ c ∈ cs,je n c = true:=fun c hc=>by
  have h:(true && cs.all (je n)) = true:=h
  rw [Bool.true_and] at h
  exact List.all_eq_true.mp h c hc
theorem qK (T:Txt P w K mg) {n:Nat} (GJ:FnOk P w K mg base CX0 k T.EE T.EG ["_law_tree_here","_law_some","_law_cover"] (va K (i0 n))) (Ig:FnOk P w K mg base CX0 k T.Fp T.Fv ["_law_near","_law_far","_law_cells"] (kC K nZ)) (E5:FnOk P w K mg base CX0 k T.D6 T.Eb ["_law_pattern","_law_tree_here","_law_found"] (iJ K oL 3)) (Jm:FnOk P w K mg base CX0 k T.Fo T.Fu ["_law_cells","_law_nums","_law_ks"] (jk K rE)):FnOk P w K mg base CX0 (k + 1) T.EE T.EG ["_law_tree_here","_law_some","_law_cover"] (va K (i0 (n + 1))):=by
  refine T.Fe.ok sc__law_lay (fun vs H Q E h=>?_) (fun cdv A outer s H vs Q E hr h=>?_)
  · obtain ⟨as,o,hd,⟨ps,t,c,rfl,_⟩,_⟩:=h; exact hd.length.symm
  have nd:=sc__law_lay.nd
  obtain ⟨as,o,hd,⟨ps,t,c,rfl,okS,laS,okt,dpt,n8,szt,okc,rfl⟩,post0,post1⟩:=h
  obtain ⟨v0,v1,v2,rfl,h0,h1,h2⟩:=n6 hd
  have h0:Dat K H (toD t) v0:=h0
  have h1:LD K H (ps.map pcD) v1:=h1
  have h2:Dat K H c v2:=h2
  refine ⟨_,(aq (bu (PW.pt (cW (bM (br (aH (cC fM) rfl T.CJ aQ (aV (pv 2) (aV (dj (v:=.ty "tuple") rfl T.DT cA rfl) ag))) (fun _=>rfl))) (cW (aP gF (aH aR rfl T.C1 bI (aj (pv 2) ag)) ak (aU _)) (dm (bM (br (aH (cC fM) rfl T.CJ aQ (aV (aG aE (pv 2) ak (fun _ _=>rfl)) (aV (dj (v:=.ty "tuple") rfl T.DT cA rfl) ag))) (fun _=>rfl))))))) (ay (aL fw)) aS)
  (aq (bu (aP bV (aG aE (pv 2) ak (fun _ _=>rfl)) aM (aU _)) (aq (bu (PW.pt (cW (aP gF (aG aE (pv 0) ak (fun _ _=>rfl)) aM (aU _)) (dm (aP gF (aH aR rfl T.C1 bI (aj (aG aE (pv 2) ak (fun _ _=>rfl)) ag)) ak (aU _))))) (ay (aL fw)) aS)
  (aq (hW (i:=3) (own:=["_law_one","_law_inner"]) (fr:=[1]) (N':=["_law_one","_law_inner","_law_some"]) (o5 rfl T.IV (aj (eA ji (pv 0) (eE ak) fZ) (aj (aG aE (pv 2) ak (fun _ _=>rfl)) ag))) rfl (by show cm ["_law_tree_here","_law_some","_law_cover","_law_three","_law_last","_law_named","_law_found","_law_holes","_law_made","_law_cells"] (fun x=>(aB d6).names.lookup x) _ _ _ _ = true; decide +kernel) rfl (fun _ _ _ _ _=>(kY (K:=K) (n:=2) rfl rfl (bg (aW (i:=0) (by show List.Nodup [("_law_one":Str),("_law_inner":Str),("_law_some":Str)]; decide +kernel) rfl (Or.inl rfl)) (bg (aW (i:=1) (by show List.Nodup [("_law_one":Str),("_law_inner":Str),("_law_some":Str)]; decide +kernel) rfl (Or.inl rfl)) cG)))) (fun _ _ _ _ _=>b9) (fun _ _ _ _ _=>(aF GJ hr rfl T.GQ T.Fe.kp (i6 T) .nil aZ (aj (pv 0) (aj (pv 2) (aj (pv 1) ag))))) nd rfl rfl rfl)
  (aq (bu (aP (tR hr) fw (pv 3) (by with_unfolding_all rfl)) (ay (aL fw)) aS)
  (aq (bC (i:=4) nd rfl (Or.inl rfl) (bz dv (aG bE (pv 3) ak (fun _ _=>rfl)) (aF Ig hr rfl T.Hh T.FA.kp (kF T) .nil aZ (aj ak (aj ak (aj (aH aR rfl T.C1 bI (aj (aG bE (pv 3) ak (fun _ _=>rfl)) ag)) ag))))))
  (ay (aL (bz dv (bz dv (bz dv (aG bE (pv 3) ak (fun _ _=>rfl)) (aF Ig hr rfl T.Hh T.FA.kp (kF T) .nil aZ (aj ak (aj ak (aj (aH aR rfl T.C1 bI (aj (pv 4) ag)) ag))))) (pv 4)) (aG bE (pv 3) ak (fun _ _=>rfl))))))))) aS)
  (aq (xC (i:=5) (j:=6) rfl nd rfl rfl (by decide) rfl rfl (aj (dk (own:=["_law_piece"]) (fr:=[2]) (N':=["_law_piece","_law_cover"]) (eB (pv 1)) rfl (by show cm ["_law_tree_here","_law_some","_law_cover","_law_three","_law_last","_law_named","_law_found","_law_holes","_law_made","_law_cells"] (fun x=>(aB d6).names.lookup x) _ _ _ _ = true; decide +kernel) rfl (fun _ _ _ _ _=>(aW (i:=0) (by show List.Nodup [("_law_piece":Str),("_law_cover":Str)]; decide +kernel) rfl (Or.inl rfl))) (fun _ _ _ _ _=>(mx (aP bV (aG (r:=m5 K) aE (pv 0) ak (fun _ _=>rfl)) (aG (r:=m5 K) aE (pv 1) ak (fun _ _=>rfl)) (aU _)))) (fun _ _ _ _ _=>(pv 0))) (aj (bB (aj (bB ag) (aj (bB ag) (aj (bB ag) ag)))) ag)) (by kernel_rfl))
  (aq (bu (PW.pt (cW (aP (oY hr) (pv 5) (bB ag) (aU _)) (cW (bM (br (aF E5 hr rfl T.F8 T.EH.kp (gS T) .nil aZ (aj (aG aE (aG bE (pv 5) ak (fun _ _=>rfl)) ak (fun _ _=>rfl)) (aj (pv 0) (aj (pv 6) ag)))) (fun _=>rfl))) (dm (aP gF (aH aR rfl T.C1 bI (aj (aG bE (pv 6) ak (fun _ _=>rfl)) ag)) (aH aR rfl T.C1 bI (aj (aG aE (pv 2) ak (fun _ _=>rfl)) ag)) (aU _)))))) (ay (aL fw)) aS)
  (aq (hW (i:=7) (own:=["_law_one","_law_inner"]) (fr:=[1]) (N':=["_law_one","_law_inner","_law_some"]) (zj rfl T.IV (aj (aG bE (pv 6) ak (fun _ _=>rfl)) (aj (aG aE (pv 2) ak (fun _ _=>rfl)) ag))) rfl (by show cm ["_law_tree_here","_law_some","_law_cover","_law_three","_law_last","_law_named","_law_found","_law_holes","_law_made","_law_cells"] (fun x=>(aB d6).names.lookup x) _ _ _ _ = true; decide +kernel) rfl (fun _ _ _ _ _=>(kY (K:=K) (n:=2) rfl rfl (bg (aW (i:=0) (by show List.Nodup [("_law_one":Str),("_law_inner":Str),("_law_some":Str)]; decide +kernel) rfl (Or.inl rfl)) (bg (aW (i:=1) (by show List.Nodup [("_law_one":Str),("_law_inner":Str),("_law_some":Str)]; decide +kernel) rfl (Or.inl rfl)) cG)))) (fun _ _ _ _ _=>b9) (fun _ _ _ _ _=>(aF GJ hr rfl T.GQ T.Fe.kp (i6 T) .nil aZ (aj (pv 0) (aj (pv 2) (aj (pv 1) ag))))) nd rfl rfl rfl)
  (aq (bu (aP (tR hr) fw (pv 7) (by with_unfolding_all rfl)) (ay (aL fw)) aS)
  (aq (bC (i:=8) nd rfl (Or.inl rfl) (bB ag))
  (aq (jh PassesOwn.never rfl (eB (pv 7)) (aW (i:=9) nd rfl (Or.inl rfl)) (ay (bC (i:=8) nd rfl (Or.inl rfl) (bz dv (pv 8) (pv 9)))))
  (ay (aL (bz dv (pv 8) (aF Jm hr rfl T.Ii T.Ge.kp (pQ T) .nil aZ (aj (aG aE (aG bE (pv 5) ak (fun _ _=>rfl)) ak (fun _ _=>rfl)) (aj (aG bE (pv 6) ak (fun _ _=>rfl)) (aj (aG bE (pv 6) ak (fun _ _=>rfl)) ag))))))))))))))),?_⟩
  refine aN (K:=K) (b:=AE c) ?_ (fun cn H1 s1=>?_) (fun cs H1 s1=>?_)
  · cases c with
    | tup ds =>
      by_cases hl:(ds.length:Int) = 2
      · obtain ⟨x,y,rfl⟩:∃ x y,ds = [x,y]:=by
          match ds,hl with
          | [x,y],_=>exact ⟨x,y,rfl⟩
          | [],hl=>simp at hl
          | [x],hl=>simp at hl
          | x :: y :: z :: r,hl=>simp only [List.length_cons] at hl; omega
        exact RT.as (bN (bo (aO (bA (ae (k:=2) h2)))) fun _=>bN (aC (eT (cg (ae (k:=2) h2)) ao)) fun _=>bo (aO (bA (aK (k:=1) (ae (k:=2) h2) ao rfl)))) rfl
      · refine RT.as (bN (bo (aO (bA (ae (k:=2) h2)))) fun _=>bN (c:=true) (aC (eT (cg (ae (k:=2) h2)) ao)) fun z=>?_) ?_
        · rw [decide_eq_false hl] at z; cases z
        · show (false || (!decide ((ds.length:Int) = 2) || true)) = (false || (!decide ((ds.length:Int) = 2) || _))
          rw [decide_eq_false hl]
          rfl
    | non=>exact RT.as (bN (c:=true) (bo (aO (bA (ae (k:=2) h2)))) fun z=>nomatch z) rfl
    | bl y=>exact RT.as (bN (c:=true) (bo (aO (bA (ae (k:=2) h2)))) fun z=>nomatch z) rfl
    | int i=>exact RT.as (bN (c:=true) (bo (aO (bA (ae (k:=2) h2)))) fun z=>nomatch z) rfl
    | str y=>exact RT.as (bN (c:=true) (bo (aO (bA (ae (k:=2) h2)))) fun z=>nomatch z) rfl
    | lst=>exact RT.as (bN (c:=true) (bo (aO (bA (ae (k:=2) h2)))) fun z=>nomatch z) rfl
  · rw [pY c okc] at cn
    have e:ft c = none:=by cases e:ft c with | none=>rfl | some _=>rw [e] at cn; cases cn
    have e0:bL ps (n + 1) t c = none:=by
      show (match ft c with | none=>none | some x=>_) = none
      rw [e]
    exact bc (K:=K) (d:=.non) hZ fun v G s q=>by rw [q.nonE]; exact post0 e0 G (s1.trans s)
  rw [pY c okc] at cs
  obtain ⟨nm,cv,rfl⟩:∃ nm cv,c = .tup [.str nm,.tup cv]:=by
    cases e:ft c with
    | none=>rw [e] at cs; cases cs
    | some x=>exact ⟨x.1,x.2,ni e⟩
  have eL:bL ps (n + 1) t (.tup [.str nm,.tup cv]) = if nm = "pick" then iq (bL ps n) t cv else dR (bL ps n) ps t nm cv:=rfl
  have okcs:=yW okc
  rw [eL] at post0 post1
  have l900:∀ es,(if nm = "pick" then iq (bL ps n) t cv else dR (bL ps n) ps t nm cv) = some es→es.length ≤ 900:=fun es e=>by
    rw [← eL] at e
    have:=fg okS.ok (n + 1) t _ es e
    omega
  by_cases hp:nm = "pick"
  · subst hp
    rw [if_pos rfl] at post0 post1 l900
    refine aN (K:=K) (b:=true) (RT.as (aC (bj (aK (k:=0) (ae (k:=2) (s1.dat h2)) ao rfl) aI)) (decide_eq_true rfl)) (fun _ H2 s2=>?_) (fun c=>nomatch c)
    have s12:=s1.trans s2
    obtain ⟨kd,r,ek,hpk,hcall,hkids⟩:=tH t okt
    have h0':Dat K H (.tup (.str kd :: r)) v0:=by rw [← ek]; exact h0
    have t1:RT (rn (tOp rNe (tOp (m5 K) (dJ 0) (tC (.int 0))) (tC (.str "pick")))) (cX ["_law_tree_here","_law_some","_law_cover","_law_three","_law_last","_law_named","_law_found","_law_holes","_law_made","_law_cells"] [v0,v1,v2]) H2 (!i9 t):=RT.as (aC (ph (aK (k:=0) (ae (k:=0) (s12.dat h0')) ao rfl) aI)) (by rw [hpk])
    have t2:RT (rn (tOp rNe (tCB (fun xs H Q=>∃ p ys,xs = [.ref p]∧(SqL K H p ys∨SqT K H p ys)∧Q (.int ys.length) H) (bD (tOp (m5 K) (dJ 2) (tC (.int 1))) dt)) (tC (.int 3)))) (cX ["_law_tree_here","_law_some","_law_cover","_law_three","_law_last","_law_named","_law_found","_law_holes","_law_made","_law_cells"] [v0,v1,v2]) H2 (!decide ((cv.length:Int) = 3)):=aC (eT (cg (aK (k:=1) (ae (k:=2) (s12.dat h2)) ao rfl)) ao)
    by_cases hpt:i9 t = true
    · cases t with
      | pick a b d =>
        have h0:Dat K H (.tup [.str "pick",toD a,toD b,toD d]) v0:=h0
        by_cases h3:cv.length = 3
        · match cv,h3 with
          | [ca,cb,cd],_ =>
            refine aN (K:=K) (b:=false) (RT.as (bN (RT.as t1 (c:=false) rfl) fun _=>t2) rfl) (fun c=>nomatch c) (fun _ H3 s3=>?_)
            have s13:=s12.trans s3
            have da:bf a ≤ n:=by simp only [bf] at dpt; omega
            have db:bf b ≤ n:=by simp only [bf] at dpt; omega
            have dd:bf d ≤ n:=by simp only [bf] at dpt; omega
            have za:aX a ≤ 40:=by simp only [aX] at szt; omega
            have zb:aX b ≤ 40:=by simp only [aX] at szt; omega
            have zd:aX d ≤ 40:=by simp only [aX] at szt; omega
            refine cJ (RCO.use (K:=K) (zu (cs:=[toD a,toD b,toD d]) (ds:=[ca,cb,cd]) (af (gI (ae (k:=0) (s13.dat h0))) (af (aK (k:=1) (ae (k:=2) (s13.dat h2)) ao rfl) aA)) rfl (by simp) [bL ps n a ca,bL ps n b cb,bL ps n d cd] rfl (by decide) rfl (fun G j x y z v w sG hx hy hz hv hw=>?_)) fun l ys H4 hl s4 hy dy=>?_)
            · have hL:=(s13.trans sG).ld h1
              match j,hx,hy,hz with
              | 0,hx,hy,hz=>cases hx; cases hy; cases hz; exact iI (R:=i0 n) (dn (ae (k:=0) hv) (dP (bh (k:=2) hL) (dn (ae (k:=1) hw) b0))) ⟨ps,a,ca,rfl,okS,laS,okt.1,da,by omega,za,okcs _ (by simp),rfl⟩
              | 1,hx,hy,hz=>cases hx; cases hy; cases hz; exact iI (R:=i0 n) (dn (ae (k:=0) hv) (dP (bh (k:=2) hL) (dn (ae (k:=1) hw) b0))) ⟨ps,b,cb,rfl,okS,laS,okt.2.1,db,by omega,zb,okcs _ (by simp),rfl⟩
              | 2,hx,hy,hz=>cases hx; cases hy; cases hz; exact iI (R:=i0 n) (dn (ae (k:=0) hv) (dP (bh (k:=2) hL) (dn (ae (k:=1) hw) b0))) ⟨ps,d,cd,rfl,okS,laS,okt.2.2,dd,by omega,zd,okcs _ (by simp),rfl⟩
              | j + 3,hx,hy,hz=>cases hx
            have s14:=s13.trans s4
            have e3:iq (bL ps n) (.pick a b d) [ca,cb,cd] = (ix [bL ps n a ca,bL ps n b cb,bL ps n d cd]).bind uE:=rfl
            rw [e3] at post0 post1 l900
            generalize bL ps n a ca = oa at dy post0 post1 l900
            generalize bL ps n b cb = ob at dy post0 post1 l900
            generalize bL ps n d cd = od at dy post0 post1 l900
            refine aN (K:=K) (b:=[oa,ob,od].any Option.isNone) (aC (tX (k:=3) hy dy)) (fun cN H5 s5=>?_) (fun cS H5 s5=>?_)
            · have e0:(ix [oa,ob,od]).bind uE = none:=by rw [gA cN]; rfl
              exact bc (K:=K) (d:=.non) hZ fun v G s q=>by rw [q.nonE]; exact post0 e0 G ((s14.trans s5).trans s)
            · cases oa with
              | none=>cases cS
              | some xa =>
                cases ob with
                | none=>cases cS
                | some xb =>
                  cases od with
                  | none=>cases cS
                  | some xd =>
                    have dy:LDs K H4 [xa,xb,xd] ys:=LOs.all dy
                    have l900:(dF xa xb xd).length ≤ 900:=l900 _ rfl
                    have ll:(dF xa xb xd).length = xa.length + (cR 10 11 (xb ++ cR 8 9 xd.length).length).length + (xb.length + (cR 8 9 xd.length).length) + xd.length:=by unfold dF; simp only [List.length_append]
                    have post1:∀ es,some (dF xa xb xd) = some es→_:=post1
                    have hy5:=s5 _ _ hy
                    have dy5:=s5.lds dy
                    refine h9 (K:=K) (es:=xb ++ cR 8 9 xd.length) (dB (lq (k:=3) (j:=1) hy5 dy5 ao rfl) (gd (iN (R:=nZ) (af ao (af ao (af (gb (lq (k:=3) (j:=2) (es:=xd) hy5 dy5 ao rfl)) aA))) ⟨8,9,_,rfl,rfl⟩)) (by show xb.length + (cR 8 9 xd.length).length ≤ 1000; omega)) fun l2 zs H6 hl2 s6 hz dz=>?_
                    have hy6:=s6 _ _ hy5
                    have dy6:=s6.lds dy5
                    have hL6:LD K H6 (xb ++ cR 8 9 xd.length) (.ref l2):=LD.of hz dz
                    have lx:(xb ++ cR 8 9 xd.length).length = xb.length + (cR 8 9 xd.length).length:=List.length_append
                    refine dS (RC.use (K:=K) (es:=dF xa xb xd) (dB (gd (dB (gd (dB (lq (k:=3) (j:=0) hy6 dy6 ao rfl) (gd (iN (R:=nZ) (af ao (af ao (af (gb (bh (k:=4) hL6)) aA))) ⟨10,11,_,rfl,rfl⟩)) (by show xa.length + (cR 10 11 _).length ≤ 1000; omega))) (bh (k:=4) hL6) ?_)) (lq (k:=3) (j:=2) hy6 dy6 ao rfl) ?_) fun l3 us H7 hl3 s7 hu du=>post1 _ rfl l3 us H7 (s14.trans (s5.trans (s6.trans s7))) hu ((s14.trans (s5.trans s6)).free hl3) du)
                    · show (xa ++ cR 10 11 (xb ++ cR 8 9 xd.length).length).length + (xb ++ cR 8 9 xd.length).length ≤ 1000
                      have e1:(xa ++ cR 10 11 (xb ++ cR 8 9 xd.length).length).length = xa.length + (cR 10 11 (xb ++ cR 8 9 xd.length).length).length:=List.length_append
                      omega
                    · show (xa ++ cR 10 11 (xb ++ cR 8 9 xd.length).length ++ (xb ++ cR 8 9 xd.length)).length + xd.length ≤ 1000
                      have e1:(xa ++ cR 10 11 (xb ++ cR 8 9 xd.length).length).length = xa.length + (cR 10 11 (xb ++ cR 8 9 xd.length).length).length:=List.length_append
                      have e2:(xa ++ cR 10 11 (xb ++ cR 8 9 xd.length).length ++ (xb ++ cR 8 9 xd.length)).length = (xa ++ cR 10 11 (xb ++ cR 8 9 xd.length).length).length + (xb ++ cR 8 9 xd.length).length:=List.length_append
                      omega
        · refine aN (K:=K) (b:=true) (RT.as (bN (RT.as t1 (c:=false) rfl) fun _=>t2) (by rw [decide_eq_false (by omega)]; rfl)) (fun _ H3 s3=>?_) (fun c=>nomatch c)
          have e0:iq (bL ps n) (.pick a b d) cv = none:=by
            show (if cv.length = 3 then _ else none) = none
            rw [if_neg h3]
          exact bc (K:=K) (d:=.non) hZ fun v G s q=>by rw [q.nonE]; exact post0 e0 G ((s12.trans s3).trans s)
      | _=>cases hpt
    · have hpt:i9 t = false:=by simpa using hpt
      refine aN (K:=K) (b:=true) (RT.as (bN (c:=true) (RT.as t1 (c:=true) (by rw [hpt]; rfl)) fun z=>nomatch z) rfl) (fun _ H3 s3=>?_) (fun c=>nomatch c)
      have e0:iq (bL ps n) t cv = none:=by
        cases t with
        | pick a b d=>cases hpt
        | _=>rfl
      exact bc (K:=K) (d:=.non) hZ fun v G s q=>by rw [q.nonE]; exact post0 e0 G ((s12.trans s3).trans s)
  · rw [if_neg hp] at post0 post1 l900
    refine aN (K:=K) (b:=false) (RT.as (aC (bj (aK (k:=0) (ae (k:=2) (s1.dat h2)) ao rfl) aI)) (decide_eq_false hp)) (fun c=>nomatch c) (fun _ H2 s2=>?_)
    have s12:=s1.trans s2
    have few:=okS.few
    refine cO (bS (RC.use (K:=K) (tW (bh (k:=1) (s12.ld h1)) (by rw [List.length_map]; omega) (wR nm) rfl (fun G j c v sG hc hv=>?_)) fun l ys H3 hl s3 hy dy=>bS (xK fun fa l0 l1 l2 H4 N=>⟨_,_,rfl,?_⟩)))
    · rw [List.getElem?_map] at hc
      cases hq:ps[j]? with
      | none=>rw [hq] at hc; cases hc
      | some q =>
        rw [hq] at hc
        cases hc
        exact ⟨aC (bj (aK (k:=0) (ae (k:=0) (show Dat K G (.tup [.str q.nm,toP q.pt,.tup q.cs]) v from hv)) ao rfl) (aK (k:=0) (ae (k:=1) ((s12.trans sG).dat h2)) ao rfl)),ae (k:=0) hv⟩
    have s14:=(s12.trans s3).trans N.s
    have hy4:=N.s _ _ hy
    have dy4:=N.s.dats dy
    cases hf:fW nm ps with
    | none =>
      rw [j6 (rO hf)] at dy4
      have e0:dR (bL ps n) ps t nm cv = none:=by unfold dR; rw [hf]
      refine cO (RT.use (b:=true) (RT.as (aC (qZ (K:=K) (k:=5) hy4 dy4 (by simp [di]) (by simp [bP]))) tw) fun H5 s5=>jH (jH ?_))
      exact bc (K:=K) (d:=.non) hZ fun v G s q=>by rw [q.nonE]; exact post0 e0 G ((s14.trans s5).trans s)
    | some p =>
      obtain ⟨hp',hnm⟩:=eM hf
      subst hnm
      have okp:=okS.ok p hp'
      have hcl:=laS.cl p hp'
      rw [lN laS.ls.nd hp'] at dy dy4
      have hn4:LD K H4 [pcD p] (.ref l):=LD.of hy4 dy4
      have pl:=laS.ls.nl p hp'
      refine cO (RT.use (b:=false) (RT.as (aC (qZ (K:=K) (k:=5) hy4 dy4 (by simp [di,pl.1]) (by simp only [bP]; omega))) (tu _ _)) fun H5 s5=>kR ?_)
      have N5:=N.mono s5
      have s15:=s14.trans s5
      refine Aa (K:=K) (j:=6) N5 okp.ok okt (by omega) okp.dp (aK (ds:=[.str p.nm,toP p.pt,.tup p.cs]) (k:=1) (kq (k:=0) (bh (k:=5) (s5.ld hn4)) ao rfl) ao rfl) (ae (k:=0) (s15.dat h0)) fun H6 s6 full=>?_
      have hz6:Same H H6:=(s12.trans s3).trans s6
      refine ⟨_,rfl,?_⟩
      cases hft:bQ p.pt t with
      | none =>
        have e0:dR (bL ps n) ps t p.nm cv = none:=by unfold dR; rw [hf]; dsimp only; rw [hft]
        refine jH (jH ?_)
        exact bc (K:=K) (d:=.non) hZ fun v G s q=>by rw [q.nonE]; exact post0 e0 G (hz6.trans s)
      | some f =>
        refine kR ?_
        have F6:=full f hft
        have hn6:LD K H6 [pcD p] (.ref l):=s6.ld (LD.of hy dy)
        have few8:f.1.length ≤ 8:=by
          by_cases hpk:i9 t = true
          · cases t with
            | pick a b c=>rw [lP okp.nh] at hft; cases hft
            | _=>cases hpk
          · have hw:=ym (ps:=ps) hp' (by simpa using hpk) hft
            exact (sO okS.ok hw).1
        have h26:=hz6.dat h2
        by_cases lt:f.1.length = cv.length
        · have eP:dR (bL ps n) ps t p.nm cv = (ix (dA (bL ps n) f.1 cv)).map fun xss=>bY xss f (bx p):=by unfold dR; rw [hf]; dsimp only; rw [hft]; dsimp only; rw [if_pos lt]
          rw [eP] at post0 post1 l900
          refine RT.use (b:=false) (RT.as (aC (eT (gb (rg (K:=K) (k:=6) (v:=0) F6.hf F6.h0 ao rfl)) (cg (aK (k:=1) (ae (k:=2) h26) ao rfl)))) (by rw [List.length_map,lt,decide_eq_true rfl]; rfl)) fun H7 s7=>kR ?_
          have F7:=F6.mono s7
          have s17:=hz6.trans s7
          refine cJ (RCO.use (K:=K) (xR (cs:=f.1.map toD) (ds:=cv) (dP (rg (k:=6) (v:=0) F7.hf F7.h0 ao rfl) (dn (aK (k:=1) (ae (k:=2) (s7.dat h26)) ao rfl) b0)) (by rw [List.length_map]; exact lt) (by rw [List.length_map]; omega) (dA (bL ps n) f.1 cv) (by rw [List.length_map]; exact nK lt) (by decide) rfl (fun G j x y z v w sG hx hy hz hv hw=>?_)) fun lh zs H8 hlh s8 hzs dzs=>?_)
          · rw [List.getElem?_map] at hx
            cases hq:f.1[j]? with
            | none=>rw [hq] at hx; cases hx
            | some u =>
              rw [hq] at hx
              cases hx
              have tail:=jB okp.nh hft u (List.mem_of_getElem? hq)
              have du:=ip tail
              exact iI (R:=i0 n) (dn (ae (k:=0) hv) (dP (bh (k:=2) ((s17.trans sG).ld h1)) (dn (ae (k:=1) hw) b0))) ⟨ps,u,y,rfl,okS,laS,eY t u okt (gO tail),by omega,by omega,by omega,okcs _ (List.mem_of_getElem? hy),nI hq hy hz⟩
          refine aN (K:=K) (b:=(dA (bL ps n) f.1 cv).any Option.isNone) (aC (tX (k:=7) hzs dzs)) (fun cN H9 s9=>?_) (fun cS H9 s9=>?_)
          · have e0:(ix (dA (bL ps n) f.1 cv)).map (fun xss=>bY xss f (bx p)) = none:=by rw [gA cN]; rfl
            exact bc (K:=K) (d:=.non) hZ fun v G s q=>by rw [q.nonE]; exact post0 e0 G ((s17.trans (s8.trans s9)).trans s)
          · obtain ⟨xss,exs⟩:=iK cS
            rw [exs] at dzs
            rw [exs,jr] at post0 post1 l900
            have dzs:LDs K H8 xss zs:=LOs.all dzs
            generalize bx p = cl at post1 l900 hcl
            have l900:(bY xss f cl).length ≤ 900:=l900 _ rfl
            have lle:xss.flatten.length + cl.length ≤ 900:=by
              have z:(bY xss f cl).length = xss.flatten.length + cl.length:=by unfold bY; rw [List.length_append,List.length_map]
              omega
            have lfl:xss.flatten.length ≤ 900:=by omega
            have post1:∀ es,some (bY xss f cl) = some es→_:=post1
            have hzs9:=s9 _ _ hzs
            have dzs9:=s9.lds dzs
            have s19:=s17.trans (s8.trans s9)
            have s79:=s8.trans s9
            refine cJ ⟨bW (by decide),fun m hm=>?_⟩
            have sm:Same H9 (upd H9 m (.lst [])):=aD hm _
            have lzs:=dzs9.length
            refine cO ⟨_,rfl,lh,rfl,⟨zs,SqL.of (sm _ _ hzs9)⟩,jD (xs:=zs) (fun i σ G=>∃ (z9:Option V) (m:Addr) (us:List V),σ = [some v0,some v1,some v2,none,none,some (.ref l),some (.ref fa),some (.ref lh),some (.ref m),z9]∧Same H9 G∧G m = some (.lst us)∧Dats K G (xss.take i).flatten us) ?_ (fun i σ G _ ⟨_,_,_,_,q,_⟩=>SqL.of (q _ _ hzs9)) ?_ ?_⟩
            · exact ⟨none,m,[],rfl,sm,au,by rw [List.take_zero]; exact Dats.nil⟩
            · rintro i vx σ G hi ⟨z9,m,us,rfl,sG,hmG,du⟩
              have hix:i < xss.length:=by rw [lzs]; exact (List.getElem?_eq_some_iff.mp hi).1
              have hx:xss[i]? = some xss[i]:=List.getElem?_eq_getElem hix
              obtain ⟨v,ev,hv⟩:=(sG.lds dzs9).get hx
              rw [hi] at ev
              cases ev
              have lz:=qC lfl hx
              refine lj ?_
              dsimp only
              refine RC.use (K:=K) (dB (bh (k:=8) (LD.of hmG du)) (bh (k:=9) hv) (by omega)) fun m2 us2 G2 hm2 s2 hu2 du2=>?_
              refine ⟨_,m2,us2,rfl,sG.trans s2,hu2,?_⟩
              rw [List.take_add_one,hx,List.flatten_append]
              simp only [Option.toList_some,List.flatten_cons,List.flatten_nil,List.append_nil]
              exact du2
            · rintro σ G ⟨z9,m,us,rfl,sG,hmG,du⟩
              rw [← lzs,List.take_length] at du
              dsimp only
              have sHG:=s19.trans sG
              have F10:=F7.mono (s79.trans sG)
              have hn10:LD K G [.tup [.str p.nm,toP p.pt,.tup (cl.map clD)]] (.ref l):=by
                have z:=(s7.trans (s79.trans sG)).ld hn6
                have e:pcD p = .tup [.str p.nm,toP p.pt,.tup (cl.map clD)]:=by unfold pcD; rw [hcl.eq]
                rw [e] at z
                exact z
              obtain ⟨g1,g2⟩:=jA _ _ _ hft
              have lcl:cl.length ≤ 12:=by have:=okp.cs; rw [hcl.eq,List.length_map] at this; exact this
              refine dS (RC.use (K:=K) (es:=bY xss f cl) (dB (bh (k:=8) (LD.of hmG du)) (gd (eF (R:=rE) (dn (aK (k:=2) (kq (k:=0) (bh (k:=5) hn10) ao rfl) ao rfl) (dP (rg (k:=6) (v:=1) F10.hf F10.h1 ao rfl) (dP (rg (k:=6) (v:=2) F10.hf F10.h2 ao rfl) b0))) ⟨cl,f.2.1,f.2.2,rfl,by rw [g1,g2]; exact hcl.ok,lcl,rfl⟩)) (by rw [List.length_map]; omega)) fun l3 ws G2 hl3 s2 hw dw=>post1 _ rfl l3 ws G2 (sHG.trans s2) hw (sHG.free hl3) dw)
        · have e0:dR (bL ps n) ps t p.nm cv = none:=by unfold dR; rw [hf]; dsimp only; rw [hft]; dsimp only; rw [if_neg lt]
          refine RT.use (b:=true) (RT.as (aC (eT (gb (rg (K:=K) (k:=6) (v:=0) F6.hf F6.h0 ao rfl)) (cg (aK (k:=1) (ae (k:=2) h26) ao rfl)))) (by rw [List.length_map,decide_eq_false (by omega)]; rfl)) fun H7 s7=>jH ?_
          exact bc (K:=K) (d:=.non) hZ fun v G s q=>by rw [q.nonE]; exact post0 e0 G ((hz6.trans s7).trans s)
end
end My
end
section
namespace My
open PySem L2 PyProof.Rows
section
variable {P:Program} {w:World} {K:PySem.W.Frag} {mg:Str→Option Value} {base:Heap} {k:Nat}
def rD (ds:List D) (d:D):Prop:=∃ (c:Cl) (nums ks:List Int),ds = [clD c,.tup (nums.map D.int),.tup (ks.map D.int)]∧gW nums.length ks.length c = true∧d = .int (kL nums ks c)
theorem mm (T:Txt P w K mg)  : FnOk P w K mg base CX0 (k + 1) T.Er T.Ew ["cell","nums","ks"] (spD K rD):=by
  refine T.Fk.ok sc_filled_cell (fun vs H Q E h=>?_) (fun cdv A outer s H vs Q E hr h=>?_)
  · obtain ⟨ds,d,hd,⟨c,nums,ks,rfl,_⟩,_⟩:=h; exact hd.length.symm
  have nd:=sc_filled_cell.nd
  obtain ⟨ds,d,hd,⟨c,nums,ks,rfl,okc,rfl⟩,post⟩:=h
  obtain ⟨v0,v1,v2,rfl,h0,h1,h2⟩:=p7 hd
  refine ⟨_,(aq (bu (br (aH (cC wy) rfl T.CJ aQ (aV (pv 0) (aV (dj (v:=.ty "int") rfl T.JJ vP rfl) ag))) (fun _=>rfl)) (ay (aL (pv 0))) aS)
  (aq (bu (aP bV (aG aE (pv 0) ak (fun _ _=>rfl)) aM (aU _)) (ay (aL (bz ef (aG aE (pv 1) (aG aE (pv 0) ak (fun _ _=>rfl)) (fun _ _=>rfl)) ak))) aS)
  (aq (bu (aP bV (aG aE (pv 0) ak (fun _ _=>rfl)) aM (aU _)) (ay (aL (bz hV (aG aE (pv 1) (aG aE (pv 0) ak (fun _ _=>rfl)) (fun _ _=>rfl)) ak))) aS)
  (ay (aL (aG aE (pv 2) (aG aE (pv 0) ak (fun _ _=>rfl)) (fun _ _=>rfl))))))),?_⟩
  cases c with
  | n j =>
    have h0:Dat K H (.int j) v0:=h0
    refine aN (K:=K) (b:=true) (aO (bA (ae (k:=0) h0))) (fun _ H1 s1=>?_) (fun c=>nomatch c)
    exact bc (K:=K) (d:=.int j) (ae (k:=0) (s1.dat h0)) fun v H2 s2 q=>post v H2 (s1.trans s2) q
  | low j =>
    have h0:Dat K H (.tup [.str "low",.int j]) v0:=h0
    have okc:=of_decide_eq_true okc
    refine aN (K:=K) (b:=false) (aO (bA (ae (k:=0) h0))) (fun c=>nomatch c) (fun _ H1 s1=>?_)
    refine aN (K:=K) (b:=true) (RT.as (aC (bj (aK (k:=0) (ae (k:=0) (s1.dat h0)) ao rfl) aI)) (decide_eq_true rfl)) (fun _ H2 s2=>?_) (fun c=>nomatch c)
    have s12:=s1.trans s2
    exact bc (K:=K) (d:=.int (nums.getD j 0 % 100)) (pf (aK (k:=j) (ae (k:=1) (s12.dat h1)) (aK (k:=1) (ae (k:=0) (s12.dat h0)) ao rfl) (iM okc)) ao (by decide)) fun v H3 s3 q=>post v H3 (s12.trans s3) q
  | high j =>
    have h0:Dat K H (.tup [.str "high",.int j]) v0:=h0
    have okc:=of_decide_eq_true okc
    refine aN (K:=K) (b:=false) (aO (bA (ae (k:=0) h0))) (fun c=>nomatch c) (fun _ H1 s1=>?_)
    refine aN (K:=K) (b:=false) (RT.as (aC (bj (aK (k:=0) (ae (k:=0) (s1.dat h0)) ao rfl) aI)) (decide_eq_false (by decide +kernel))) (fun c=>nomatch c) (fun _ H2 s2=>?_)
    have s12:=s1.trans s2
    refine aN (K:=K) (b:=true) (RT.as (aC (bj (aK (k:=0) (ae (k:=0) (s12.dat h0)) ao rfl) aI)) (decide_eq_true rfl)) (fun _ H3 s3=>?_) (fun c=>nomatch c)
    have s13:=s12.trans s3
    exact bc (K:=K) (d:=.int (nums.getD j 0 / 100)) (kZ (aK (k:=j) (ae (k:=1) (s13.dat h1)) (aK (k:=1) (ae (k:=0) (s13.dat h0)) ao rfl) (iM okc)) ao ⟨by decide,by decide⟩) fun v H4 s4 q=>post v H4 (s13.trans s4) q
  | arg j =>
    have h0:Dat K H (.tup [.str "arg",.int j]) v0:=h0
    have okc:=of_decide_eq_true okc
    refine aN (K:=K) (b:=false) (aO (bA (ae (k:=0) h0))) (fun c=>nomatch c) (fun _ H1 s1=>?_)
    refine aN (K:=K) (b:=false) (RT.as (aC (bj (aK (k:=0) (ae (k:=0) (s1.dat h0)) ao rfl) aI)) (decide_eq_false (by decide +kernel))) (fun c=>nomatch c) (fun _ H2 s2=>?_)
    have s12:=s1.trans s2
    refine aN (K:=K) (b:=false) (RT.as (aC (bj (aK (k:=0) (ae (k:=0) (s12.dat h0)) ao rfl) aI)) (decide_eq_false (by decide +kernel))) (fun c=>nomatch c) (fun _ H3 s3=>?_)
    have s13:=s12.trans s3
    exact bc (K:=K) (d:=.int (ks.getD j 0)) (aK (k:=j) (ae (k:=2) (s13.dat h2)) (aK (k:=1) (ae (k:=0) (s13.dat h0)) ao rfl) (iM okc)) fun v H4 s4 q=>post v H4 (s13.trans s4) q
def iu (n:Nat) (as:List Ar) (es:List D):Prop:=∃ (ps:List Pc) (t:Tr) (c:D),as = [.d (toD t),.l (ps.map pcD),.d c,.l []]∧iG ps∧qB ps∧okT t∧bf t ≤ n∧n ≤ 8∧aX t ≤ 40∧bL ps n t c = some es
def An (n:Nat) (as:List Ar) (es:List D):Prop:=∃ (ps:List Pc) (a b d:Tr) (ca cb cd:D) (xa xb xd:List D),as = [.d (.tup [.str "pick",toD a,toD b,toD d]),.l (ps.map pcD),.d (.tup [.str "pick",.tup [ca,cb,cd]]),.l []]∧iG ps∧qB ps∧(okT a∧okT b∧okT d)∧(bf a ≤ n∧bf b ≤ n∧bf d ≤ n)∧n ≤ 8∧(aX a ≤ 40∧aX b ≤ 40∧aX d ≤ 40) ∧
  bL ps n a ca = some xa∧bL ps n b cb = some xb∧bL ps n d cd = some xd∧es.length ≤ 900∧es = dF xa xb xd
def Am (n:Nat) (as:List Ar) (es:List D):Prop:=∃ (ps:List Pc) (t:Tr) (p:Pc) (cv:List D) (g:Fnd) (ess:List (List D)),as = [.d (toD t),.l (ps.map pcD),.d (.tup [.str p.nm,.tup cv]),.l []]∧iG ps∧qB ps∧okT t∧bf t ≤ n + 1∧n + 1 ≤ 8∧aX t ≤ 40∧p ∈ ps∧bQ p.pt t = some g∧g.1.length = cv.length∧dA (bL ps n) g.1 cv = ess.map some∧es.length ≤ 900∧es = bY ess g (bx p)
theorem kM (x y z:List D):dF x y z = x ++ (ff 10 11 ((y.length:Int) + jI z.length)).map D.int ++ y ++ (ff 8 9 z.length).map D.int ++ z:=by
  unfold dF cR
  have e:((y ++ (ff 8 9 (z.length:Int)).map D.int).length:Int) = (y.length:Int) + jI z.length:=by
    rw [List.length_append,List.length_map]
    have:=lW 8 9 z.length
    omega
  rw [e]
  simp only [List.append_assoc]
theorem oV (T:Txt P w K mg) {n:Nat} (ER:FnOk P w K mg base CX0 k T.Du T.Dv ["tree","some","cover","places"] (jk K (iu n))) (Il:FnOk P w K mg base CX0 k T.DV T.DX ["second","third"] (ub K)):FnOk P w K mg base CX0 (k + 1) T.Ft T.Fy ["tree","some","cover","places"] (jk K (An n)):=by
  refine T.Gg.ok sc_laid_pick (fun vs H Q E h=>?_) (fun cdv A outer s H vs Q E hr h=>?_)
  · obtain ⟨as,es,hd,⟨ps,a,b,d,ca,cb,cd,xa,xb,xd,rfl,_⟩,_⟩:=h; exact hd.length.symm
  have nd:=sc_laid_pick.nd
  obtain ⟨as,es,hd,⟨ps,a,b,d,ca,cb,cd,xa,xb,xd,rfl,okS,laS,⟨oa,ob,od⟩,⟨da,db,dd⟩,n8,⟨za,zb,zd⟩,la,lb,ld,l900,rfl⟩,post⟩:=h
  obtain ⟨v0,v1,v2,v3,rfl,h0,h1,h2,h3⟩:=Az hd
  have h0:Dat K H (.tup [.str "pick",toD a,toD b,toD d]) v0:=h0
  have h1:LD K H (ps.map pcD) v1:=h1
  have h2:Dat K H (.tup [.str "pick",.tup [ca,cb,cd]]) v2:=h2
  have h3:LD K H [] v3:=h3
  rw [kM] at post l900
  refine ⟨_,(aq (eR (dk (own:=["one","within"]) (fr:=[1,3]) (N':=["one","within","some","places"]) (o5 rfl T.IV (aj (eA ji (pv 0) (eE ak) fZ) (aj (aG aE (pv 2) ak (fun _ _=>rfl)) ag))) rfl (by show cm ["tree","some","cover","places","first","second","third","ahead","behind"] (fun x=>(aB fk).names.lookup x) _ _ _ _ = true; decide +kernel) rfl (fun _ _ _ _ _=>(kY (K:=K) (n:=2) rfl rfl (bg (aW (i:=0) (by show List.Nodup [("one":Str),("within":Str),("some":Str),("places":Str)]; decide +kernel) rfl (Or.inl rfl)) (bg (aW (i:=1) (by show List.Nodup [("one":Str),("within":Str),("some":Str),("places":Str)]; decide +kernel) rfl (Or.inl rfl)) cG)))) (fun _ _ _ _ _=>b9) (fun _ _ _ _ _=>(aF ER hr rfl T.FM T.Ek.kp (gT T) .nil aZ (aj (pv 0) (aj (pv 2) (aj (pv 1) (aj (pv 3) ag))))))) (zi rfl (bg (aW (i:=4) nd rfl (Or.inl rfl)) (bg (aW (i:=5) nd rfl (Or.inl rfl)) (bg (aW (i:=6) nd rfl (Or.inl rfl)) cG)))))
  (aq (eR (aF Il hr rfl T.GU T.EA.kp (kO T) .nil aZ (aj (aH aR rfl T.C1 bI (aj (pv 5) ag)) (aj (aH aR rfl T.C1 bI (aj (pv 6) ag)) ag))) (eQ rfl (bg (aW (i:=7) nd rfl (Or.inl rfl)) (bg (aW (i:=8) nd rfl (Or.inl rfl)) cG))))
  (ay (aL (bz dv (bz dv (bz dv (bz dv (pv 4) (pv 7)) (pv 5)) (pv 8)) (pv 6)))))),?_⟩
  refine pA (RCL.use (K:=K) (zt (cs:=[toD a,toD b,toD d]) (ds:=[ca,cb,cd]) (af (gI (ae (k:=0) h0)) (af (aK (k:=1) (ae (k:=2) h2) ao rfl) aA)) rfl (by simp) [xa,xb,xd] rfl (by decide) rfl (fun G j x y z v w sG hx hy hz hv hw=>?_)) fun l ys H1 hl s1 hy dy=>?_)
  · have hL:=sG.ld h1
    have hP:=sG.ld h3
    match j,hx,hy,hz with
    | 0,hx,hy,hz=>cases hx; cases hy; cases hz; exact eF (R:=iu n) (dn (ae (k:=0) hv) (dP (bh (k:=2) hL) (dn (ae (k:=1) hw) (dP (bh (k:=3) hP) b0)))) ⟨ps,a,ca,rfl,okS,laS,oa,da,n8,za,la⟩
    | 1,hx,hy,hz=>cases hx; cases hy; cases hz; exact eF (R:=iu n) (dn (ae (k:=0) hv) (dP (bh (k:=2) hL) (dn (ae (k:=1) hw) (dP (bh (k:=3) hP) b0)))) ⟨ps,b,cb,rfl,okS,laS,ob,db,n8,zb,lb⟩
    | 2,hx,hy,hz=>cases hx; cases hy; cases hz; exact eF (R:=iu n) (dn (ae (k:=0) hv) (dP (bh (k:=2) hL) (dn (ae (k:=1) hw) (dP (bh (k:=3) hP) b0)))) ⟨ps,d,cd,rfl,okS,laS,od,dd,n8,zd,ld⟩
    | j + 3,hx,hy,hz=>cases hx
  obtain ⟨w4,w5,w6,rfl,k4,k5,k6⟩:∃ w4 w5 w6,ys = [w4,w5,w6]∧LD K H1 xa w4∧LD K H1 xb w5∧LD K H1 xd w6:=by
    cases dy with
    | cons k4 r =>
      cases r with
      | cons k5 r =>
        cases r with
        | cons k6 r =>
          cases r
          exact ⟨_,_,_,rfl,k4,k5,k6⟩
  refine ⟨l,_,rfl,SqL.of hy,rfl,_,_,rfl,_,_,rfl,_,_,rfl,rfl,?_⟩
  try dsimp only
  refine pA (dO (bS (RE.use (K:=K) (d:=.int xb.length) (gb (bh (k:=5) k5)) fun w1 H3 s3 q3=>bS (RE.use (K:=K) (d:=.int xd.length) (gb (bh (k:=6) (s3.ld k6))) fun w2 H4 s4 q4=>?_))))
  have e3:=q3.intE
  have e4:=q4.intE
  subst e3 e4
  refine ⟨_,_,rfl,fun p aa bb us ws H5 s5 hp ha hb _ _ _ dus dws=>?_⟩
  refine ⟨p,_,rfl,hp,rfl,_,_,rfl,_,_,rfl,rfl,?_⟩
  try dsimp only
  have s15:=s3.trans (s4.trans s5)
  have kA:LD K H5 _ (.ref aa):=LD.of ha dus
  have kB:LD K H5 _ (.ref bb):=LD.of hb dws
  have ll:(xa ++ (ff 10 11 ((xb.length:Int) + jI xd.length)).map D.int ++ xb ++ (ff 8 9 xd.length).map D.int ++ xd).length = xa.length + ((ff 10 11 ((xb.length:Int) + jI xd.length)).map D.int).length + xb.length + ((ff 8 9 (xd.length:Int)).map D.int).length + xd.length:=by simp only [List.length_append]
  generalize (ff 10 11 ((xb.length:Int) + jI xd.length)).map D.int = ja at kA post ll l900
  generalize (ff 8 9 (xd.length:Int)).map D.int = jb at kB post ll l900
  exact dS (RC.use (K:=K) (dB (gd (dB (gd (dB (gd (dB (bh (k:=4) (s15.ld k4)) (bh (k:=7) kA) (by omega))) (bh (k:=5) (s15.ld k5)) (by rw [List.length_append]; omega))) (bh (k:=8) kB) (by rw [List.length_append,List.length_append]; omega))) (bh (k:=6) (s15.ld k6)) (by rw [List.length_append,List.length_append,List.length_append]; omega)) fun l3 us H7 hl3 s7 hu du=>post l3 us H7 (s1.trans (s15.trans s7)) hu ((s1.trans s15).free hl3) du)
theorem m4 (T:Txt P w K mg) {n:Nat} (ER:FnOk P w K mg base CX0 k T.Du T.Dv ["tree","some","cover","places"] (jk K (iu n))) (HD:FnOk P w K mg base CX0 k T.E6 T.E9 ["piece","tree"] (spD K lC)) (IK:FnOk P w K mg base CX0 k T.Er T.Ew ["cell","nums","ks"] (spD K rD)):FnOk P w K mg base CX0 (k + 1) T.EV T.E1 ["tree","some","cover","places"] (jk K (Am n)):=by
  refine T.FL.ok sc_laid_piece (fun vs H Q E h=>?_) (fun cdv A outer s H vs Q E hr h=>?_)
  · obtain ⟨as,es,hd,⟨ps,t,p,cv,g,ess,rfl,_⟩,_⟩:=h; exact hd.length.symm
  have nd:=sc_laid_piece.nd
  obtain ⟨as,es,hd,⟨ps,t,p,cv,g,ess,rfl,okS,laS,okt,dpt,n8,szt,hp,hft,hlen,hpair,l900,rfl⟩,post⟩:=h
  obtain ⟨v0,v1,v2,v3,rfl,h0,h1,h2,h3⟩:=Az hd
  have h0:Dat K H (toD t) v0:=h0
  have h1:LD K H (ps.map pcD) v1:=h1
  have h2:Dat K H (.tup [.str p.nm,.tup cv]) v2:=h2
  have h3:LD K H [] v3:=h3
  have okp:=okS.ok p hp
  have hcl:=laS.cl p hp
  have few:=okS.few
  refine ⟨_,(aq (eR (pv 2) (eQ rfl (bg (aW (i:=4) nd rfl (Or.inr rfl)) (bg (aW (i:=5) nd rfl (Or.inl rfl)) cG))))
  (aq (bC (i:=6) nd rfl (Or.inl rfl) (aG bE (dk (own:=["one"]) (fr:=[4]) (N':=["one","name"]) (eB (pv 1)) rfl (by show cm ["tree","some","cover","places","name","within","piece","holes","nums","ks","cells","hole","inner"] (fun x=>(aB dI).names.lookup x) _ _ _ _ = true; decide +kernel) rfl (fun _ _ _ _ _=>(aW (i:=0) (by show List.Nodup [("one":Str),("name":Str)]; decide +kernel) rfl (Or.inl rfl))) (fun _ _ _ _ _=>(mx (aP bV (aG (r:=m5 K) aE (pv 0) ak (fun _ _=>rfl)) (pv 1) (aU _)))) (fun _ _ _ _ _=>(pv 0))) ak (fun _ _=>rfl)))
  (aq (eR (aF HD hr rfl T.HG T.F4.kp (lF T) .nil aZ (aj (pv 6) (aj (pv 0) ag))) (eQ rfl (bg (aW (i:=7) nd rfl (Or.inl rfl)) (bg (aW (i:=8) nd rfl (Or.inr rfl)) (bg (aW (i:=9) nd rfl (Or.inr rfl)) cG)))))
  (aq (bC (i:=10) nd rfl (Or.inl rfl) (bB ag))
  (aq (jh PassesOwn.never rfl (o5 rfl T.IV (aj (pv 7) (aj (pv 5) ag))) (eQ rfl (bg (aW (i:=11) nd rfl (Or.inl rfl)) (bg (aW (i:=12) nd rfl (Or.inl rfl)) cG))) (ay (bF (cV PySem.F.plainAttrs_list PySem.F.slot_list_extend PySem.F.type_list_extend d9 (pv 10) (aj (aF ER hr rfl T.FM T.Ek.kp (gT T) .nil aZ (aj (pv 11) (aj (pv 1) (aj (pv 12) (aj (pv 3) ag))))) ag)))))
  (ay (aL (bz dv (pv 10) (dk (own:=["cell"]) (fr:=[8,9]) (N':=["cell","nums","ks"]) (jg (aG aE (pv 6) ak (fun _ _=>rfl))) rfl (by show cm ["tree","some","cover","places","name","within","piece","holes","nums","ks","cells","hole","inner"] (fun x=>(aB dI).names.lookup x) _ _ _ _ = true; decide +kernel) rfl (fun _ _ _ _ _=>(aW (i:=0) (by show List.Nodup [("cell":Str),("nums":Str),("ks":Str)]; decide +kernel) rfl (Or.inl rfl))) (fun _ _ _ _ _=>b9) (fun _ _ _ _ _=>(aF IK hr rfl T.Hz T.Fk.kp (mQ T) .nil aZ (aj (pv 0) (aj (pv 1) (aj (pv 2) ag)))))))))))))),?_⟩
  refine lA (K:=K) (ae (k:=2) h2) fun v4 v5 H1 s1 q4 q5=>?_
  refine eG (K:=K) (d:=pcD p) (kq (k:=0) (ds:=[pcD p]) (gd (RC.as (tW (bh (k:=1) (s1.ld h1)) (by rw [List.length_map]; omega) (wR p.nm) rfl (fun G j c v sG hc hv=>?_)) (lN laS.ls.nd hp))) ao rfl) fun v6 H2 s2 q6=>?_
  · rw [List.getElem?_map] at hc
    cases hq:ps[j]? with
    | none=>rw [hq] at hc; cases hc
    | some q =>
      rw [hq] at hc
      cases hc
      exact ⟨aC (bj (aK (k:=0) (ae (k:=0) (show Dat K G (.tup [.str q.nm,toP q.pt,.tup q.cs]) v from hv)) ao rfl) (ae (k:=1) (sG.dat q4))),ae (k:=0) hv⟩
  have s12:=s1.trans s2
  have q6:Dat K H2 (.tup [.str p.nm,toP p.pt,.tup p.cs]) v6:=q6
  refine pC (K:=K) (RE.as (bq (R:=lC) (d:=fdD (bQ p.pt t)) (af (ae (k:=6) q6) (af (ae (k:=0) (s12.dat h0)) aA)) ⟨.str p.nm,p.pt,.tup p.cs,t,rfl,okp.ok,okt,by omega,okp.dp,rfl⟩) (by rw [hft]; rfl)) fun v7 v8 v9 H3 s3 q7 q8 q9=>?_
  have s13:=s12.trans s3
  refine cJ ⟨bW (by decide),fun lc hlc=>?_⟩
  have s4:Same H3 (upd H3 lc (.lst [])):=aD hlc _
  have s14:=s13.trans s4
  obtain ⟨ah,us,rfl,hah,dus⟩:=(s4.dat q7).tupE
  obtain ⟨aw,ws,rfl,haw,dws⟩:=((s2.trans (s3.trans s4)).dat q5).tupE
  have lu:=dus.length
  have lw:=dws.length
  rw [List.length_map] at lu
  have less:ess.length = g.1.length:=by have:=congrArg List.length hpair; rw [nK hlen,List.length_map] at this; exact this.symm
  have hlcn:H lc = none:=s13.free hlc
  have lle:ess.flatten.length + (bx p).length ≤ 900:=by
    have z:(bY ess g (bx p)).length = ess.flatten.length + (bx p).length:=by unfold bY; rw [List.length_append,List.length_map]
    omega
  have lfl:ess.flatten.length ≤ 900:=by omega
  generalize hG4:upd H3 lc (.lst []) = G4 at s4 s14 hah haw dus dws
  have hc4:G4 lc = some (.lst []):=by rw [← hG4]; exact au
  refine cO ⟨_,rfl,_,rfl,ah,aw,us,ws,rfl,hah,haw,yF (K:=K) (xs:=us) (ys:=ws) (fun i σ G=>∃ (z11 z12:Option V) (zs:List V),σ = [some v0,some v1,some v2,some v3,some v4,some (.ref aw),some v6,some (.ref ah),some v8,some v9,some (.ref lc),z11,z12]∧Same H3 G∧SqT K G ah us∧SqT K G aw ws∧Dats K G (g.1.map toD) us∧Dats K G cv ws∧G lc = some (.lst zs)∧Dats K G (ess.take i).flatten zs) (by omega) ?_ (fun i σ G _ ⟨_,_,_,_,_,p1,p2,_⟩=>⟨p1,p2⟩) ?_ ?_⟩
  · exact ⟨none,none,[],rfl,s4,hah,haw,dus,dws,hc4,by rw [List.take_zero]; exact Dats.nil⟩
  · rintro i u w pp σ G hu hw hpp ⟨z11,z12,zs,rfl,sG,hahG,hawG,duG,dwG,hcG,dz⟩
    have sn:Same G (upd G pp (.tup [u,w])):=aD hpp _
    obtain ⟨du,edu,hdu⟩:=duG.getV hu
    obtain ⟨dw,edw,hdw⟩:=dwG.getV hw
    rw [List.getElem?_map] at edu
    cases hq:g.1[i]? with
    | none=>rw [hq] at edu; cases edu
    | some x =>
      rw [hq] at edu
      cases edu
      have hix:i < ess.length:=by rw [less]; exact (List.getElem?_eq_some_iff.mp hq).1
      have hx:ess[i]? = some ess[i]:=List.getElem?_eq_getElem hix
      have lz:=qC lfl hx
      have hlx:bL ps n x dw = some ess[i]:=(nI hq edw (by rw [hpair,List.getElem?_map,hx]; rfl)).symm
      have tail:=jB okp.nh hft x (List.mem_of_getElem? hq)
      have dsm:=ip tail
      refine ⟨pp,_,rfl,SqT.of au,rfl,_,_,rfl,_,_,rfl,rfl,?_⟩
      dsimp only
      have sHG:=s13.trans (sG.trans sn)
      have lzs:=dz.length
      refine zE (K:=K) (eF (R:=iu n) (dn (ae (k:=11) (sn.dat hdu)) (dP (bh (k:=1) (sHG.ld h1)) (dn (ae (k:=12) (sn.dat hdw)) (dP (bh (k:=3) (sHG.ld h3)) b0)))) ⟨ps,x,dw,rfl,okS,laS,eY t x okt (gO tail),by omega,by omega,by omega,hlx⟩) (sn _ _ hcG) (by omega) fun ys G2 b2 hc2 dy=>?_
      have g2:cQ K (upd G pp (.tup [u,w])) G2:=b2.grow (sn _ _ hcG) hc2
      refine ⟨_,_,zs ++ ys,rfl,fun a o ha=>b2 a o (az ha hlc) ((sG.trans sn) _ _ ha),g2.tup _ _ (sn.sqT hahG),g2.tup _ _ (sn.sqT hawG),Dats.mono g2 _ (sn.dats duG),Dats.mono g2 _ (sn.dats dwG),hc2,?_⟩
      rw [List.take_add_one,hx,List.flatten_append]
      simp only [Option.toList_some,List.flatten_cons,List.flatten_nil,List.append_nil]
      exact Dats.append (Dats.mono g2 _ (sn.dats dz)) dy
  · rintro σ G ⟨z11,z12,zs,rfl,sG,hahG,hawG,duG,dwG,hcG,dz⟩
    rw [← lu,← less,List.take_length] at dz
    dsimp only
    have sHG:=s13.trans sG
    have q6G:Dat K G (.tup [.str p.nm,toP p.pt,.tup ((bx p).map clD)]) v6:=by
      have z:=(s3.trans sG).dat q6
      rw [hcl.eq] at z
      exact z
    obtain ⟨g1,g2⟩:=jA _ _ _ hft
    have lcl:(bx p).length ≤ 12:=by have:=okp.cs; rw [hcl.eq,List.length_map] at this; exact this
    refine dS (RC.use (K:=K) (es:=bY ess g (bx p)) (dB (bh (k:=10) (LD.of hcG dz)) (gd (sy (cs:=(bx p).map clD) (aK (k:=2) (ae (k:=6) q6G) ao rfl) (by rw [List.length_map]; omega) ((bx p).map fun c=>D.int (kL g.2.1 g.2.2 c)) (by rw [List.length_map,List.length_map]) rfl (fun G1 j c v d s1 hc hd hv=>?_))) (by rw [List.length_map]; omega)) fun l3 vs G2 hl3 s2 hw dw=>post l3 vs G2 (sHG.trans s2) hw (sHG.free hl3) dw)
    rw [List.getElem?_map] at hc hd
    cases hq:(bx p)[j]? with
    | none=>rw [hq] at hc; cases hc
    | some x =>
      rw [hq] at hc hd
      cases hc
      cases hd
      refine bq (R:=rD) (af (ae (k:=0) hv) (af (ae (k:=1) ((sG.trans s1).dat q8)) (af (ae (k:=2) ((sG.trans s1).dat q9)) aA))) ⟨x,g.2.1,g.2.2,rfl,?_,rfl⟩
      rw [g1,g2]
      exact hcl.ok x (List.mem_of_getElem? hq)
theorem mZ (T:Txt P w K mg) {n:Nat} (Jo:FnOk P w K mg base CX0 k T.Ft T.Fy ["tree","some","cover","places"] (jk K (An n))) (IZ:FnOk P w K mg base CX0 k T.EV T.E1 ["tree","some","cover","places"] (jk K (Am n))):FnOk P w K mg base CX0 (k + 1) T.Du T.Dv ["tree","some","cover","places"] (jk K (iu (n + 1))):=by
  refine T.Ek.ok sc_laid_cells (fun vs H Q E h=>?_) (fun cdv A outer s H vs Q E hr h=>?_)
  · obtain ⟨as,es,hd,⟨ps,t,c,rfl,_⟩,_⟩:=h; exact hd.length.symm
  have nd:=sc_laid_cells.nd
  obtain ⟨as,es,hd,⟨ps,t,c,rfl,okS,laS,okt,dpt,n8,szt,hlay⟩,post⟩:=h
  obtain ⟨v0,v1,v2,v3,rfl,h0,h1,h2,h3⟩:=Az hd
  have h0:Dat K H (toD t) v0:=h0
  have h1:LD K H (ps.map pcD) v1:=h1
  have h2:Dat K H c v2:=h2
  have h3:LD K H [] v3:=h3
  have l900:es.length ≤ 900:=by have:=fg okS.ok (n + 1) t c es hlay; omega
  refine ⟨_,(aq (bu (aP bV (aG aE (pv 0) ak (fun _ _=>rfl)) aM (aU _)) (aq (bC (i:=4) nd rfl (Or.inl rfl) (aG bE (pv 3) (aG aE (pv 0) ak (fun _ _=>rfl)) (fun _ _=>rfl)))
  (ay (aL (bB (aj (bp (v:=.int 15) rfl T.Ib ⟨_,rfl⟩) (aj (bz ef (pv 4) ak) (aj (bz hV (pv 4) ak) ag))))))) aS)
  (aq (bu (aP bV (aG aE (pv 0) ak (fun _ _=>rfl)) aM (aU _)) (ay (aL (aF Jo hr rfl T.Ik T.Gg.kp (pS T) .nil aZ (aj (pv 0) (aj (pv 1) (aj (pv 2) (aj (pv 3) ag))))))) aS)
  (ay (aL (aF IZ hr rfl T.HS T.FL.kp (oj T) .nil aZ (aj (pv 0) (aj (pv 1) (aj (pv 2) (aj (pv 3) ag))))))))),?_⟩
  obtain ⟨kd,r,ek,hpk,hcall,hkids⟩:=tH t okt
  have h0':Dat K H (.tup (.str kd :: r)) v0:=by rw [← ek]; exact h0
  refine aN (K:=K) (b:=false) (RT.as (aC (bj (aK (k:=0) (ae (k:=0) h0') ao rfl) aI)) (decide_eq_false hcall)) (fun c=>nomatch c) (fun _ H1 s1=>?_)
  obtain ⟨nm,cv,rfl⟩:∃ nm cv,c = .tup [.str nm,.tup cv]:=by
    cases e:ft c with
    | none =>
      have h:(match ft c with | none=>none | some x=>if x.1 = "pick" then iq (bL ps n) t x.2 else dR (bL ps n) ps t x.1 x.2) = some es:=hlay
      rw [e] at h
      cases h
    | some x=>exact ⟨x.1,x.2,ni e⟩
  have hlay:(if nm = "pick" then iq (bL ps n) t cv else dR (bL ps n) ps t nm cv) = some es:=hlay
  refine aN (K:=K) (b:=i9 t) (RT.as (aC (bj (aK (k:=0) (ae (k:=0) (s1.dat h0')) ao rfl) aI)) hpk) (fun cp H2 s2=>?_) (fun cp H2 s2=>?_)
  · have s12:=s1.trans s2
    have hn:nm = "pick":=by
      apply Classical.byContradiction
      intro z
      rw [if_neg z] at hlay
      obtain ⟨p,g,ess,e1,e2,_⟩:=gZ hlay
      cases t with
      | pick a b d=>rw [lP (okS.ok p (eM e1).1).nh] at e2; cases e2
      | _=>cases cp
    subst hn
    rw [if_pos rfl] at hlay
    obtain ⟨a,b,d,ca,cb,cd,xa,xb,xd,rfl,rfl,la,lb,ld,rfl⟩:=g9 hlay
    simp only [bf] at dpt
    simp only [aX] at szt
    exact dS (RC.use (K:=K) (eF (R:=An n) (dn (ae (k:=0) (s12.dat h0)) (dP (bh (k:=1) (s12.ld h1)) (dn (ae (k:=2) (s12.dat h2)) (dP (bh (k:=3) (s12.ld h3)) b0)))) ⟨ps,a,b,d,ca,cb,cd,xa,xb,xd,rfl,okS,laS,⟨okt.1,okt.2.1,okt.2.2⟩,⟨by omega,by omega,by omega⟩,by omega,⟨by omega,by omega,by omega⟩,la,lb,ld,l900,rfl⟩) fun l ys H3 hl s3 hy dy=>post l ys H3 (s12.trans s3) hy (s12.free hl) dy)
  · have s12:=s1.trans s2
    have hn:¬ nm = "pick":=by
      intro z
      rw [if_pos z] at hlay
      obtain ⟨a,b,d,_,_,_,_,_,_,e,_⟩:=g9 hlay
      subst e
      cases cp
    rw [if_neg hn] at hlay
    obtain ⟨p,g,ess,e1,e2,hl,hpair,rfl⟩:=gZ hlay
    obtain ⟨hp,rfl⟩:=eM e1
    exact dS (RC.use (K:=K) (eF (R:=Am n) (dn (ae (k:=0) (s12.dat h0)) (dP (bh (k:=1) (s12.ld h1)) (dn (ae (k:=2) (s12.dat h2)) (dP (bh (k:=3) (s12.ld h3)) b0)))) ⟨ps,t,p,cv,g,ess,rfl,okS,laS,okt,dpt,n8,szt,hp,e2,hl,hpair,l900,rfl⟩) fun l ys H3 hl s3 hy dy=>post l ys H3 (s12.trans s3) hy (s12.free hl) dy)
end
end My
end
section
namespace My
open PySem L2 PyProof.Rows
section
variable {P:Program} {w:World} {K:PySem.W.Frag} {mg:Str→Option Value} {base:Heap} {k:Nat}
def ua (K:PySem.W.Frag) (R:List Ar→List D→Prop) (B:List Ar→Addr→Prop):Sp:=fun vs H Q E =>
  ∃ as,Ars K H as vs∧((∃ es,R as es∧∀ r us H',Same H H'→H' r = some (.lst us)→H r = none→Dats K H' es us→Q (.ref r) H')∨∃ C,B as C∧∀ H',Same H H'→E (.ref C) none H')
def rF (as:List Ar) (es:List D):Prop:=∃ (ps:List Pc) (t:Tr) (c:D) (xs:List D),as = [.d (toD t),.l (ps.map pcD),.d c]∧jU ps t∧qB ps∧bL ps 8 t c = some xs∧es = xs ++ [.int 0]
def rC (N:Addr) (as:List Ar) (C:Addr):Prop:=∃ (ps:List Pc) (t:Tr) (c:D),as = [.d (toD t),.l (ps.map pcD),.d c]∧jU ps t∧qB ps∧bL ps 8 t c = none∧C = N
theorem yX (T:Txt P w K mg) (GY:FnOk P w K mg base CX0 k T.EJ T.EK ["tree"] (spD K pP)) (HE:FnOk P w K mg base CX0 k T.E8 T.Fc ["some"] (spA K jX)) (DU:FnOk P w K mg base CX0 k T.CW T.CY ["tree","some","thing"] (spA K (jW 8))) (ER:FnOk P w K mg base CX0 k T.Du T.Dv ["tree","some","cover","places"] (jk K (iu 8))):FnOk P w K mg base (CX1 P w) (k + 1) T.Ir T.ID ["tree","some","thing"] (ua K rF (rC T.CK)):=by
  refine T.Jf.ok1 sc_laid (fun vs H Q E h=>?_) (fun cdv A outer s H vs Q E hr h=>?_)
  · obtain ⟨as,hd,h⟩:=h; rcases h with ⟨d,⟨ps,t,c,xs,rfl,_⟩,_⟩ | ⟨C,⟨ps,t,c,rfl,_⟩,_⟩ <;> exact hd.length.symm
  have nd:=sc_laid.nd
  obtain ⟨as,hd,h⟩:=h
  refine ⟨_,(aq (bF (aF GY hr rfl T.Hk T.FD.kp (kI T) .nil aZ (aj (pv 0) ag)))
  (aq (bF (aF HE hr rfl T.HH T.F5.kp (lG T) .nil aZ (aj (pv 1) ag)))
  (aq (bu (bM (br (aF DU hr rfl T.EC T.Dq.kp (fq T) .nil aZ (aj (pv 0) (aj (pv 1) (aj (pv 2) ag)))) (fun _=>rfl))) (ay (xD PySem.F.excBase_ValueError rfl PySem.F.excBase_ValueError T.FT Bv rfl T.Fh (aj aM ag))) aS)
  (ay (aL (bz dv (aF ER hr rfl T.FM T.Ek.kp (gT T) .nil aZ (aj (pv 0) (aj (pv 1) (aj (pv 2) (aj (bB ag) ag))))) (bB (aj (bp (v:=.int 0) rfl T.IP ⟨_,rfl⟩) ag)))))))),?_⟩
  rcases h with ⟨es,⟨ps,t,c,xs,rfl,gi,la,hl,rfl⟩,post⟩ | ⟨C,⟨ps,t,c,rfl,gi,la,hl,rfl⟩,post⟩
  · obtain ⟨v0,v1,v2,rfl,h0,h1,h2⟩:=n6 hd
    have h0:Dat K H (toD t) v0:=h0
    have h1:LD K H (ps.map pcD) v1:=h1
    have h2:Dat K H c v2:=h2
    refine ku (RE.use (bq (R:=pP) (d:=.non) (af (ae (K:=K) (k:=0) h0) aA) ⟨toD t,rfl,pN gi.ot gi.dp gi.sz,rfl⟩) fun v4 H1 s1 _=>?_)
    refine ku (RE.use (dD (R:=jX) (d:=.non) (dP (bh (K:=K) (k:=1) (s1.ld h1)) b0) ⟨ps,rfl,gi.gs,rfl⟩) fun v5 H2 s2 _=>?_)
    have s12:=s1.trans s2
    have cov:=kU la.ls.nd gi.os.ok 8 t c
    have hi:RE K (fB (spA K (jW 8)) [] E0 (bD (dJ 0) (bD (dJ 1) (bD (dJ 2) dt)))) (cX ["tree","some","thing"] [v0,v1,v2]) H2 (.bl (gx ps 8 t c)):=dD (R:=jW 8) (dn (ae (k:=0) (s12.dat h0)) (dP (bh (k:=1) (s12.ld h1)) (dn (ae (k:=2) (s12.dat h2)) b0))) ⟨ps,t,c,rfl,gi.os,gi.ot,gi.dp,by decide,rfl⟩
    rw [cov,hl] at hi
    refine aN (K:=K) (b:=false) (bo (aO hi)) (fun c=>nomatch c) (fun _ H3 s3=>?_)
    have s13:=s12.trans s3
    have l9:xs.length ≤ 900:=by have:=fg gi.os.ok 8 t c xs hl; have:=gi.sz; omega
    exact dS (RC.use (K:=K) (dB (gd (eF (R:=iu 8) (dn (ae (k:=0) (s13.dat h0)) (dP (bh (k:=1) (s13.ld h1)) (dn (ae (k:=2) (s13.dat h2)) (dP (gd (fz aA)) b0)))) ⟨ps,t,c,rfl,gi.os,la,gi.ot,gi.dp,by decide,gi.sz,hl⟩)) (gd (fz (af ao aA))) (by show xs.length + 1 ≤ 1000; omega)) fun l ys H4 hl4 s4 hy dy=>post l ys H4 (s13.trans s4) hy (s13.free hl4) dy)
  · obtain ⟨v0,v1,v2,rfl,h0,h1,h2⟩:=n6 hd
    have h0:Dat K H (toD t) v0:=h0
    have h1:LD K H (ps.map pcD) v1:=h1
    have h2:Dat K H c v2:=h2
    refine ku (RE.use (bq (R:=pP) (d:=.non) (af (ae (K:=K) (k:=0) h0) aA) ⟨toD t,rfl,pN gi.ot gi.dp gi.sz,rfl⟩) fun v4 H1 s1 _=>?_)
    refine ku (RE.use (dD (R:=jX) (d:=.non) (dP (bh (K:=K) (k:=1) (s1.ld h1)) b0) ⟨ps,rfl,gi.gs,rfl⟩) fun v5 H2 s2 _=>?_)
    have s12:=s1.trans s2
    have cov:=kU la.ls.nd gi.os.ok 8 t c
    have hi:RE K (fB (spA K (jW 8)) [] E0 (bD (dJ 0) (bD (dJ 1) (bD (dJ 2) dt)))) (cX ["tree","some","thing"] [v0,v1,v2]) H2 (.bl (gx ps 8 t c)):=dD (R:=jW 8) (dn (ae (k:=0) (s12.dat h0)) (dP (bh (k:=1) (s12.ld h1)) (dn (ae (k:=2) (s12.dat h2)) b0))) ⟨ps,t,c,rfl,gi.os,gi.ot,gi.dp,by decide,rfl⟩
    rw [cov,hl] at hi
    refine aN (K:=K) (b:=true) (bo (aO hi)) (fun _ H3 s3=>?_) (fun c=>nomatch c)
    exact ⟨bW (by decide),post _ (s12.trans s3)⟩
theorem sv {K:PySem.W.Frag} {σ:L2.St} {H:Hp} {tA:TA} {ar:List Ar} {es:List D} {R:List Ar→List D→Prop} {B:List Ar→Addr→Prop} {E:XK} (h:RB K tA σ H ar) (r:R ar es):RC K (fB (ua K R B) [] E tA) σ H es:=fun H1 s Q q =>
  h H1 s _ fun vs H2 s2 q2=>⟨ar,by rw [List.append_nil]; exact q2,.inl ⟨es,r,fun l us H3 s3 hl hl0 hd=>q l us H3 (s2.free hl0) (s2.trans s3) hl hd⟩⟩
theorem sD {K:PySem.W.Frag} {σ:L2.St} {H:Hp} {tA:TA} {ar:List Ar} {R:List Ar→List D→Prop} {B:List Ar→Addr→Prop} {E:XK} {Q:VK} {C:Addr} (h:RB K tA σ H ar) (r:B ar C) (q:∀ H',Same H H'→E (.ref C) none H'):fB (ua K R B) [] E tA σ H Q :=
  h.use fun vs H2 s2 q2=>⟨ar,by rw [List.append_nil]; exact q2,.inr ⟨C,r,fun H3 s3=>q _ (s2.trans s3)⟩⟩
def x6 (K:PySem.W.Frag):Sp:=fun vs H Q _=>∃ (ps:List Pc) (t:Tr) (c:D),Ars K H [.d (toD t),.l (ps.map pcD),.d c] vs∧jU ps t∧qB ps ∧
  (∀ xs,bL ps 8 t c = some xs→∀ r us H',Same H H'→H' r = some (.lst us)→H r = none→Dats K H' (xs ++ [.int 0]) us→Q (.ref r) H')∧(bL ps 8 t c = none→∀ v H',Same H H'→Dat K H' (uZ 8) v→Q v H')
theorem oP (T:Txt P w K mg) (JT:FnOk P w K mg base (CX1 P w) k T.Ir T.ID ["tree","some","thing"] (ua K rF (rC T.CK))) (IW:sP P w K mg base k T.ES T.EX ["_law_e"] (uc T)):FnOk P w K mg base CX0 (k + 1) T.Fq T.Fw ["_law_tree_here","_law_some","_law_cover"] (x6 K):=by
  refine T.Gf.ok sc__law_laid (fun vs H Q E h=>?_) (fun cdv A outer s H vs Q E hr h=>?_)
  · obtain ⟨ps,t,c,hd,_⟩:=h; exact hd.length.symm
  have nd:=sc__law_laid.nd
  obtain ⟨ps,t,c,hd,gi,la,post1,post0⟩:=h
  obtain ⟨v0,v1,v2,rfl,h0,h1,h2⟩:=n6 hd
  have h0:Dat K H (toD t) v0:=h0
  have h1:LD K H (ps.map pcD) v1:=h1
  have h2:Dat K H c v2:=h2
  refine ⟨_,(ay (xE (i:=3) (fun pn xe E hx=>(ay (aL (xq JT hr rfl T.JI T.Jf.kp (AA T) .nil hx (aj (pv 0) (aj (pv 1) (aj (pv 2) ag))))))) rfl T.Em nd rfl rfl (fun e=>(ay (aL (xp (E:=E0) IW hr.h.mark rfl T.HP T.FI.kp (og T) .nil (aj (pv 3) ag))))))),?_⟩
  have rA:RB K (bD (dJ 0) (bD (dJ 1) (bD (dJ 2) dt))) [some v0,some v1,some v2,none] H [.d (toD t),.l (ps.map pcD),.d c]:=dn (ae (k:=0) h0) (dP (bh (k:=1) h1) (dn (ae (k:=2) h2) b0))
  cases hl:bL ps 8 t c with
  | some xs=>exact RC.use (K:=K) (sv (R:=rF) rA ⟨ps,t,c,xs,rfl,gi,la,hl,rfl⟩) fun l ys H1 hl1 s1 hy dy=>post1 xs hl l ys H1 s1 hy hl1 dy
  | none =>
    refine sD (K:=K) (B:=rC T.CK) rA ⟨ps,t,c,rfl,gi,la,hl,rfl⟩ fun H2 s2=>?_
    exact ⟨T.CQ,T.CK,rfl,fun a ha=>⟨_,rfl,a,T.CK,8,rfl,au,⟨rfl,rfl⟩,fun v H' s q=>post0 hl v H' (s2.trans ((aD ha _).trans s)) q⟩⟩
theorem nJ {f:Tr→D→Option (List D)} (hf:∀ t c es,f t c = some es→∃ ns:List Int,es = ns.map D.int):∀ {ts:List Tr} {cs:List D} {ess:List (List D)},dA f ts cs = ess.map some→∃ ns:List Int,ess.flatten = ns.map D.int
  | [],cs,ess,h=>by
    have:ess = []:=by cases ess with | nil=>rfl | cons _ _=>cases h
    subst this
    exact ⟨[],rfl⟩
  | t :: ts,[],ess,h=>by
    have:ess = []:=by cases ess with | nil=>rfl | cons _ _=>cases h
    subst this
    exact ⟨[],rfl⟩
  | t :: ts,c :: cs,ess,h=>by
    cases ess with
    | nil=>cases h
    | cons x ess =>
      have h':f t c :: dA f ts cs = some x :: ess.map some:=h
      injection h' with h1 h2
      obtain ⟨n1,e1⟩:=hf t c x h1
      obtain ⟨n2,e2⟩:=nJ hf h2
      exact ⟨n1 ++ n2,by rw [List.flatten_cons,e1,e2,List.map_append]⟩
theorem iA {ps:List Pc}:∀ (n:Nat) (t:Tr) (c:D) (es:List D),bL ps n t c = some es→∃ ns:List Int,es = ns.map D.int
  | 0,_,_,_,h=>by cases h
  | n + 1,t,c,es,h=>by
    have h:(match ft c with | none=>none | some x=>if x.1 = "pick" then iq (bL ps n) t x.2 else dR (bL ps n) ps t x.1 x.2) = some es:=h
    cases ec:ft c with
    | none=>rw [ec] at h; cases h
    | some x =>
      rw [ec] at h
      dsimp only at h
      by_cases hp:x.1 = "pick"
      · rw [if_pos hp] at h
        obtain ⟨a,b,d,ca,cb,cd,xa,xb,xd,rfl,_,la,lb,ld,rfl⟩:=g9 h
        obtain ⟨n1,e1⟩:=iA n a ca xa la
        obtain ⟨n2,e2⟩:=iA n b cb xb lb
        obtain ⟨n3,e3⟩:=iA n d cd xd ld
        rw [kM,e1,e2,e3]
        refine ⟨n1 ++ ff 10 11 (((n2.map D.int).length:Int) + jI ((n3.map D.int).length:Int)) ++ n2 ++ ff 8 9 ((n3.map D.int).length:Int) ++ n3,?_⟩
        simp only [List.map_append]
      · rw [if_neg hp] at h
        obtain ⟨p,g,ess,e1,e2,hl,e,rfl⟩:=gZ h
        obtain ⟨ns,en⟩:=nJ (iA n) e
        unfold bY
        rw [en]
        exact ⟨ns ++ (bx p).map (kL g.2.1 g.2.2),by rw [List.map_append,List.map_map]; rfl⟩
end
end My
end
section
namespace My
open PySem L2 PyProof.Rows
section
variable {P:Program} {w:World} {K:PySem.W.Frag} {mg:Str→Option Value} {base:Heap} {k:Nat}
theorem zo {tl te:TE} {tt:TT} {g:TG} {mk:L2.St→L2.St} {σ:L2.St} {H:Hp} {Q:VK} (h:tl σ H fun x H1=>∃ a,x = .ref a∧(∃ xs,SqT K H1 a xs)∧∀ D,H1 D = none→∃ W:Nat→Nat→L2.St→Hp→Prop,(∃ m,W 0 m (mk σ) (upd H1 D (.lst [])))∧∀ i m σ' H',W i m σ' H' →
      ((Itt K a).stop i H'∧Q (.ref D) H')∨((Itt K a).go i H'∧∃ Nx:L2.St→Hp→Prop,(∀ σ'' H'',Nx σ'' H''→∃ m',m' < m∧W (i + 1) m' σ'' H'')∧∀ x H'',(Itt K a).yld i H' x H''→g x σ' H'' fun σ2 H2=>tt σ2 H2 fun b H3 =>
        if b = true then te σ2 H3 fun v H4=>∃ ys,H4 D = some (.lst ys)∧ys.length < sizeLine∧Nx σ2 (upd H4 D (.lst (ys ++ [v]))) else Nx σ2 H3)):fC (wC K tl) mk g tt te σ H Q:=h
def shC:Nat→D→Prop
  | 0,_=>False
  | n + 1,c=>∃ nm cs,c = .tup [.str nm,.tup cs]∧cs.length ≤ 8∧∀ x ∈ cs,shC n x
abbrev m6 (p q:Int) (rest:List V):HO:=.lst (.int p :: .int q :: rest)
theorem LD.but {K:PySem.W.Frag} {H H':Hp} {ds:List D} {v:V} {t:Addr} {zs zs':List V} (h:LD K H ds v) (n:v ≠ .ref t) (e:But t H H') (h1:H t = some (.lst zs)) (h2:H' t = some (.lst zs')):LD K H' ds v:=by
  obtain ⟨a,vs,rfl,ha,hd⟩:=h
  have na:a ≠ t:=fun z=>n (by rw [z])
  exact ⟨a,vs,rfl,ha.elim (fun z=>.inl (e _ _ na z)) .inr,Dats.mono (e.grow h1 h2) _ hd⟩
def rh (K:PySem.W.Frag) (n:Nat):Sp:=fun vs H Q _=>∃ (a t:Addr) (ns:List Int) (X:Tr) (v2 v3:V) (ps:List Pc) (p q:Int) (rest:List V),vs = [.ref a,.ref t,v2,v3]∧Scr K H a ns∧H t = some (m6 p q rest)∧0 ≤ p∧iG ps∧(∀ p ∈ BP,p ∈ ps)∧okT X∧bf X ≤ n∧n ≤ 8∧Dat K H (toD X) v2∧LD K H (ps.map pcD) v3∧v3 ≠ .ref t ∧
  ∀ (v:V) (H':Hp) (c:D) (p' q':Int),But t H H'→H' t = some (m6 p' q' rest)→0 ≤ p'→shC n c→Dat K H' c v→Q v H'
theorem yQ (vs:List V) (H:Hp) (Q:VK) (E:XK):¬ rh K 0 vs H Q E:=fun ⟨a,t,ns,X,v2,v3,ps,p,q,rest,_,_,_,_,_,_,_,h,_⟩=>by
  have:1 ≤ bf X:=by cases X <;> simp [bf]
  omega
theorem ny {K:PySem.W.Frag} {n:Nat} {J:It} {ts:List Tr} {us:List V} {j:Nat} {te:TE} {σ0:L2.St} {H1:Hp} {l t:Addr} {rest:List V} {p q:Int} {Q:Hp→Prop} (Ok:Hp→Prop)
    (go:∀ i G,Ok G→i < us.length→J.go i G∧∀ x G',J.yld i G x G'→G' = G∧x = us.getD i .non) (stop:∀ G,Ok G→J.stop us.length G) (h0:σ0.set j none = σ0) (hl:H1 l = none) (hT:H1 t = some (m6 p q rest)) (hp:0 ≤ p) (lu:ts.length = us.length) (l8:ts.length ≤ 8)
    (keep:∀ G,But t H1 G→Ok G)
    (turn:∀ (i:Nat) (x:Tr) (G:Hp) (p' q':Int) (R:VK),ts[i]? = some x→But t H1 G→G t = some (m6 p' q' rest)→0 ≤ p'→(∀ v G' c p'' q'',But t G G'→G' t = some (m6 p'' q'' rest)→0 ≤ p''→shC n c→Dat K G' c v→R v G')→te (σ0.set j (some (us.getD i .non))) G R)
    (fin:∀ cs zs G p' q',But t H1 G→G t = some (m6 p' q' rest)→0 ≤ p'→G l = some (.lst zs)→Dats K G cs zs→cs.length = ts.length→(∀ c ∈ cs,shC n c)→Q G) :
    ∃ W:Nat→Nat→L2.St→Hp→Prop,(∃ m,W 0 m σ0 (upd H1 l (.lst [])))∧∀ i m σ' H',W i m σ' H' →
      (J.stop i H'∧Q H') ∨
      (J.go i H'∧∃ Nx:L2.St→Hp→Prop,(∀ σ'' H'',Nx σ'' H''→∃ m',m' < m∧W (i + 1) m' σ'' H'')∧∀ x H'',J.yld i H' x H''→bX j x σ' H'' fun σ2 H2=>dN σ2 H2 fun b H3 =>
        if b = true then te σ2 H3 fun v H4=>∃ ys,H4 l = some (.lst ys)∧ys.length < sizeLine∧Nx σ2 (upd H4 l (.lst (ys ++ [v]))) else Nx σ2 H3):=by
  have nlt:l ≠ t:=Ne.symm (az hT hl)
  refine iy (tt:=dN) (Q:=fun _ G=>Q G) Ok go stop h0 l (fun i G=>∃ (cs:List D) (zs:List V) (p' q':Int),But t H1 G∧G t = some (m6 p' q' rest)∧0 ≤ p'∧G l = some (.lst zs)∧Dats K G cs zs∧cs.length = i∧∀ c ∈ cs,shC n c) ?_ (fun i G _ ⟨_,_,_,_,b,_⟩=>keep G b) (fun i G hi pn=>?_) (fun G pn=>?_)
  · exact ⟨[],[],p,q,(aD hl _).but,by rw [aJ (Ne.symm nlt)]; exact hT,hp,au,Dats.nil,rfl,fun c hc=>by cases hc⟩
  · obtain ⟨cs,zs,p',q',bG,tG,gp,hlG,dG,lcs,hcs⟩:=pn
    have hi':i < ts.length:=by omega
    simp only [dN,if_true]
    refine (turn i ts[i] G p' q' _ (List.getElem?_eq_getElem hi') bG tG gp fun v G2 c p2 q2 b2 t2 g2 hc dc=>?_)
    have hl2:=b2 _ _ nlt hlG
    have g12:cQ K G G2:=b2.grow tG t2
    have lz:=dG.length
    have b3:But l G2 (upd G2 l (.lst (zs ++ [v]))):=But.upd (Same.refl _).but
    have g23:cQ K G2 (upd G2 l (.lst (zs ++ [v]))):=b3.grow hl2 au
    refine ⟨zs,hl2,bJ (by omega),⟨_,rfl⟩,cs ++ [c],zs ++ [v],p2,q2,fun b o nb hb=>b3 b o (az hb hl) (b2 b o nb (bG b o nb hb)),b3 _ _ (Ne.symm nlt) t2,g2,au,Dats.append (Dats.mono g23 _ (Dats.mono g12 _ dG)) (Dats.cons (Dat.mono g23 _ dc) Dats.nil),by rw [List.length_append,lcs]; rfl,fun x hx=>?_⟩
    rcases List.mem_append.mp hx with hx | hx
    · exact hcs x hx
    · rw [List.mem_singleton.mp hx]; exact hc
  · obtain ⟨cs,zs,p',q',bG,tG,gp,hlG,dG,lcs,hcs⟩:=pn
    exact fin cs zs G p' q' bG tG gp hlG dG (by omega) hcs
theorem vM {X:Tr} (h:okT X) (hp:i9 X = false):∃ p ∈ BP,∃ f,bQ p.pt X = some f:=by
  cases X with
  | num n =>
    refine ⟨⟨"two",.gap 0 9999,[.int 2,.tup [.str "low",.int 0],.tup [.str "high",.int 0]]⟩,by simp [BP],([],[n],[]),?_⟩
    show (if n ≤ 9999 then _ else _) = _
    rw [if_pos h.2]
  | arg k=>exact ⟨⟨"slot",.slot 0,[.int 3,.tup [.str "arg",.int 0]]⟩,by simp [BP],([],[],[k]),rfl⟩
  | two o a b =>
    obtain ⟨c,hc⟩:=xm h.1
    exact ⟨_,hc,_,AK o a b⟩
  | pick a b c=>cases hp
def WayL (K:PySem.W.Frag) (G:Hp) (X:Tr) (lw t:Addr) (v:V):Prop:=∃ (pa l:Addr) (nm:Str) (ts:List Tr),v = .ref pa∧SqT K G pa [.str nm,.ref l]∧LD K G (ts.map toD) (.ref l)∧l ≠ lw∧l ≠ t∧(∀ x ∈ ts,x ∈ (d8 X).flatMap bT)∧ts.length ≤ 8
theorem WayL.same {K:PySem.W.Frag} {G G':Hp} {X:Tr} {lw t:Addr} {v:V} (h:WayL K G X lw t v) (s:Same G G'):WayL K G' X lw t v:=by
  obtain ⟨pa,l,nm,ts,e,h1,h2,r⟩:=h
  exact ⟨pa,l,nm,ts,e,s.sqT h1,s.ld h2,r⟩
theorem WayL.but {K:PySem.W.Frag} {G G':Hp} {X:Tr} {lw t x:Addr} {v:V} {zs zs':List V} (h:WayL K G X lw t v) (hx:x = lw∨x = t) (e:But x G G') (h1:G x = some (.lst zs)) (h2:G' x = some (.lst zs')):WayL K G' X lw t v:=by
  obtain ⟨pa,l,nm,ts,ev,k1,k2,n1,n2,r⟩:=h
  refine ⟨pa,l,nm,ts,ev,e.sqT h1 k1,LD.but k2 (fun z=>?_) e h1 h2,n1,n2,r⟩
  have z:l = x:=by injection z
  rcases hx with rfl | rfl
  · exact n1 z
  · exact n2 z
theorem qI (T:Txt P w K mg) {n:Nat} (GI:FnOk P w K mg base CX0 k T.ED T.EF ["_law_script","_law_town","_law_tree_here","_law_some"] (rh K n)) (E5:FnOk P w K mg base CX0 k T.D6 T.Eb ["_law_pattern","_law_tree_here","_law_found"] (iJ K oL 3)) (D0:FnOk P w K mg base CX0 k T.D7 T.Ec ["_law_script","_law_town","_law_some"] (pH K)):FnOk P w K mg base CX0 (k + 1) T.ED T.EF ["_law_script","_law_town","_law_tree_here","_law_some"] (rh K (n + 1)):=by
  refine T.Fd.ok sc__law_any (fun vs H Q E h=>?_) (fun cdv A outer s H vs Q E hr h=>?_)
  · obtain ⟨a,t,ns,X,v2,v3,ps,p,q,rest,rfl,_⟩:=h; rfl
  have nd:=sc__law_any.nd
  obtain ⟨a,t,ns,X,v2,v3,ps,p,q,rest,rfl,hS,hT,hp,okS,hBP,okX,dpX,n8,h2,h3,n3,post⟩:=h
  refine ⟨_,(aq (bu (aP bV (aG aE (pv 2) ak (fun _ _=>rfl)) aM (aU _)) (ay (aL (aT (aj aM (aj (cM cI rfl T.DT cA (aj (dk (own:=["_law_one"]) (fr:=[0,1,3]) (N':=["_law_one","_law_script","_law_town","_law_some"]) (jg (eA ji (pv 2) (eE ak) fZ)) rfl (by show cm ["_law_script","_law_town","_law_tree_here","_law_some","_law_ways","_law_piece","_law_found","_law_name","_law_holes"] (fun x=>(aB eU).names.lookup x) _ _ _ _ = true; decide +kernel) rfl (fun _ _ _ _ _=>(aW (i:=0) (by show List.Nodup [("_law_one":Str),("_law_script":Str),("_law_town":Str),("_law_some":Str)]; decide +kernel) rfl (Or.inl rfl))) (fun _ _ _ _ _=>b9) (fun _ _ _ _ _=>(aF GI hr rfl T.GP T.Fd.kp (i5 T) .nil aZ (aj (pv 1) (aj (pv 2) (aj (pv 0) (aj (pv 3) ag))))))) ag)) ag))))) aS)
  (aq (bC (i:=4) nd rfl (Or.inl rfl) (bB ag))
  (aq (jh PassesOwn.never rfl (eB (pv 3)) (aW (i:=5) nd rfl (Or.inl rfl)) (aq (bC (i:=6) nd rfl (Or.inl rfl) (bB (aj (bB ag) (aj (bB ag) (aj (bB ag) ag)))))
  (ay (bu (br (aF E5 hr rfl T.F8 T.EH.kp (gS T) .nil aZ (aj (aG aE (pv 5) ak (fun _ _=>rfl)) (aj (pv 2) (aj (pv 6) ag)))) (fun _=>rfl)) (ay (bF (cV PySem.F.plainAttrs_list PySem.F.slot_list_append PySem.F.type_list_append bR (pv 4) (aj (aT (aj (aG aE (pv 5) ak (fun _ _=>rfl)) (aj (aG bE (pv 6) ak (fun _ _=>rfl)) ag))) ag)))) aS))))
  (aq (eR (aF D0 hr rfl T.EN T.DN.kp (fe T) .nil aZ (aj (pv 0) (aj (pv 1) (aj (pv 4) ag)))) (eQ rfl (bg (aW (i:=7) nd rfl (Or.inl rfl)) (bg (aW (i:=8) nd rfl (Or.inl rfl)) cG))))
  (ay (aL (aT (aj (pv 7) (aj (cM cI rfl T.DT cA (aj (dk (own:=["_law_one"]) (fr:=[0,1,3]) (N':=["_law_one","_law_script","_law_town","_law_some"]) (eB (pv 8)) rfl (by show cm ["_law_script","_law_town","_law_tree_here","_law_some","_law_ways","_law_piece","_law_found","_law_name","_law_holes"] (fun x=>(aB eU).names.lookup x) _ _ _ _ = true; decide +kernel) rfl (fun _ _ _ _ _=>(aW (i:=0) (by show List.Nodup [("_law_one":Str),("_law_script":Str),("_law_town":Str),("_law_some":Str)]; decide +kernel) rfl (Or.inl rfl))) (fun _ _ _ _ _=>b9) (fun _ _ _ _ _=>(aF GI hr rfl T.GP T.Fd.kp (i5 T) .nil aZ (aj (pv 1) (aj (pv 2) (aj (pv 0) (aj (pv 3) ag))))))) ag)) ag))))))))),?_⟩
  obtain ⟨kd,r,ek,hpk,hcall,hkids⟩:=tH X okX
  have h2':Dat K H (.tup (.str kd :: r)) v2:=by rw [← ek]; exact h2
  refine aN (K:=K) (b:=i9 X) (RT.as (aC (bj (aK (k:=0) (ae (k:=2) h2') ao rfl) aI)) hpk) (fun cp H1 s1=>?_) (fun cp H1 s1=>?_)
  · have er:=hkids cp
    subst er
    refine dS (mC (bS (xX (bS (gH (zo (K:=K) (RE.use (K:=K) (gI (ae (k:=2) (s1.dat h2'))) fun vx H2 s2 qx=>?_)))))))
    obtain ⟨ax,us,rfl,hax,dus⟩:=qx.tupE
    have lu:=dus.length
    rw [List.length_map] at lu
    have s12:=s1.trans s2
    have hT2:=s12 _ _ hT
    have l3:(d8 X).length ≤ 8:=by
      cases X with
      | pick a b c=>exact by simp [d8]
      | _=>cases cp
    refine ⟨ax,rfl,⟨us,hax⟩,fun l hl=>ny (K:=K) (n:=n) (ts:=d8 X) (us:=us) (fun G=>SqT K G ax us) (fun i G o hi=>wt i G o hi) (fun G o=>⟨us,o,Nat.le_refl _⟩) rfl hl hT2 hp lu l3 (fun G b=>b.sqT hT2 hax) (fun i x G p' q' R hx bG tG gp hR=>?_) (fun cs zs G p' q' bG tG gp hlG dG lcs hcs=>?_)⟩
    · have hil:i < us.length:=by rw [← lu]; exact (List.getElem?_eq_some_iff.mp hx).1
      have hu:us[i]? = some us[i]:=List.getElem?_eq_getElem hil
      have hui:us.getD i .non = us[i]:=by rw [List.getD_eq_getElem?_getD,hu]; rfl
      have gG:cQ K H2 G:=bG.grow hT2 tG
      obtain ⟨dx,edx,hdx⟩:=(Dats.mono gG _ dus).getV hu
      rw [List.getElem?_map,hx] at edx
      cases edx
      rw [hui]
      have ks:=nG (List.mem_of_getElem? hx)
      have okx:=eY X x okX (gO (List.mem_flatMap.mpr ⟨x,List.mem_of_getElem? hx,nO x⟩))
      refine dO ⟨_,rfl,_,rfl,_,rfl,_,rfl,a,t,ns,x,_,_,ps,p',q',rest,rfl,(hS.same s12).but bG hT2,tG,gp,okS,hBP,okx,by omega,by omega,hdx,LD.but (s12.ld h3) n3 bG hT2 tG,n3,hR⟩
    · refine ⟨l,zs,rfl,.inl ⟨SqL.of hlG,fun pt hpt=>⟨bW (by simp),fun pu hpu=>?_⟩⟩⟩
      have sa:Same G (upd G pt (.tup zs)):=aD hpt _
      have sb:=aD hpu (.tup [.str "pick",.ref pt])
      refine post _ _ (.tup [.str "pick",.tup cs]) p' q' (((s12.but.trans bG).trans sa.but).trans sb.but) (sb _ _ (sa _ _ tG)) gp ⟨"pick",cs,rfl,by omega,hcs⟩ ?_
      exact Dat.tupI (SqT.of au) (Dats.cons (Dat.strI _) (Dats.cons (sb.dat (Dat.tupI (SqT.of au) (sa.dats dG))) Dats.nil))
  · obtain ⟨av,vs,rfl,hav,dvs⟩:=h3
    have lv:=dvs.length
    rw [List.length_map] at lv
    refine cJ ⟨bW (by decide),fun lw hlw=>?_⟩
    have s2:Same H1 (upd H1 lw (.lst [])):=aD hlw _
    have s12:=s1.trans s2
    have hwn:H lw = none:=s1.free hlw
    have nwt:lw ≠ t:=Ne.symm (az hT hwn)
    refine cO ⟨_,rfl,av,rfl,⟨vs,(s12.aLst hav).sqL⟩,jD (xs:=vs) (fun i σ G=>∃ (z5 z6:Option V) (ys:List V),σ = [some (.ref a),some (.ref t),some v2,some (.ref av),some (.ref lw),z5,z6,none,none]∧Same H G∧G lw = some (.lst ys)∧ys.length ≤ i∧(∀ v ∈ ys,WayL K G X lw t v)∧((∃ p ∈ ps.take i,∃ f,bQ p.pt X = some f)→0 < ys.length)) ?_ (fun i σ G _ ⟨_,_,_,_,p,_⟩=>(p.aLst hav).sqL) ?_ ?_⟩
    · exact ⟨none,none,[],rfl,s12,au,Nat.le_refl _,(fun v hv=>by cases hv),(fun ⟨p,hp,_⟩=>by simp at hp)⟩
    · rintro i vx σ G hi ⟨z5,z6,ys,rfl,sG,hwG,lys,hys,hne⟩
      obtain ⟨dx,ex,hx⟩:=(sG.dats dvs).getV hi
      rw [List.getElem?_map] at ex
      cases hpi:ps[i]? with
      | none=>rw [hpi] at ex; cases ex
      | some pi =>
        rw [hpi] at ex
        cases ex
        have okp:=okS.ok pi (List.mem_of_getElem? hpi)
        have few:=okS.few
        have hil:i < vs.length:=(List.getElem?_eq_some_iff.mp hi).1
        have et:ps.take (i + 1) = ps.take i ++ [pi]:=by rw [List.take_add_one,hpi]; rfl
        refine lj ?_
        dsimp only
        refine cJ (xK fun f l0 l1 l2 G1 N=>?_)
        have hx1:Dat K G1 (.tup [.str pi.nm,toP pi.pt,.tup pi.cs]) vx:=N.s.dat hx
        have hl0:∀ b o,G b = some o→b ≠ l0:=fun b o hb=>az hb N.f0
        refine Aa (K:=K) (j:=6) N okp.ok okX (by omega) okp.dp (aK (k:=1) (ae (k:=5) hx1) ao rfl) (ae (k:=2) ((sG.trans N.s).dat h2)) fun G2 s2 full=>?_
        have hwG2:=s2 _ _ hwG
        cases hft:bQ pi.pt X with
        | none =>
          refine ⟨_,rfl,kR (pB ⟨_,_,ys,rfl,sG.trans s2,hwG2,by omega,fun v hv=>(hys v hv).same s2,fun ⟨q,hq,g,hg⟩=>?_⟩)⟩
          rw [et] at hq
          rcases List.mem_append.mp hq with hq | hq
          · exact hne ⟨q,hq,g,hg⟩
          · rw [List.mem_singleton.mp hq,hft] at hg; cases hg
        | some fd =>
          have F3:=full fd hft
          refine ⟨_,rfl,jH ?_⟩
          refine ⟨_,rfl,.inl ⟨rfl,_,SqL.of hwG2⟩,?_⟩
          refine bS (mC (bS (RE.use (K:=K) (d:=.str pi.nm) (aK (k:=0) (ae (k:=5) (s2.dat hx)) ao rfl) fun wn G3 s3 qn=>bS ?_)))
          have en:=qn.strE
          subst en
          refine ⟨_,rfl,f,_,0,.ref l0,rfl,rfl,SqL.of (s3 _ _ F3.hf),rfl,?_⟩
          refine ⟨bW (by simp),fun pa hpa=>?_⟩
          have s4:Same G3 (upd G3 pa (.tup [.str pi.nm,.ref l0])):=aD hpa _
          have s24:=s3.trans s4
          have hw4:=s24 _ _ hwG2
          refine ⟨lw,ys,_,rfl,rfl,hw4,bJ (by omega),?_⟩
          have b5:But lw (upd G3 pa (.tup [.str pi.nm,.ref l0])) (upd (upd G3 pa (.tup [.str pi.nm,.ref l0])) lw (.lst (ys ++ [.ref pa]))):=But.upd (Same.refl _).but
          refine ⟨_,_,ys ++ [.ref pa],rfl,fun b o hb=>b5 b o (az hb hwn) ((s2.trans s24) _ _ (sG _ _ hb)),au,by rw [List.length_append]; simp; omega,fun v hv=>?_,fun _=>by rw [List.length_append]; simp⟩
          rcases List.mem_append.mp hv with hv | hv
          · exact ((hys v hv).same (s2.trans s24)).but (.inl rfl) b5 hw4 au
          · rw [List.mem_singleton.mp hv]
            have few8:fd.1.length ≤ 8:=by
              have hw:=ym (ps:=ps) (List.mem_of_getElem? hpi) cp hft
              exact (sO okS.ok hw).1
            exact WayL.but (x:=lw) ⟨pa,l0,pi.nm,fd.1,rfl,SqT.of au,s24.ld F3.h0,Ne.symm (hl0 _ _ hwG),Ne.symm (hl0 _ _ (sG _ _ hT)),jB okp.nh hft,few8⟩ (.inl rfl) b5 hw4 au
    · rintro σ G ⟨z5,z6,ys,rfl,sG,hwG,lys,hys,hne⟩
      dsimp only
      have few:=okS.few
      have pos:0 < ys.length:=by
        obtain ⟨pb,hpb,fb,hfb⟩:=vM okX cp
        exact hne ⟨pb,by rw [← lv,List.take_length]; exact hBP pb hpb,fb,hfb⟩
      have hTG:=sG _ _ hT
      refine pA (dO ⟨_,rfl,_,rfl,_,rfl,a,t,lw,ns,ys,p,q,rest,rfl,hS.same sG,SqL.of hwG,nwt,pos,by omega,hTG,hp,fun i x G2 p2 q2 b2 t2 g2 hx=>?_⟩)
      obtain ⟨pa,l,nm,ts,rfl,hpa,hl,nlw,nlt,tail,few8⟩:=(hys x (List.mem_of_getElem? hx)).but (.inr rfl) b2 hTG t2
      refine ⟨pa,_,rfl,hpa,rfl,_,_,rfl,_,_,rfl,rfl,?_⟩
      try dsimp only
      obtain ⟨al,us,eal,hal,dus⟩:=id hl
      have lu:=dus.length
      rw [List.length_map] at lu
      refine dS (mC (bS ⟨_,rfl,bS (gH ?_)⟩))
      have el:l = al:=by injection eal
      subst el
      refine ⟨_,rfl,l,rfl,⟨us,hal.sqL⟩,fun l4 hl4=>ny (K:=K) (n:=n) (ts:=ts) (us:=us) (fun G=>SqL K G l us) (fun i G o hi=>lR i G o hi) (fun G o=>⟨us,o,Nat.le_refl _⟩) rfl hl4 t2 g2 lu few8 (fun G b=>(hal.elim (fun z=>.inl (b _ _ nlt z)) .inr:aLst K G l us).sqL) (fun i x G3 p' q' R hx bG tG gp hR=>?_) (fun cs zs G3 p' q' bG tG gp hlG dG lcs hcs=>?_)⟩
      · have hil:i < us.length:=by rw [← lu]; exact (List.getElem?_eq_some_iff.mp hx).1
        have hu:us[i]? = some us[i]:=List.getElem?_eq_getElem hil
        have hui:us.getD i .non = us[i]:=by rw [List.getD_eq_getElem?_getD,hu]; rfl
        have gG:cQ K G2 G3:=bG.grow t2 tG
        obtain ⟨dx,edx,hdx⟩:=(Dats.mono gG _ dus).getV hu
        rw [List.getElem?_map,hx] at edx
        cases edx
        rw [hui]
        have ks:=ip (tail x (List.mem_of_getElem? hx))
        have okx:=eY X x okX (gO (tail x (List.mem_of_getElem? hx)))
        have h3G:LD K G2 (ps.map pcD) (.ref av):=LD.but (sG.ld (show LD K H (ps.map pcD) (.ref av) from ⟨av,vs,rfl,hav,dvs⟩)) n3 b2 hTG t2
        exact dO ⟨_,rfl,_,rfl,_,rfl,_,rfl,a,t,ns,x,_,_,ps,p',q',rest,rfl,((hS.same sG).but b2 hTG).but bG t2,tG,gp,okS,hBP,okx,by omega,by omega,hdx,LD.but h3G n3 bG t2 tG,n3,hR⟩
      · refine ⟨l4,zs,rfl,.inl ⟨SqL.of hlG,fun pt hpt=>⟨bW (by simp),fun pu hpu=>?_⟩⟩⟩
        have sa:Same G3 (upd G3 pt (.tup zs)):=aD hpt _
        have sb:=aD hpu (.tup [.str nm,.ref pt])
        refine post _ _ (.tup [.str nm,.tup cs]) p' q' ((((sG.but.trans b2).trans bG).trans sa.but).trans sb.but) (sb _ _ (sa _ _ tG)) gp ⟨nm,cs,rfl,by omega,hcs⟩ ?_
        exact Dat.tupI (SqT.of au) (Dats.cons (Dat.strI _) (Dats.cons (sb.dat (Dat.tupI (SqT.of au) (sa.dats dG))) Dats.nil))
end
end My
end
section
namespace My
open PySem L2 PyProof.Rows
section
variable {P:Program} {w:World} {K:PySem.W.Frag} {mg:Str→Option Value} {base:Heap} {k:Nat}
theorem zp {r:R2} {ta tb:TE} {σ:L2.St} {H:Hp} {Q:VK} (h:ta σ H fun x H1=>tb σ H1 fun y H2=>r x y H2 Q):tOp r ta tb σ H Q:=h
theorem fE {nm:Str} {cs:List D} (h:∀ x ∈ cs,∀ m,je m x = true):∀ m,je m (.tup [.str nm,.tup cs]) = true
  | 0=>rfl
  | m + 1=>by
    show (true && cs.all (je m)) = true
    rw [Bool.true_and,List.all_eq_true]
    exact fun x hx=>h x hx m
theorem xZ:∀ (n:Nat) (c:D),shC n c→∀ m,je m c = true
  | 0,_,h=>h.elim
  | n + 1,c,⟨nm,cs,e,_,hc⟩=>by
    subst e
    exact fE fun x hx=>xZ n x (hc x hx)
theorem pF:∀ (n:Nat) (c:D),shC n c→noL c = true∧cU c ≤ 2 * n
  | 0,_,h=>h.elim
  | n + 1,c,⟨nm,cs,e,_,hc⟩=>by
    subst e
    have all:∀ l:List D,(∀ x ∈ l,shC n x)→di l = true∧bP l ≤ 2 * n:=by
      intro l
      induction l with
      | nil=>intro _; exact ⟨by simp [di],by simp [bP]⟩
      | cons x l ih =>
        intro hl
        have h1:=pF n x (hl x List.mem_cons_self)
        have h2:=ih fun y hy=>hl y (List.mem_cons_of_mem _ hy)
        exact ⟨by simp only [di,h1.1,h2.1,Bool.and_true],by simp only [bP]; omega⟩
    have k:=all cs hc
    refine ⟨by simp [noL,di,k.1],?_⟩
    simp only [cU,bP]
    omega
def mG (K:PySem.W.Frag) (n:Nat):Sp:=fun vs H Q _=>∃ (a t:Addr) (ns:List Int) (c:D) (v2:V) (p q:Int) (rest:List V),vs = [.ref a,.ref t,v2]∧Scr K H a ns∧H t = some (m6 p q rest)∧0 ≤ p∧shC n c∧n ≤ 8∧Dat K H c v2 ∧
  ∀ (v:V) (H':Hp) (c':D) (p' q':Int),But t H H'→H' t = some (m6 p' q' rest)→0 ≤ p'→(∀ m,je m c' = true)→Dat K H' c' v→Q v H'
theorem wU (vs:List V) (H:Hp) (Q:VK) (E:XK):¬ mG K 0 vs H Q E:=fun ⟨a,t,ns,c,v2,p,q,rest,_,_,_,_,h,_⟩=>h
abbrev nine:List Str:=["one","two","slot","add","more","pick","inc","far","zzz"]
theorem yA (cs:List D):eqD (.tup cs) (.tup []) = cs.isEmpty:=by
  rw [wg]
  cases cs with
  | nil=>exact tw
  | cons x r=>exact tu _ _
theorem oK (T:Txt P w K mg) {n:Nat} (GW:FnOk P w K mg base CX0 k T.D5 T.Ea ["_law_script","_law_town","_law_cover"] (mG K n)) (C8:FnOk P w K mg base CX0 k T.DJ T.DL ["_law_script","_law_town","_law_many"] (mH K)) (D0:FnOk P w K mg base CX0 k T.D7 T.Ec ["_law_script","_law_town","_law_some"] (pH K)):FnOk P w K mg base CX0 (k + 1) T.D5 T.Ea ["_law_script","_law_town","_law_cover"] (mG K (n + 1)):=by
  refine T.Fz.ok sc__law_bent (fun vs H Q E h=>?_) (fun cdv A outer s H vs Q E hr h=>?_)
  · obtain ⟨a,t,ns,c,v2,p,q,rest,rfl,_⟩:=h; rfl
  have nd:=sc__law_bent.nd
  obtain ⟨a,t,ns,c,v2,p,q,rest,rfl,hS,hT,hp,hsh,n8,h2,post⟩:=h
  have okc:=xZ _ _ hsh
  obtain ⟨nm,cs,rfl,l8,hcs⟩:=hsh
  have fl:∀ x ∈ cs,noL x = true∧cU x ≤ 2 * n:=fun x hx=>pF n x (hcs x hx)
  have okx:∀ x ∈ cs,∀ m,je m x = true:=fun x hx=>xZ n x (hcs x hx)
  refine ⟨_,(aq (bC (i:=3) nd rfl (Or.inl rfl) (aF C8 hr rfl T.DO T.C9.kp (dC T) .nil aZ (aj (pv 0) (aj (pv 1) (aj ak ag)))))
  (aq (bu (PW.pt (xF (aP (AZ hr) (aG aE (pv 2) ak (fun _ _=>rfl)) (aT ag) (aU _)) (tU (aP nH (pv 3) ak (aU _))))) (aq (bC (i:=4) nd rfl (Or.inl rfl) (aF C8 hr rfl T.DO T.C9.kp (dC T) .nil aZ (aj (pv 0) (aj (pv 1) (aj (aH aR rfl T.C1 bI (aj (aG aE (pv 2) ak (fun _ _=>rfl)) ag)) ag)))))
  (ay (aL (aT (aj (aG aE (pv 2) ak (fun _ _=>rfl)) (aj (bz oX (bz oX (eA pG (aG aE (pv 2) ak (fun _ _=>rfl)) fZ (eE (pv 4))) (aT (aj (aF GW hr rfl T.Hg T.Fz.kp (kE T) .nil aZ (aj (pv 0) (aj (pv 1) (aj (aG aE (aG aE (pv 2) ak (fun _ _=>rfl)) (pv 4) (fun _ _=>rfl)) ag)))) ag))) (eA pG (aG aE (pv 2) ak (fun _ _=>rfl)) (eE (bz fO (pv 4) ak)) fZ)) ag)))))) aS)
  (aq (bC (i:=5) nd rfl (Or.inl rfl) (bB (aj aM (aj aM (aj aM (aj aM (aj aM (aj aM (aj aM (aj aM (aj aM ag)))))))))))
  (aq (bC (i:=6) nd rfl (Or.inl rfl) (bB (aj (aT (aj (aF D0 hr rfl T.EN T.DN.kp (fe T) .nil aZ (aj (pv 0) (aj (pv 1) (aj (pv 5) ag)))) (aj (aG aE (pv 2) ak (fun _ _=>rfl)) ag))) (aj (aT (aj (aG aE (pv 2) ak (fun _ _=>rfl)) (aj (bz oX (aG aE (pv 2) ak (fun _ _=>rfl)) (aT (aj (aT (aj aM (aj (aT ag) ag))) ag))) ag))) ag))))
  (aq (bF (cV PySem.F.plainAttrs_list PySem.F.slot_list_extend PySem.F.type_list_extend d9 (pv 6) (aj (bB (aj (aT (aj (aG aE (pv 2) ak (fun _ _=>rfl)) (aj (cM oq rfl T.Jg om (aj (aG aE (pv 2) ak (fun _ _=>rfl)) ag)) ag))) (aj fw ag))) ag)))
  (aq (bF (cV PySem.F.plainAttrs_list PySem.F.slot_list_extend PySem.F.type_list_extend d9 (pv 6) (aj (bB (aj (pv 2) (aj (aT (aj (aG aE (pv 2) ak (fun _ _=>rfl)) ag)) (aj (aT (aj aM (aj (aT ag) ag))) (aj (aT (aj (aG aE (pv 2) ak (fun _ _=>rfl)) (aj (eA pG (aG aE (pv 2) ak (fun _ _=>rfl)) fZ (eE (xu sM ak))) ag))) (aj (aT (aj (aG aE (pv 2) ak (fun _ _=>rfl)) (aj (uN (aG aE (pv 2) ak (fun _ _=>rfl)) (eE (xu sM ak))) ag))) ag)))))) ag)))
  (ay (aL (aF D0 hr rfl T.EN T.DN.kp (fe T) .nil aZ (aj (pv 0) (aj (pv 1) (aj (pv 6) ag)))))))))))),?_⟩
  have flat:noL (.tup cs) = true∧cU (.tup cs) ≤ 20:=by
    have k:=pF (n + 1) _ ⟨nm,cs,rfl,l8,hcs⟩
    refine ⟨by simpa [noL,di] using k.1,?_⟩
    have k2:=k.2
    simp only [cU,bP] at k2 ⊢
    omega
  refine cJ ⟨_,rfl,_,rfl,a,t,ns,6,p,q,rest,rfl,hS,hT,hp,by decide,by decide,fun r0 H1 p1 q1 b1 t1 g1 r0a r0b=>?_⟩
  have g01:cQ K H H1:=b1.grow hT t1
  have h2:Dat K H1 (.tup [.str nm,.tup cs]) v2:=Dat.mono g01 _ h2
  have hS1:=hS.but b1 hT
  have ebt:(!eqD (.tup cs) (.tup []) && decide (r0 < 3)) = (!cs.isEmpty && decide (r0 < 3)):=by rw [yA]
  refine aN (K:=K) (b:=!cs.isEmpty && decide (r0 < 3)) (RT.as (Bj (aC (zB (aK (k:=1) (ae (k:=2) h2) ao rfl) (aY aA) flat.1 rfl flat.2)) fun _=>aC (d4 (K:=K) (p:=fun i j=>decide (i < j)) (ae (k:=3) (Dat.intI r0)) ao)) ebt) (fun cT H2 s2=>?_) (fun cF H2 s2=>?_)
  · have ne:cs ≠ []:=fun z=>by rw [z] at cT; cases cT
    have pos:0 < cs.length:=List.length_pos_iff.mpr ne
    refine cJ (dO ⟨_,rfl,_,rfl,RE.use (K:=K) (d:=.int cs.length) (cg (aK (k:=1) (ae (k:=2) (s2.dat h2)) ao rfl)) fun wl H3 s3 ql=>?_⟩)
    have el:=ql.intE
    subst el
    have s23:=s2.trans s3
    refine ⟨a,t,ns,cs.length,p1,q1,rest,rfl,hS1.same s23,s23 _ _ t1,g1,by omega,by omega,fun r4 H4 p4 q4 b4 t4 g4 r4a r4b=>?_⟩
    obtain ⟨j,rfl⟩:∃ j:Nat,r4 = j:=⟨r4.toNat,by omega⟩
    have hj:j < cs.length:=by omega
    have hx:cs[j]? = some cs[j]:=List.getElem?_eq_getElem hj
    have h24:Dat K H4 (.tup [.str nm,.tup cs]) v2:=Dat.mono (b4.grow (s23 _ _ t1) t4) _ (s23.dat h2)
    have hS4:=(hS1.same s23).but b4 (s23 _ _ t1)
    have cov:∀ {G:Hp},Same H4 G→RE K (tOp (m5 K) (dJ 2) (tC (.int 1))) [some (.ref a),some (.ref t),some v2,some (.int r0),some (.int (j:Int)),none,none] G (.tup cs):=fun sG=>aK (k:=1) (ae (k:=2) (sG.dat h24)) ao rfl
    refine dS (mC (bS (RE.use (K:=K) (d:=.str nm) (aK (k:=0) (ae (k:=2) h24) ao rfl) fun w0 H5 s5 q5=>bS ?_)))
    have e0:=q5.strE
    subst e0
    refine zp (zp (RE.use (K:=K) (Bg (n:=j) (cov s5) (ae (k:=4) (Dat.intI _))) fun xa H6 s6 qa=>?_))
    have s46:=s5.trans s6
    refine mC (bS (dO ⟨_,rfl,_,rfl,RE.use (K:=K) (aK (k:=j) (cov s46) (ae (k:=4) (Dat.intI _)) hx) fun wx H7 s7 qx=>?_⟩))
    have s47:=s46.trans s7
    refine ⟨a,t,ns,cs[j],wx,p4,q4,rest,rfl,hS4.same s47,s47 _ _ t4,g4,hcs _ (List.mem_of_getElem? hx),by omega,qx,fun v H8 c' p8 q8 b8 t8 g8 okc' qv=>⟨bW (by simp),fun pt hpt=>?_⟩⟩
    have g78:cQ K H7 H8:=b8.grow (s47 _ _ t4) t8
    have s9:Same H8 (upd H8 pt (.tup [v])):=aD hpt _
    have qa9:=s9.dat (Dat.mono g78 _ (s7.dat qa))
    have qt9:Dat K (upd H8 pt (.tup [v])) (.tup [c']) (.ref pt):=Dat.tupI (SqT.of au) (Dats.cons (s9.dat qv) Dats.nil)
    have h29:Dat K (upd H8 pt (.tup [v])) (.tup [.str nm,.tup cs]) v2:=s9.dat (Dat.mono g78 _ (s47.dat h24))
    have lt:(cs.take j).length ≤ 8:=by rw [List.length_take]; omega
    refine lI qa9 qt9 (by simp; omega) fun xb H10 s10 qb=>?_
    refine RE.use (K:=K) (xS (n:=j + 1) (aK (k:=1) (ae (k:=2) (s10.dat h29)) ao rfl) (RE.as (hX (ae (k:=4) (Dat.intI (j:Int))) ao) (by congr 1))) fun xc H11 s11 qc=>?_
    refine lI (s11.dat qb) qc (by simp; omega) fun xd H12 s12 qd=>⟨bW (by simp),fun pu hpu=>?_⟩
    have s13:=aD hpu (.tup [.str nm,xd])
    have s813:=s9.trans (s10.trans (s11.trans (s12.trans s13)))
    refine post _ _ (.tup [.str nm,.tup (cs.take j ++ [c'] ++ cs.drop (j + 1))]) p8 q8 ((((b1.trans s23.but).trans b4).trans s47.but).trans (b8.trans s813.but)) (s813 _ _ t8) g8 (fE fun x hx=>?_) ?_
    · rcases List.mem_append.mp hx with hx | hx
      · rcases List.mem_append.mp hx with hx | hx
        · exact okx x (List.mem_of_mem_take hx)
        · rw [List.mem_singleton.mp hx]; exact okc'
      · exact okx x (List.mem_of_mem_drop hx)
    · exact Dat.tupI (SqT.of au) (Dats.cons (Dat.strI _) (Dats.cons (s13.dat qd) Dats.nil))
  · have t2:=s2 _ _ t1
    have h2:=s2.dat h2
    refine h9 (K:=K) (es:=nine.map D.str) (fz (af aI (af aI (af aI (af aI (af aI (af aI (af aI (af aI (af aI aA)))))))))) fun ln xs H3 hln s3 hxs dxs=>?_
    have exs:=p6 dxs
    subst exs
    have nlt:ln ≠ t:=Ne.symm (az t2 hln)
    have s23:=s2.trans s3
    refine cJ (bS (mC (bS (dO ⟨_,rfl,_,rfl,_,rfl,a,t,ln,ns,_,p1,q1,rest,rfl,hS1.same s23,SqL.of hxs,nlt,by decide,by decide,s3 _ _ t2,g1,fun i x H4 p4 q4 b4 t4 g4 hx=>?_⟩))))
    obtain ⟨nx,rfl⟩:∃ nx,x = .str nx:=by
      rw [List.getElem?_map] at hx
      cases hn:nine[i]? with
      | none=>rw [hn] at hx; cases hx
      | some z=>rw [hn] at hx; cases hx; exact ⟨z,rfl⟩
    have h24:Dat K H4 (.tup [.str nm,.tup cs]) v2:=Dat.mono (b4.grow (s3 _ _ t2) t4) _ (s3.dat h2)
    have bt4:But t H H4:=(b1.trans s23.but).trans b4
    have hS4:=(hS1.same s23).but b4 (s3 _ _ t2)
    refine bS (RE.use (K:=K) (d:=.tup cs) (aK (k:=1) (ae (k:=2) h24) ao rfl) fun wc H5 s5 qc=>⟨bW (by simp),fun pa hpa=>?_⟩)
    have s6:Same H5 (upd H5 pa (.tup [.str nx,wc])):=aD hpa _
    have s46:=s5.trans s6
    have qd1:Dat K (upd H5 pa (.tup [.str nx,wc])) (.tup [.str nx,.tup cs]) (.ref pa):=Dat.tupI (SqT.of au) (Dats.cons (Dat.strI _) (Dats.cons (s6.dat qc) Dats.nil))
    have h26:=s46.dat h24
    refine bS (RE.use (K:=K) (aY (af (aK (k:=0) (ae (k:=2) h26) ao rfl) (af (zw (aK (k:=1) (ae (k:=2) h26) ao rfl) (aY (af (aY (af aI (af (aY aA) aA))) aA)) (by simp; omega)) aA))) fun w2 H7 s7 qd2=>⟨bW (by simp),fun lo hlo=>?_⟩)
    have s8:Same H7 (upd H7 lo (.lst [.ref pa,w2])):=aD hlo _
    have s48:=s46.trans (s7.trans s8)
    have e0:Dats K (upd H7 lo (.lst [.ref pa,w2])) [.tup [.str nx,.tup cs],.tup [.str nm,.tup (cs ++ [.tup [.str "one",.tup []]])]] [.ref pa,w2]:=Dats.cons ((s7.trans s8).dat qd1) (Dats.cons (s8.dat qd2) Dats.nil)
    have h28:=s48.dat h24
    have hlo4:H4 lo = none:=(s46.trans s7).free hlo
    have k0:upd H7 lo (.lst [.ref pa,w2]) lo = some (.lst [.ref pa,w2]):=au
    generalize upd H7 lo (.lst [.ref pa,w2]) = G0 at s8 s48 e0 h28 k0
    refine jP (K:=K) (es:=[.tup [.str nm,.lst],.non]) (af (aY (af (aK (k:=0) (ae (k:=2) h28) ao rfl) (af (zA (sx (aK (k:=1) (ae (k:=2) h28) ao rfl))) aA))) (af hZ aA)) k0 (by simp) fun y1 G1 c1 k1 f1=>?_
    have gr1:cQ K G0 G1:=c1.grow k0 k1
    have h21:=Dat.mono gr1 _ h28
    have e1:=Dats.append (Dats.mono gr1 _ e0) f1
    have l1:=e1.length
    refine jP (K:=K) (es:=[.tup [.str nm,.tup cs],.tup [.str nm],.tup [.str "two",.tup []],.tup [.str nm,.tup (cs.take (cs.length - 1))],.tup [.str nm,.tup cs.reverse]]) (af (ae (k:=2) h21) (af (aY (af (aK (k:=0) (ae (k:=2) h21) ao rfl) aA)) (af (aY (af aI (af (aY aA) aA))) (af (aY (af (aK (k:=0) (ae (k:=2) h21) ao rfl) (af (zx (aK (k:=1) (ae (k:=2) h21) ao rfl) (Ac ao)) aA))) (af (aY (af (aK (k:=0) (ae (k:=2) h21) ao rfl) (af (zC (aK (k:=1) (ae (k:=2) h21) ao rfl) (Ac ao)) aA))) aA))))) k1 (by rw [← l1]; simp) fun y2 G2 c2 k2 f2=>?_
    have gr2:cQ K G1 G2:=c2.grow k1 k2
    have e2:=Dats.append (Dats.mono gr2 _ e1) f2
    have l2:=e2.length
    have bt:But t H4 G2:=fun b o nb hb=>c2 b o (az hb hlo4) (c1 b o (az hb hlo4) (s48 _ _ hb))
    have tG:G2 t = some (m6 p4 q4 rest):=by
      have nto:t ≠ lo:=az t4 hlo4
      exact c2 _ _ nto (c1 _ _ nto (s48 _ _ t4))
    have nlo:lo ≠ t:=Ne.symm (az t4 hlo4)
    refine dS (dO ⟨_,rfl,_,rfl,_,rfl,a,t,lo,ns,_,p4,q4,rest,rfl,hS4.but bt t4,SqL.of k2,nlo,by rw [← l2]; simp,by rw [← l2]; simp,tG,g4,fun i x G3 p5 q5 b5 t5 g5 hx=>?_⟩)
    obtain ⟨dx,edx,hdx⟩:=e2.getV hx
    refine post x G3 dx p5 q5 ((bt4.trans bt).trans b5) t5 g5 ?_ (Dat.mono (b5.grow tG t5) _ hdx)
    have hm:=List.mem_of_getElem? edx
    simp only [List.cons_append,List.nil_append,List.mem_cons,List.not_mem_nil,or_false] at hm
    have one:∀ m,je m (.tup [.str "one",.tup []]) = true:=fE fun x hx=>by cases hx
    have nop:∀ d:D,(∀ m,je (m + 1) d = true)→∀ m,je m d = true:=fun d h m=>by cases m with | zero=>rfl | succ m=>exact h m
    rcases hm with rfl | rfl | rfl | rfl | rfl | rfl | rfl | rfl | rfl
    · exact fE okx
    · refine fE fun x hx=>?_
      rcases List.mem_append.mp hx with hx | hx
      · exact okx x hx
      · rw [List.mem_singleton.mp hx]; exact one
    · exact nop _ fun m=>rfl
    · exact nop _ fun m=>rfl
    · exact fE okx
    · exact nop _ fun m=>rfl
    · exact fE fun x hx=>by cases hx
    · exact fE fun x hx=>okx x (List.mem_of_mem_take hx)
    · exact fE fun x hx=>okx x (List.mem_reverse.mp hx)
end
end My
end
section
namespace My
open PySem L2 PyProof.Rows
section
variable {P:Program} {w:World} {K:PySem.W.Frag} {mg:Str→Option Value} {base:Heap} {k:Nat}
abbrev LPP:List Pc:=[⟨"inc",.two "add" (.hole 0) (.num 1),[.int 12,.int 1]⟩,⟨"both",.two "add" (.slot 0) (.slot 1),[.int 3,.tup [.str "arg",.int 0],.int 3,.tup [.str "arg",.int 1],.int 4]⟩,⟨"twofold",.two "mul" (.hole 0) (.num 2),[.int 13,.int 4]⟩,⟨"fewer",.two "sub" (.hole 0) (.gap 0 99),[.int 1,.tup [.str "low",.int 0],.int 5]⟩,⟨"addmul",.two "add" (.two "mul" (.hole 0) (.hole 1)) (.gap 0 99),[.int 6,.int 12,.tup [.str "low",.int 0]]⟩,⟨"turned",.two "less" (.gap 0 99) (.hole 0),[.int 1,.tup [.str "low",.int 0],.int 14,.int 7]⟩,⟨"far",.two "add" (.hole 0) (.gap 0 9999),[.int 2,.tup [.str "low",.int 0],.tup [.str "high",.int 0],.int 4]⟩,⟨"pair",.two "sub" (.gap 0 99) (.gap 1 99),[.int 1,.tup [.str "low",.int 0],.int 1,.tup [.str "low",.int 1],.int 5]⟩]
theorem Cb:BP.map pcD = BAS:=rfl
abbrev ALLP:List Pc:=BP ++ LPP
structure gdP (p:Pc):Prop where
  ok:xh p
  pc:mw (pcD p) = some true∧p.nm.length ≤ sizeLine
  nl:noL (pcD p) = true∧cU (pcD p) ≤ 19
  cl:zN p (bx p)
theorem Cn:gdP ⟨"one",.gap 0 99,[.int 1,.tup [.str "low",.int 0]]⟩:=⟨⟨by decide +kernel,by simp [fS,okB],by decide,by decide,rfl⟩,⟨by decide +kernel,by decide⟩,⟨by decide +kernel,by decide +kernel⟩,by kernel_rfl,fun c hc=>List.all_eq_true.mp (show List.all (bx _) (gW _ _) = true by decide +kernel) c hc⟩
theorem Co:gdP ⟨"two",.gap 0 9999,[.int 2,.tup [.str "low",.int 0],.tup [.str "high",.int 0]]⟩:=⟨⟨by decide +kernel,by simp [fS,okB],by decide,by decide,rfl⟩,⟨by decide +kernel,by decide⟩,⟨by decide +kernel,by decide +kernel⟩,by kernel_rfl,fun c hc=>List.all_eq_true.mp (show List.all (bx _) (gW _ _) = true by decide +kernel) c hc⟩
theorem Cp:gdP ⟨"slot",.slot 0,[.int 3,.tup [.str "arg",.int 0]]⟩:=⟨⟨by decide +kernel,by simp [fS,okB],by decide,by decide,rfl⟩,⟨by decide +kernel,by decide⟩,⟨by decide +kernel,by decide +kernel⟩,by kernel_rfl,fun c hc=>List.all_eq_true.mp (show List.all (bx _) (gW _ _) = true by decide +kernel) c hc⟩
theorem Cq:gdP ⟨"add",.two "add" (.hole 0) (.hole 1),[.int 4]⟩:=⟨⟨by decide +kernel,by simp [fS,okB],by decide,by decide,rfl⟩,⟨by decide +kernel,by decide⟩,⟨by decide +kernel,by decide +kernel⟩,by kernel_rfl,fun c hc=>List.all_eq_true.mp (show List.all (bx _) (gW _ _) = true by decide +kernel) c hc⟩
theorem Cr:gdP ⟨"sub",.two "sub" (.hole 0) (.hole 1),[.int 5]⟩:=⟨⟨by decide +kernel,by simp [fS,okB],by decide,by decide,rfl⟩,⟨by decide +kernel,by decide⟩,⟨by decide +kernel,by decide +kernel⟩,by kernel_rfl,fun c hc=>List.all_eq_true.mp (show List.all (bx _) (gW _ _) = true by decide +kernel) c hc⟩
theorem Cs:gdP ⟨"mul",.two "mul" (.hole 0) (.hole 1),[.int 6]⟩:=⟨⟨by decide +kernel,by simp [fS,okB],by decide,by decide,rfl⟩,⟨by decide +kernel,by decide⟩,⟨by decide +kernel,by decide +kernel⟩,by kernel_rfl,fun c hc=>List.all_eq_true.mp (show List.all (bx _) (gW _ _) = true by decide +kernel) c hc⟩
theorem Ct:gdP ⟨"less",.two "less" (.hole 0) (.hole 1),[.int 7]⟩:=⟨⟨by decide +kernel,by simp [fS,okB],by decide,by decide,rfl⟩,⟨by decide +kernel,by decide⟩,⟨by decide +kernel,by decide +kernel⟩,by kernel_rfl,fun c hc=>List.all_eq_true.mp (show List.all (bx _) (gW _ _) = true by decide +kernel) c hc⟩
theorem Cu:gdP ⟨"more",.two "add" (.hole 0) (.gap 0 99),[.int 12,.tup [.str "low",.int 0]]⟩:=⟨⟨by decide +kernel,by simp [fS,okB],by decide,by decide,rfl⟩,⟨by decide +kernel,by decide⟩,⟨by decide +kernel,by decide +kernel⟩,by kernel_rfl,fun c hc=>List.all_eq_true.mp (show List.all (bx _) (gW _ _) = true by decide +kernel) c hc⟩
theorem Cv:gdP ⟨"inc",.two "add" (.hole 0) (.num 1),[.int 12,.int 1]⟩:=⟨⟨by decide +kernel,by simp [fS,okB],by decide,by decide,rfl⟩,⟨by decide +kernel,by decide⟩,⟨by decide +kernel,by decide +kernel⟩,by kernel_rfl,fun c hc=>List.all_eq_true.mp (show List.all (bx _) (gW _ _) = true by decide +kernel) c hc⟩
theorem Cw:gdP ⟨"both",.two "add" (.slot 0) (.slot 1),[.int 3,.tup [.str "arg",.int 0],.int 3,.tup [.str "arg",.int 1],.int 4]⟩:=⟨⟨by decide +kernel,by simp [fS,okB],by decide,by decide,rfl⟩,⟨by decide +kernel,by decide⟩,⟨by decide +kernel,by decide +kernel⟩,by kernel_rfl,fun c hc=>List.all_eq_true.mp (show List.all (bx _) (gW _ _) = true by decide +kernel) c hc⟩
theorem BF:gdP ⟨"twofold",.two "mul" (.hole 0) (.num 2),[.int 13,.int 4]⟩:=⟨⟨by decide +kernel,by simp [fS,okB],by decide,by decide,rfl⟩,⟨by decide +kernel,by decide⟩,⟨by decide +kernel,by decide +kernel⟩,by kernel_rfl,fun c hc=>List.all_eq_true.mp (show List.all (bx _) (gW _ _) = true by decide +kernel) c hc⟩
theorem BG:gdP ⟨"fewer",.two "sub" (.hole 0) (.gap 0 99),[.int 1,.tup [.str "low",.int 0],.int 5]⟩:=⟨⟨by decide +kernel,by simp [fS,okB],by decide,by decide,rfl⟩,⟨by decide +kernel,by decide⟩,⟨by decide +kernel,by decide +kernel⟩,by kernel_rfl,fun c hc=>List.all_eq_true.mp (show List.all (bx _) (gW _ _) = true by decide +kernel) c hc⟩
theorem BH:gdP ⟨"addmul",.two "add" (.two "mul" (.hole 0) (.hole 1)) (.gap 0 99),[.int 6,.int 12,.tup [.str "low",.int 0]]⟩:=⟨⟨by decide +kernel,by simp [fS,okB],by decide,by decide,rfl⟩,⟨by decide +kernel,by decide⟩,⟨by decide +kernel,by decide +kernel⟩,by kernel_rfl,fun c hc=>List.all_eq_true.mp (show List.all (bx _) (gW _ _) = true by decide +kernel) c hc⟩
theorem BI:gdP ⟨"turned",.two "less" (.gap 0 99) (.hole 0),[.int 1,.tup [.str "low",.int 0],.int 14,.int 7]⟩:=⟨⟨by decide +kernel,by simp [fS,okB],by decide,by decide,rfl⟩,⟨by decide +kernel,by decide⟩,⟨by decide +kernel,by decide +kernel⟩,by kernel_rfl,fun c hc=>List.all_eq_true.mp (show List.all (bx _) (gW _ _) = true by decide +kernel) c hc⟩
theorem BJ:gdP ⟨"far",.two "add" (.hole 0) (.gap 0 9999),[.int 2,.tup [.str "low",.int 0],.tup [.str "high",.int 0],.int 4]⟩:=⟨⟨by decide +kernel,by simp [fS,okB],by decide,by decide,rfl⟩,⟨by decide +kernel,by decide⟩,⟨by decide +kernel,by decide +kernel⟩,by kernel_rfl,fun c hc=>List.all_eq_true.mp (show List.all (bx _) (gW _ _) = true by decide +kernel) c hc⟩
theorem BK:gdP ⟨"pair",.two "sub" (.gap 0 99) (.gap 1 99),[.int 1,.tup [.str "low",.int 0],.int 1,.tup [.str "low",.int 1],.int 5]⟩:=⟨⟨by decide +kernel,by simp [fS,okB],by decide,by decide,rfl⟩,⟨by decide +kernel,by decide⟩,⟨by decide +kernel,by decide +kernel⟩,by kernel_rfl,fun c hc=>List.all_eq_true.mp (show List.all (bx _) (gW _ _) = true by decide +kernel) c hc⟩
theorem oC:∀ p ∈ ALLP,gdP p:=by
  intro p hp
  simp only [ALLP,BP,LPP,List.cons_append,List.nil_append,List.append_nil,List.mem_cons,List.not_mem_nil,or_false] at hp
  rcases hp with rfl | rfl | rfl | rfl | rfl | rfl | rfl | rfl | rfl | rfl | rfl | rfl | rfl | rfl | rfl | rfl
  · exact Cn
  · exact Co
  · exact Cp
  · exact Cq
  · exact Cr
  · exact Cs
  · exact Ct
  · exact Cu
  · exact Cv
  · exact Cw
  · exact BF
  · exact BG
  · exact BH
  · exact BI
  · exact BJ
  · exact BK
theorem Ai:(ALLP.map (·.nm)).Nodup:=by decide +kernel
theorem Bp {ps:List Pc} (h:ps.Sublist ALLP):iG ps:=⟨fun p hp=>(oC p (h.subset hp)).ok,by have:=h.length_le; have e:ALLP.length = 16:=rfl; omega⟩
theorem ya {ps:List Pc} (h:ps.Sublist ALLP):(ps.map (·.nm)).Nodup:=(h.map (·.nm)).nodup Ai
theorem zI {ps:List Pc} (h:ps.Sublist ALLP):wM ps:=⟨ya h,fun p hp=>(oC p (h.subset hp)).nl⟩
theorem x8 {ps:List Pc} {t:Tr} (h:ps.Sublist ALLP) (lo:1 ≤ ps.length) (okt:okT t) (dp:bf t ≤ 8) (sz:aX t ≤ 40):jU ps t:=by
  have l:=h.length_le
  have e:ALLP.length = 16:=rfl
  exact ⟨Bp h,⟨lo,by omega,fun p hp=>(oC p (h.subset hp)).pc,ya h⟩,okt,dp,sz⟩
theorem x9 {ps:List Pc} (h:ps.Sublist ALLP):qB ps:=⟨zI h,fun p hp=>(oC p (h.subset hp)).cl⟩
def Ae (K:PySem.W.Frag):Sp:=fun vs H Q _=>∃ (a t:Addr) (ns:List Int) (p q:Int) (rest:List V),vs = [.ref a,.ref t]∧Scr K H a ns∧H t = some (.lst (.int p :: .int q :: rest))∧0 ≤ p ∧
  ∀ (sub:List Pc) (l:Addr) (ys:List V) (H':Hp) (p' q':Int),But t H H'→H' t = some (.lst (.int p' :: .int q' :: rest))→0 ≤ p'→sub.Sublist LPP→H l = none→H' l = some (.lst ys)→Dats K H' ((BP ++ sub).map pcD) ys→Q (.ref l) H'
theorem qL (T:Txt P w K mg) (IJ:FnOk P w K mg base CX0 k T.Ep T.Eu [] (kC K fun ds es=>ds = []∧es = LPD)) (C8:FnOk P w K mg base CX0 k T.DJ T.DL ["_law_script","_law_town","_law_many"] (mH K)):FnOk P w K mg base CX0 (k + 1) T.FV T.F0 ["_law_script","_law_town"] (Ae K):=by
  refine T.GN.ok sc__law_set (fun vs H Q E h=>?_) (fun cdv A outer s H vs Q E hr h=>?_)
  · obtain ⟨a,t,ns,p,q,rest,rfl,_⟩:=h; rfl
  have nd:=sc__law_set.nd
  obtain ⟨a,t,ns,p,q,rest,rfl,hS,hT,hp,post⟩:=h
  refine ⟨_,(aq (hW (i:=2) (own:=["_law_piece"]) (fr:=[0,1]) (N':=["_law_piece","_law_script","_law_town"]) (eB (xo IJ hr rfl T.Hy T.Fj.kp (mP T) .nil aZ)) rfl (by show cm ["_law_script","_law_town","_law_more"] (fun x=>(aB fR).names.lookup x) _ _ _ _ = true; decide +kernel) rfl (fun _ _ _ _ _=>(aW (i:=0) (by show List.Nodup [("_law_piece":Str),("_law_script":Str),("_law_town":Str)]; decide +kernel) rfl (Or.inl rfl))) (fun _ _ _ _ _=>(mx (aP bV (aF C8 hr rfl T.DO T.C9.kp (dC T) .nil aZ (aj (pv 1) (aj (pv 2) (aj ak ag)))) ak (aU _)))) (fun _ _ _ _ _=>(pv 0)) nd rfl rfl rfl)
  (ay (aL (bz dv (bp (v:=.ref T.Ip) rfl T.Ht rfl) (pv 2))))),?_⟩
  refine cJ (qY (K:=K) (fun r us H1=>Same H H1∧H r = none∧Dats K H1 LPD us) (fun R hR=>⟨[],LPD,Dats.nil,⟨rfl,rfl⟩,fun r us H1 s1 hr hr0 hd=>hR r us H1 hr ⟨s1,hr0,hd⟩⟩) rfl (fun r us H1 l hr hM hl=>?_))
  obtain ⟨s1,hr0,hd⟩:=hM
  have hT1:=s1 _ _ hT
  have nrt:r ≠ t:=Ne.symm (az hT hr0)
  have nlt:l ≠ t:=Ne.symm (az hT1 hl)
  have nlr:r ≠ l:=az hr hl
  have lu:=hd.length
  have lu8:us.length = 8:=by rw [← lu]; rfl
  refine ⟨
    (fun i G=>∃ (sub:List Pc) (ys:List V) (p' q':Int),But t H1 G∧G t = some (.lst (.int p' :: .int q' :: rest))∧0 ≤ p'∧sub.Sublist (LPP.take i)∧G l = some (.lst ys)∧Dats K G (sub.map pcD) ys∧sub.length ≤ i),?_,(fun i G hi ⟨_,_,_,_,b,_⟩=>SqL.of (b _ _ nrt hr)),(fun i G hi pn=>?_),(fun G pn=>?_)⟩
  · exact ⟨[],[],p,q,(aD hl _).but,by rw [aJ (Ne.symm nlt)]; exact hT1,hp,List.nil_sublist _,au,Dats.nil,Nat.le_refl _⟩
  · obtain ⟨sub,ys,p',q',bG,tG,gp,hsub,hlG,dG,lsub⟩:=pn
    have ly:=dG.length
    rw [List.length_map] at ly
    have gG:cQ K H1 G:=bG.grow hT1 tG
    have hdG:Dats K G LPD us:=Dats.mono gG _ hd
    obtain ⟨dx,ex,hx⟩:=hdG.getV (List.getElem?_eq_getElem hi)
    have hx':(LPP.map pcD)[i]? = some dx:=ex
    rw [List.getElem?_map] at hx'
    cases hpp:LPP[i]? with
    | none=>rw [hpp] at hx'; cases hx'
    | some pp =>
      rw [hpp] at hx'
      cases hx'
      have et:LPP.take (i + 1) = LPP.take i ++ [pp]:=by rw [List.take_add_one,hpp]; rfl
      have hitem:us.getD i .non = us[i]:=by rw [List.getD_eq_getElem?_getD,List.getElem?_eq_getElem hi]; rfl
      refine ⟨_,rfl,_,rfl,a,t,ns,2,p',q',rest,rfl,hS.but (s1.but.trans bG) hT,tG,gp,by decide,by decide,fun r3 G3 p3 q3 b3 t3 g3 r3a r3b=>?_⟩
      refine ⟨rfl,_,rfl,?_⟩
      have hl3:=b3 _ _ nlt hlG
      have g3':cQ K G G3:=b3.grow tG t3
      refine mV (fun c=>?_) (fun c=>?_)
      · refine ⟨_,rfl,ys,hl3,bJ (by omega),⟨_,rfl⟩,?_⟩
        rw [hitem]
        have b4:But l G3 (upd G3 l (.lst (ys ++ [us[i]]))):=But.upd (Same.refl _).but
        have g4:cQ K G3 (upd G3 l (.lst (ys ++ [us[i]]))):=b4.grow hl3 au
        refine ⟨sub ++ [pp],ys ++ [us[i]],p3,q3,fun b o nb hb=>b4 b o (az hb hl) (b3 b o nb (bG b o nb hb)),b4 _ _ (Ne.symm nlt) t3,g3,?_,au,?_,?_⟩
        · rw [et]; exact hsub.append (List.Sublist.refl _)
        · rw [List.map_append]
          exact Dats.append (Dats.mono g4 _ (Dats.mono g3' _ dG)) (Dats.cons (Dat.mono g4 _ (Dat.mono g3' _ hx)) Dats.nil)
        · rw [List.length_append]
          simp
          omega
      · refine ⟨⟨_,rfl⟩,sub,ys,p3,q3,bG.trans b3,t3,g3,?_,hl3,Dats.mono g3' _ dG,by omega⟩
        rw [et]
        exact hsub.trans (List.sublist_append_left _ _)
  · obtain ⟨sub,ys,p',q',bG,tG,gp,hsub,hlG,dG,lsub⟩:=pn
    have hL:LD K G (sub.map pcD) (.ref l):=LD.of hlG dG
    have hsub':sub.Sublist LPP:=hsub.trans (List.take_sublist _ _)
    refine dS (RC.use (K:=K) (dB (Bi T.JA) (bh (k:=2) hL) (by rw [List.length_map]; show 8 + sub.length ≤ 1000; omega)) fun lz zs G2 hlz s2 hzs dzs=>?_)
    refine post sub lz zs G2 p' q' ((s1.but.trans bG).trans s2.but) (s2 _ _ tG) gp hsub' ?_ hzs ?_
    · cases h:H lz with
      | none=>rfl
      | some o =>
        have h1:=s1 _ _ h
        by_cases e:lz = t
        · rw [e,tG] at hlz; cases hlz
        · rw [bG _ _ e h1] at hlz; cases hlz
    · rw [List.map_append,Cb]
      exact dzs
end
end My
end
section
namespace My
open PySem L2 PyProof.Rows
section
variable {P:Program} {w:World} {K:PySem.W.Frag} {mg:Str→Option Value} {base:Heap} {k:Nat}
def rj (K:PySem.W.Frag):Sp:=fun vs H Q _=>∃ (a:Addr) (ns:List Int),vs = [.ref a]∧Scr K H a ns∧∀ H',Q (.bl true) H'
theorem xU {σ:L2.St} {H:Hp} {ta tb:TE} {b c:Bool} (h1:RE K ta σ H (.bl b)) (h2:RE K tb σ H (.bl c)):RE K (tOp rNe ta tb) σ H (.bl (!decide (b = c))):=fun H1 s Q q =>
  h1 H1 s _ fun v H2 s2 q2=>h2 H2 (s.trans s2) _ fun w H3 s3 q3=>by
    rw [q2.blE,q3.blE]
    refine ⟨rfl,?_⟩
    have e:decide (V.bl b = V.bl c) = decide (b = c):=by cases b <;> cases c <;> rfl
    rw [e]
    exact q _ _ (s2.trans s3) (Dat.blI _)
theorem AX (T:Txt P w K mg) (GX:FnOk P w K mg base CX0 k T.D8 T.Ed ["_law_script","_law_town","_law_room"] (mI K 5)) (Jt:FnOk P w K mg base CX0 k T.FV T.F0 ["_law_script","_law_town"] (Ae K)) (GI:FnOk P w K mg base CX0 k T.ED T.EF ["_law_script","_law_town","_law_tree_here","_law_some"] (rh K 8)) (GW:FnOk P w K mg base CX0 k T.D5 T.Ea ["_law_script","_law_town","_law_cover"] (mG K 8)) (GJ:FnOk P w K mg base CX0 k T.EE T.EG ["_law_tree_here","_law_some","_law_cover"] (va K (i0 8))) (IL:FnOk P w K mg base CX0 k T.Es T.Ex ["tree","some","thing"] (spA K yt)) (Jn:FnOk P w K mg base CX0 k T.Fq T.Fw ["_law_tree_here","_law_some","_law_cover"] (x6 K)):FnOk P w K mg base CX0 (k + 1) T.Jp T.JB ["_law_script"] (rj K):=by
  refine T.JR.ok sc_law (fun vs H Q E h=>?_) (fun cdv A outer s H vs Q E hr h=>?_)
  · obtain ⟨a,ns,rfl,_⟩:=h; rfl
  have nd:=sc_law.nd
  obtain ⟨a,ns,rfl,hS,post⟩:=h
  refine' ⟨_,?ybody,?yread⟩
  case ybody =>
    refine' aq ?y17 ?y18
    case y17=>exact (bC (i:=1) nd rfl (Or.inl rfl) (bB (aj ak (aj ak (aj ak ag)))))
    case y18 =>
      refine' aq ?y15 ?y16
      case y15=>exact (xC (i:=2) (j:=3) rfl nd rfl rfl (by decide) rfl rfl (aj (aF GX hr rfl T.Hi T.FB.kp (kG T) .nil aZ (aj (pv 0) (aj (pv 1) (aj ak ag)))) (aj (aF Jt hr rfl T.IE T.GN.kp (rK T) .nil aZ (aj (pv 0) (aj (pv 1) ag))) ag)) (by kernel_rfl))
      case y16 =>
        refine' aq ?y13 ?y14
        case y13=>exact (bC (i:=4) nd rfl (Or.inl rfl) (aF GW hr rfl T.Hg T.Fz.kp (kE T) .nil aZ (aj (pv 0) (aj (pv 1) (aj (aF GI hr rfl T.GP T.Fd.kp (i5 T) .nil aZ (aj (pv 0) (aj (pv 1) (aj (pv 2) (aj (pv 3) ag))))) ag)))))
        case y14 =>
          refine' aq ?y11 ?y12
          case y11=>exact (bC (i:=5) nd rfl (Or.inl rfl) (aF GJ hr rfl T.GQ T.Fe.kp (i6 T) .nil aZ (aj (pv 2) (aj (pv 3) (aj (pv 4) ag)))))
          case y12 =>
            refine' aq ?y9 ?y10
            case y9=>exact (bC (i:=6) nd rfl (Or.inl rfl) (aF IL hr rfl T.HA T.Fl.kp (mR T) .nil aZ (aj (pv 2) (aj (pv 3) (aj (pv 4) ag)))))
            case y10 =>
              refine' aq ?y7 ?y8
              case y7 =>
                refine' bu ?y2 ?y3 ?y4
                case y2=>exact (PW.pt (cW (bM (br (aH (cC tI) rfl T.CJ aQ (aV (pv 6) (aV (dj (v:=.ty "bool") rfl T.Jw sV rfl) ag))) (fun _=>rfl))) (dm (aP gF (pv 6) (cf tS (pv 5) fw (aU _)) (aU _)))))
                case y3 =>
                  refine' ay ?y1
                  case y1=>exact (aL cE)
                case y4=>exact aS
              case y8 =>
                refine' ay ?y6
                case y6 =>
                  refine' aL ?y5
                  case y5=>exact (cf ((xi hr).or (oY hr)) (aF Jn hr rfl T.Ij T.Gf.kp (pR T) .nil aZ (aj (pv 2) (aj (pv 3) (aj (pv 4) ag)))) (iH (aP AY (pv 5) fw (aU _)) (aT (aj aM (aj ak ag))) (bz dv (pv 5) (bB (aj ak ag)))) (aU _))
  case yread =>
    refine cJ ⟨bW (by decide),fun t ht=>?_⟩
    have hS0:=hS.same (aD ht (.lst [.int 0,.int 0,.int 6]))
    refine cO ?_
    refine ⟨_,rfl,_,rfl,a,t,ns,5,0,0,6,rfl,hS0,au,by decide,by decide,by decide,by decide,by decide,fun v1 H1 X p1 q1 c1 b1 t1 g1 gc1 gd1 okX dp1 sz1 dX=>?_⟩
    refine ⟨_,rfl,_,rfl,a,t,ns,p1,q1,[.int c1],rfl,hS0.but b1 au,t1,g1,fun sub l ys H3 p3 q3 b3 t3 g3 hsub hl hy dy=>⟨v1,.ref l,rfl,?_⟩⟩
    have hS3:=(hS0.but b1 au).but b3 t1
    have dX3:Dat K H3 (toD X) v1:=Dat.mono (b3.grow t1 t3) _ dX
    have dp8:bf X ≤ 8:=by omega
    have sz40:aX X ≤ 40:=by omega
    have nlt:l ≠ t:=Ne.symm (az t1 hl)
    have hps:(BP ++ sub).Sublist ALLP:=(List.Sublist.refl BP).append hsub
    have hBP:∀ p ∈ BP,p ∈ BP ++ sub:=fun p hp=>List.mem_append_left _ hp
    have lo:1 ≤ (BP ++ sub).length:=by rw [List.length_append]; show 1 ≤ 8 + sub.length; omega
    generalize BP ++ sub = ps at hps dy hBP lo
    have gi:jU ps X:=x8 hps lo okX dp8 sz40
    have la:=x9 hps
    have hL:LD K H3 (ps.map pcD) (.ref l):=LD.of hy dy
    have nv:V.ref l ≠ .ref t:=fun z=>nlt (by injection z)
    dsimp only
    refine cJ ⟨_,rfl,_,rfl,bS (dO ⟨_,rfl,_,rfl,_,rfl,_,rfl,a,t,ns,X,v1,.ref l,ps,p3,q3,[.int c1],rfl,hS3,t3,g3,gi.os,hBP,okX,dp8,by decide,dX3,hL,nv,fun vc H4 c p4 q4 b4 t4 g4 hsh dc=>?_⟩)⟩
    have hS4:=hS3.but b4 t3
    refine ⟨a,t,ns,c,vc,p4,q4,[.int c1],rfl,hS4,t4,g4,hsh,by decide,dc,fun v5 H5 c5 p5 q5 b5 t5 g5 okc d5=>?_⟩
    have bt:But t H3 H5:=b4.trans b5
    have dX5:Dat K H5 (toD X) v1:=Dat.mono (bt.grow t3 t5) _ dX3
    have hL5:LD K H5 (ps.map pcD) (.ref l):=LD.but hL nv bt t3 t5
    have cov:=kU la.ls.nd gi.os.ok 8 X c5
    have rA:∀ {G:Hp} {σ:L2.St},Same H5 G→σ[2]? = some (some v1)→σ[3]? = some (some (.ref l))→σ[4]? = some (some v5)→RB K (bD (dJ 2) (bD (dJ 3) (bD (dJ 4) dt))) σ G [.d (toD X),.l (ps.map pcD),.d c5]:=fun sG e2 e3 e4=>dn (ae (k:=2) (sG.dat dX5) e2) (dP (bh (k:=3) (sG.ld hL5) e3) (dn (ae (k:=4) (sG.dat d5) e4) b0))
    refine cJ (iI (K:=K) (R:=i0 8) (rA (Same.refl _) rfl rfl rfl) ⟨ps,X,c5,rfl,gi.os,la,okX,dp8,by decide,sz40,okc 8,rfl⟩ H5 (Same.refl _) _ (fun eN G sG=>?_) (fun es eS lz zs G hlz sG hzs dzs=>?_))
    · rw [eN] at cov
      refine eG (K:=K) (d:=.bl false) (RE.as (dD (R:=yt) (rA sG rfl rfl rfl) ⟨ps,X,c5,rfl,gi,rfl⟩) (by rw [cov]; rfl)) fun vt G2 s2 qt=>?_
      refine aN (K:=K) (b:=false) (RT.as (bN (b:=false) (RT.as (bo (aO (bA (ae (k:=6) qt)))) rfl) fun _=>aC (xU (ae (k:=6) qt) (lg (ae (k:=5) (d:=.non) Dat.nonI)))) rfl) (fun c=>nomatch c) (fun _ G3 s3=>?_)
      have s13:=sG.trans (s2.trans s3)
      refine dS (zp (dO (RB.use (K:=K) (rA s13 rfl rfl rfl) fun vs G4 s4 q4=>⟨ps,X,c5,by rw [List.append_nil]; exact q4,gi,la,(fun xs e=>by rw [eN] at e; cases e),fun _ v G5 s5 qv=>?_⟩)))
      refine RT.use (b:=true) (aC (xT (K:=K) (ae (k:=5) (d:=.non) Dat.nonI))) fun G6 s6=>jH (RE.use (K:=K) (d:=uZ 8) (aY (af aI (af ao aA))) fun w G7 s7 qw=>.inl ⟨uZ 8,uZ 8,(s6.trans s7).dat qv,qw,rfl,rfl,by decide +kernel,?_⟩)
      rw [jz _ rfl]
      exact post G7
    · rw [eS] at cov
      obtain ⟨nn,rfl⟩:=iA 8 X c5 es eS
      have l9:(nn.map D.int).length ≤ 900:=by have:=fg gi.os.ok 8 X c5 _ eS; omega
      have hC:LD K G (nn.map D.int) (.ref lz):=LD.of hzs dzs
      refine eG (K:=K) (d:=.bl true) (RE.as (dD (R:=yt) (rA sG rfl rfl rfl) ⟨ps,X,c5,rfl,gi,rfl⟩) (by rw [cov]; rfl)) fun vt G2 s2 qt=>?_
      have hC2:=s2.ld hC
      refine aN (K:=K) (b:=false) (RT.as (bN (b:=false) (RT.as (bo (aO (bA (ae (k:=6) qt)))) rfl) fun _=>aC (xU (ae (k:=6) qt) (lg (ae (k:=5) hC2.lst)))) rfl) (fun c=>nomatch c) (fun _ G3 s3=>?_)
      have s13:=sG.trans (s2.trans s3)
      have hC3:=s3.ld hC2
      refine dS (zp (dO (RB.use (K:=K) (rA s13 rfl rfl rfl) fun vs G4 s4 q4=>⟨ps,X,c5,by rw [List.append_nil]; exact q4,gi,la,(fun xs e r us G5 s5 hr hr0 hd=>?_),fun e=>by rw [eS] at e; cases e⟩)))
      rw [eS] at e
      cases e
      have hC5:=(s4.trans s5).ld hC3
      refine RT.use (b:=false) (aC (xT (K:=K) (ae (k:=5) hC5.lst))) fun G6 s6=>kR (RC.use (K:=K) (dB (bh (k:=5) (s6.ld hC5)) (gd (fz (es:=[.int 0]) (af ao aA))) (by show (nn.map D.int).length + 1 ≤ 1000; omega)) fun w ws G7 hw0 s7 hw dw=>.inr ⟨r,w,us,ws,_,_,rfl,rfl,SqL.of ((s6.trans s7) _ _ hr),SqL.of hw,(s6.trans s7).dats hd,dw,?_,?_,?_,?_⟩)
      · rw [show nn.map D.int ++ [D.int 0] = (nn ++ [0]).map D.int by simp]; exact gE _
      · rw [show nn.map D.int ++ [D.int 0] = (nn ++ [0]).map D.int by simp]; exact gE _
      · rw [show nn.map D.int ++ [D.int 0] = (nn ++ [0]).map D.int by simp]; exact Nat.le_trans (nr _) (by decide)
      · have e:dE (nn.map D.int ++ [D.int 0]) (nn.map D.int ++ [D.int 0]) = true:=by
          rw [← wg]
          refine jz _ ?_
          rw [show nn.map D.int ++ [D.int 0] = (nn ++ [0]).map D.int by simp]
          simp only [noL]
          exact gE _
        rw [e]
        exact post G7
end
end My
end
namespace My
open PySem L2 PyProof.Rows
section
variable {P:Program} {w:World} {K:PySem.W.Frag} {mg:Str→Option Value} {base:Heap} {k:Nat}
theorem wX (vs:List V) (H:Hp) (Q:VK) (E:XK):¬ mI K 0 vs H Q E:=fun ⟨a,t,ns,room,p,q,c,_,_,_,_,_,_,_,h,_⟩=>by omega
theorem uI (vs:List V) (H:Hp) (Q:VK) (E:XK):¬ kC K (iw 0) vs H Q E:=fun ⟨ds,es,_,⟨x,k,_,_,h,_⟩,_⟩=>nomatch h
theorem wW (vs:List V) (H:Hp) (Q:VK) (E:XK):¬ spD K (zP 0) vs H Q E:=fun ⟨ds,es,_,h,_⟩=>h
theorem yT (vs:List V) (H:Hp) (Q:VK) (E:XK):¬ va K (i0 0) vs H Q E:=fun ⟨as,o,_,⟨ps,t,c,_,_,_,_,h,_⟩,_⟩=>by
  have:1 ≤ bf t:=by cases t <;> simp [bf]
  omega
theorem wV (vs:List V) (H:Hp) (Q:VK) (E:XK):¬ jk K (iu 0) vs H Q E:=fun ⟨as,es,_,⟨ps,t,c,_,_,_,_,h,_⟩,_⟩=>by
  have:1 ≤ bf t:=by cases t <;> simp [bf]
  omega
theorem yS (vs:List V) (H:Hp) (Q:VK) (E:XK):¬ spA K (jW 0) vs H Q E:=fun ⟨as,d,_,h,_⟩=>yR as d h
theorem chain (T:Txt P w K mg):FnOk P w K mg base CX0 25 T.Jp T.JB ["_law_script"] (rj K):=by
  have w1:=qO (P:=P) (w:=w) (base:=base) (k:=0) T
  have g1:=oS (P:=P) (w:=w) (base:=base) (k:=0) T
  have n2:=sf (k:=1) T g1 w1
  have wi:=kT (P:=P) (w:=w) (base:=base) (k:=0) T
  have it:=si (k:=2) T n2 (wi.mono (by decide))
  have nt:=oW (k:=3) T it
  have nm:=r9 (P:=P) (w:=w) (base:=base) (k:=0) T
  have mk:=r8 (k:=1) T g1 w1
  have pp:∀ n:Nat,FnOk P w K mg base CX0 (n + 3) T.CT T.CU ["thing","deep"] (spD K (Rpp n)):=by
    intro n
    induction n with
    | zero=>exact fN (k:=2) (n:=0) T mk n2 (wi.mono (by decide)) (dQ wW)
    | succ n ih=>exact fN (k:=n + 3) (n:=n + 1) T (mk.mono (by omega)) (n2.mono (by omega)) (wi.mono (by omega)) ih
  have ma:∀ n:Nat,FnOk P w K mg base CX0 (n + 1) T.D9 T.Ee ["pattern","kind"] (kC K (iw n)):=by
    intro n
    induction n with
    | zero=>exact dQ uI
    | succ n ih=>exact qP (k:=n + 1) T (wi.mono (by omega)) ih
  have nu:=mq (k:=4) T (ma 3)
  have pa:=mY (k:=6) T (pp 3) (nu.mono (by decide))
  have fi:=mX (k:=4) T (g1.mono (by decide)) (ma 3) (w1.mono (by decide))
  have ce:=r6 (k:=5) T (w1.mono (by decide)) fi
  have ins:=jK (P:=P) (w:=w) (base:=base) (k:=0) T
  have ai:=iZ (k:=6) T (w1.mono (by decide)) (ins.mono (by decide)) ce
  have pc:=qN (k:=7) T (nm.mono (by decide)) pa ai
  have ms:=kn (P:=P) (w:=w) (base:=base) (k:=0) T
  have mt:∀ n:Nat,FnOk P w K mg base CX0 (n + 1) T.E7 T.Fb ["pattern","tree","found"] (iJ K oD n):=by
    intro n
    induction n with
    | zero=>exact dQ tN
    | succ n ih=>exact sj (k:=n + 1) T (ms.mono (by omega)) ih
  have fo:=qM (k:=4) T (mt 3)
  have lf:∀ n:Nat,FnOk P w K mg base CX0 n T.D6 T.Eb ["_law_pattern","_law_tree_here","_law_found"] (iJ K oL n):=by
    intro n
    induction n with
    | zero=>exact dQ tN
    | succ n ih=>exact qJ (k:=n) T ih
  have jo:=oU (P:=P) (w:=w) (base:=base) (k:=0) T
  have jp:=km (k:=1) T jo
  have wo:=sk (k:=5) T fo
  have st:=uL (k:=9) T (pc.mono (by decide))
  have ns:=qQ (k:=10) T st
  have cv:∀ n:Nat,FnOk P w K mg base CX0 (2 * n + 6) T.CW T.CY ["tree","some","thing"] (spA K (jW n)):=by
    intro n
    induction n with
    | zero=>exact dQ yS
    | succ n ih =>
      have ar:=jJ (k:=2 * n + 6) T ih
      exact kl (k:=2 * n + 7) T (g1.mono (by omega)) (wo.mono (by omega)) ar
  have ic:=mn (k:=22) T (nt.mono (by decide)) (ns.mono (by decide)) (cv 8)
  have fc:=mm (P:=P) (w:=w) (base:=base) (k:=0) T
  have lc:∀ n:Nat,FnOk P w K mg base CX0 (2 * n + 6) T.Du T.Dv ["tree","some","cover","places"] (jk K (iu n)):=by
    intro n
    induction n with
    | zero=>exact dQ wV
    | succ n ih =>
      have pk:=oV (k:=2 * n + 6) T ih (jp.mono (by omega))
      have pp:=m4 (k:=2 * n + 6) T ih (fo.mono (by omega)) (fc.mono (by omega))
      exact mZ (k:=2 * n + 7) T pk pp
  have ld:=yX (k:=22) T (nt.mono (by decide)) (ns.mono (by decide)) (cv 8) (lc 8)
  have ju:=oO (P:=P) (w:=w) (base:=base) (k:=0) T
  have fl:=oN (P:=P) (w:=w) (base:=base) (k:=0) T
  have la:∀ n:Nat,FnOk P w K mg base CX0 (n + 3) T.EE T.EG ["_law_tree_here","_law_some","_law_cover"] (va K (i0 n)):=by
    intro n
    induction n with
    | zero=>exact dQ yT
    | succ n ih=>exact qK (k:=n + 3) T ih (ju.mono (by omega)) ((lf 3).mono (by omega)) (fl.mono (by omega))
  have wh:=mW (P:=P) (w:=w) (base:=base) (k:=22) T
  have ll:=oP (k:=23) T ld wh
  have lp:=ml (P:=P) (w:=w) (base:=base) (k:=0) T
  have dr:=oM (P:=P) (w:=w) (base:=base) (k:=0) T
  have pk:=oQ (k:=1) T dr
  have tr:∀ n:Nat,FnOk P w K mg base CX0 (n + 2) T.D8 T.Ed ["_law_script","_law_town","_law_room"] (mI K n):=by
    intro n
    induction n with
    | zero=>exact dQ wX
    | succ n ih=>exact oR (k:=n + 2) T (dr.mono (by omega)) (pk.mono (by omega)) ih
  have an:∀ n:Nat,FnOk P w K mg base CX0 (n + 3) T.ED T.EF ["_law_script","_law_town","_law_tree_here","_law_some"] (rh K n):=by
    intro n
    induction n with
    | zero=>exact dQ yQ
    | succ n ih=>exact qI (k:=n + 3) T ih ((lf 3).mono (by omega)) (pk.mono (by omega))
  have be:∀ n:Nat,FnOk P w K mg base CX0 (n + 2) T.D5 T.Ea ["_law_script","_law_town","_law_cover"] (mG K n):=by
    intro n
    induction n with
    | zero=>exact dQ wU
    | succ n ih=>exact oK (k:=n + 2) T ih (dr.mono (by omega)) (pk.mono (by omega))
  have ls:=qL (k:=1) T (lp.mono (by decide)) (dr.mono (by decide))
  exact AX (k:=24) T ((tr 5).mono (by decide)) (ls.mono (by decide)) ((an 8).mono (by decide)) ((be 8).mono (by decide)) ((la 8).mono (by decide)) (ic.mono (by decide)) ll
end
abbrev NsD (K:PySem.W.Frag) (n:Str) (f:Addr):Prop:=PySem.W.nsIn K mainGlobals n = some (some (.ref f))
abbrev LkD (K:PySem.W.Frag) (n:Str) (st:Stmt) (f:Addr) (oc:Value) (od:Option Addr) (sl:Array (Option Value)) (kV dc pm:Value) (an:Option Addr) (cd ct:Value):Prop:=K.lookup f = some ⟨oc,od,.func (PySem.W.fnOf n n (jy st) (fV st) (aB st) .none kV dc pm an cd ct),sl⟩
theorem all_mk {l:PySem.W.OpenLaw} {w:World} {K:PySem.W.Frag} {h:Heap} {mg:Str→Option Value} {fa:Addr} (X:K.In h) (G:h.Ns mainGlobals mg) (hfa:mg "law" = some (.ref fa))
    {f1 f2 f3 f4 f5 f6 f7 f8 f9 f10 f11 f12 f13 f14 f15 f16 f17 f18 f19 f20 f21 f22 f23 f24 f25 f26 f27 f28 f29 f30 f31 f32 f33 f34 f35 f36 f37 f38 f39 f40 f41 f42 f43 f44 f45 f46 f47:Addr} {od1 od2 od3 od4 od5 od6 od7 od8 od9 od10 od11 od12 od13 od14 od15 od16 od17 od18 od19 od20 od21 od22 od23 od24 od25 od26 od27 od28 od29 od30 od31 od32 od33 od34 od35 od36 od37 od38 od39 od40 od41 od42 od43 od44 od45 od46 od47 an1 an2 an3 an4 an5 an6 an7 an8 an9 an10 an11 an12 an13 an14 an15 an16 an17 an18 an19 an20 an21 an22 an23 an24 an25 an26 an27 an28 an29 an30 an31 an32 an33 an34 an35 an36 an37 an38 an39 an40 an41 an42 an43 an44 an45 an46 an47:Option Addr} {sl1 sl2 sl3 sl4 sl5 sl6 sl7 sl8 sl9 sl10 sl11 sl12 sl13 sl14 sl15 sl16 sl17 sl18 sl19 sl20 sl21 sl22 sl23 sl24 sl25 sl26 sl27 sl28 sl29 sl30 sl31 sl32 sl33 sl34 sl35 sl36 sl37 sl38 sl39 sl40 sl41 sl42 sl43 sl44 sl45 sl46 sl47:Array (Option Value)} {oc1 oc2 oc3 oc4 oc5 oc6 oc7 oc8 oc9 oc10 oc11 oc12 oc13 oc14 oc15 oc16 oc17 oc18 oc19 oc20 oc21 oc22 oc23 oc24 oc25 oc26 oc27 oc28 oc29 oc30 oc31 oc32 oc33 oc34 oc35 oc36 oc37 oc38 oc39 oc40 oc41 oc42 oc43 oc44 oc45 oc46 oc47 kV1 kV2 kV3 kV4 kV5 kV6 kV7 kV8 kV9 kV10 kV11 kV12 kV13 kV14 kV15 kV16 kV17 kV18 kV19 kV20 kV21 kV22 kV23 kV24 kV25 kV26 kV27 kV28 kV29 kV30 kV31 kV32 kV33 kV34 kV35 kV36 kV37 kV38 kV39 kV40 kV41 kV42 kV43 kV44 kV45 kV46 kV47 dc1 dc2 dc3 dc4 dc5 dc6 dc7 dc8 dc9 dc10 dc11 dc12 dc13 dc14 dc15 dc16 dc17 dc18 dc19 dc20 dc21 dc22 dc23 dc24 dc25 dc26 dc27 dc28 dc29 dc30 dc31 dc32 dc33 dc34 dc35 dc36 dc37 dc38 dc39 dc40 dc41 dc42 dc43 dc44 dc45 dc46 dc47 pm1 pm2 pm3 pm4 pm5 pm6 pm7 pm8 pm9 pm10 pm11 pm12 pm13 pm14 pm15 pm16 pm17 pm18 pm19 pm20 pm21 pm22 pm23 pm24 pm25 pm26 pm27 pm28 pm29 pm30 pm31 pm32 pm33 pm34 pm35 pm36 pm37 pm38 pm39 pm40 pm41 pm42 pm43 pm44 pm45 pm46 pm47 cd1 cd2 cd3 cd4 cd5 cd6 cd7 cd8 cd9 cd10 cd11 cd12 cd13 cd14 cd15 cd16 cd17 cd18 cd19 cd20 cd21 cd22 cd23 cd24 cd25 cd26 cd27 cd28 cd29 cd30 cd31 cd32 cd33 cd34 cd35 cd36 cd37 cd38 cd39 cd40 cd41 cd42 cd43 cd44 cd45 cd46 cd47 ct1 ct2 ct3 ct4 ct5 ct6 ct7 ct8 ct9 ct10 ct11 ct12 ct13 ct14 ct15 ct16 ct17 ct18 ct19 ct20 ct21 ct22 ct23 ct24 ct25 ct26 ct27 ct28 ct29 ct30 ct31 ct32 ct33 ct34 ct35 ct36 ct37 ct38 ct39 ct40 ct41 ct42 ct43 ct44 ct45 ct46 ct47:Value}
    {E4:Tok}
    {FG:Tok}
    {Eh:Tok}
    {FF:Tok}
    {C7:Tok}
    {Gc:Tok}
    {Dp:Tok}
    {Ez:Tok}
    {FH:Tok}
    {Js:Tok}
    {IH:Tok}
    {FZ:Addr}
    {EW:Addr}
    {DD:Addr}
    {Gh:Addr}
    {FY:Addr}
    {HF:Addr}
    {Ja:Addr}
    {Iv:Addr}
    {Jb:Addr}
    {ob_MARK_LENGTHS:Obj}
    {GM:Addr}
    {IB:Addr}
    {IC:Addr}
    {Iy:Addr}
    {Iz:Addr}
    {Ia:Addr}
    {Jv:Addr}
    {HZ:Addr}
    {Jd:Addr}
    {CL:Addr}
    {HY:Addr}
    {IA:Addr}
    {Je:Addr}
    {Jc:Addr}
    {Iw:Addr}
    (a1:NsD K "is_whole" f1) (l1:LkD K "is_whole" ig f1 oc1 od1 sl1 kV1 dc1 pm1 an1 cd1 ct1) (c1:PySem.W.codeIn K cd1 "is_whole" = true) (k1:PySem.W.keepIn K (.ref f1) = true)
    (a2:NsD K "is_tagged" f2) (l2:LkD K "is_tagged" gq f2 oc2 od2 sl2 kV2 dc2 pm2 an2 cd2 ct2) (c2:PySem.W.codeIn K cd2 "is_tagged" = true) (k2:PySem.W.keepIn K (.ref f2) = true)
    (a3:NsD K "is_node" f3) (l3:LkD K "is_node" iR f3 oc3 od3 sl3 kV3 dc3 pm3 an3 cd3 ct3) (c3:PySem.W.codeIn K cd3 "is_node" = true) (k3:PySem.W.keepIn K (.ref f3) = true)
    (a4:NsD K "trees_within" f4) (l4:LkD K "trees_within" eI f4 oc4 od4 sl4 kV4 dc4 pm4 an4 cd4 ct4) (c4:PySem.W.codeIn K cd4 "trees_within" = true) (k4:PySem.W.keepIn K (.ref f4) = true)
    (a5:NsD K "is_tree" f5) (l5:LkD K "is_tree" gM f5 oc5 od5 sl5 kV5 dc5 pm5 an5 cd5 ct5) (c5:PySem.W.codeIn K cd5 "is_tree" = true) (k5:PySem.W.keepIn K (.ref f5) = true)
    (a6:NsD K "need_tree" f6) (l6:LkD K "need_tree" gu f6 oc6 od6 sl6 kV6 dc6 pm6 an6 cd6 ct6) (c6:PySem.W.codeIn K cd6 "need_tree" = true) (k6:PySem.W.keepIn K (.ref f6) = true)
    (a7:NsD K "is_name" f7) (l7:LkD K "is_name" gK f7 oc7 od7 sl7 kV7 dc7 pm7 an7 cd7 ct7) (c7:PySem.W.codeIn K cd7 "is_name" = true) (k7:PySem.W.keepIn K (.ref f7) = true)
    (a8:NsD K "instruction_at" f8) (l8:LkD K "instruction_at" dH f8 oc8 od8 sl8 kV8 dc8 pm8 an8 cd8 ct8) (c8:PySem.W.codeIn K cd8 "instruction_at" = true) (k8:PySem.W.keepIn K (.ref f8) = true)
    (a9:NsD K "is_mark" f9) (l9:LkD K "is_mark" iQ f9 oc9 od9 sl9 kV9 dc9 pm9 an9 cd9 ct9) (c9:PySem.W.codeIn K cd9 "is_mark" = true) (k9:PySem.W.keepIn K (.ref f9) = true)
    (a10:NsD K "is_pattern_part" f10) (l10:LkD K "is_pattern_part" cH f10 oc10 od10 sl10 kV10 dc10 pm10 an10 cd10 ct10) (c10:PySem.W.codeIn K cd10 "is_pattern_part" = true) (k10:PySem.W.keepIn K (.ref f10) = true)
    (a11:NsD K "marks_in" f11) (l11:LkD K "marks_in" ij f11 oc11 od11 sl11 kV11 dc11 pm11 an11 cd11 ct11) (c11:PySem.W.codeIn K cd11 "marks_in" = true) (k11:PySem.W.keepIn K (.ref f11) = true)
    (a12:NsD K "is_numbered" f12) (l12:LkD K "is_numbered" dU f12 oc12 od12 sl12 kV12 dc12 pm12 an12 cd12 ct12) (c12:PySem.W.codeIn K cd12 "is_numbered" = true) (k12:PySem.W.keepIn K (.ref f12) = true)
    (a13:NsD K "is_pattern" f13) (l13:LkD K "is_pattern" eH f13 oc13 od13 sl13 kV13 dc13 pm13 an13 cd13 ct13) (c13:PySem.W.codeIn K cd13 "is_pattern" = true) (k13:PySem.W.keepIn K (.ref f13) = true)
    (a14:NsD K "is_filling" f14) (l14:LkD K "is_filling" fG f14 oc14 od14 sl14 kV14 dc14 pm14 an14 cd14 ct14) (c14:PySem.W.codeIn K cd14 "is_filling" = true) (k14:PySem.W.keepIn K (.ref f14) = true)
    (a15:NsD K "is_cell" f15) (l15:LkD K "is_cell" iP f15 oc15 od15 sl15 kV15 dc15 pm15 an15 cd15 ct15) (c15:PySem.W.codeIn K cd15 "is_cell" = true) (k15:PySem.W.keepIn K (.ref f15) = true)
    (a16:NsD K "are_instructions" f16) (l16:LkD K "are_instructions" cx f16 oc16 od16 sl16 kV16 dc16 pm16 an16 cd16 ct16) (c16:PySem.W.codeIn K cd16 "are_instructions" = true) (k16:PySem.W.keepIn K (.ref f16) = true)
    (a17:NsD K "is_piece" f17) (l17:LkD K "is_piece" ie f17 oc17 od17 sl17 kV17 dc17 pm17 an17 cd17 ct17) (c17:PySem.W.codeIn K cd17 "is_piece" = true) (k17:PySem.W.keepIn K (.ref f17) = true)
    (a18:NsD K "is_set" f18) (l18:LkD K "is_set" gL f18 oc18 od18 sl18 kV18 dc18 pm18 an18 cd18 ct18) (c18:PySem.W.codeIn K cd18 "is_set" = true) (k18:PySem.W.keepIn K (.ref f18) = true)
    (a19:NsD K "need_set" f19) (l19:LkD K "need_set" ik f19 oc19 od19 sl19 kV19 dc19 pm19 an19 cd19 ct19) (c19:PySem.W.codeIn K cd19 "need_set" = true) (k19:PySem.W.keepIn K (.ref f19) = true)
    (a20:NsD K "may_stand_for" f20) (l20:LkD K "may_stand_for" dZ f20 oc20 od20 sl20 kV20 dc20 pm20 an20 cd20 ct20) (c20:PySem.W.codeIn K cd20 "may_stand_for" = true) (k20:PySem.W.keepIn K (.ref f20) = true)
    (a21:NsD K "matches" f21) (l21:LkD K "matches" iS f21 oc21 od21 sl21 kV21 dc21 pm21 an21 cd21 ct21) (c21:PySem.W.codeIn K cd21 "matches" = true) (k21:PySem.W.keepIn K (.ref f21) = true)
    (a22:NsD K "found_in" f22) (l22:LkD K "found_in" ib f22 oc22 od22 sl22 kV22 dc22 pm22 an22 cd22 ct22) (c22:PySem.W.codeIn K cd22 "found_in" = true) (k22:PySem.W.keepIn K (.ref f22) = true)
    (a23:NsD K "filled_cell" f23) (l23:LkD K "filled_cell" e8 f23 oc23 od23 sl23 kV23 dc23 pm23 an23 cd23 ct23) (c23:PySem.W.codeIn K cd23 "filled_cell" = true) (k23:PySem.W.keepIn K (.ref f23) = true)
    (a24:NsD K "jump_over" f24) (l24:LkD K "jump_over" gr f24 oc24 od24 sl24 kV24 dc24 pm24 an24 cd24 ct24) (c24:PySem.W.codeIn K cd24 "jump_over" = true) (k24:PySem.W.keepIn K (.ref f24) = true)
    (a25:NsD K "jumps_of_pick" f25) (l25:LkD K "jumps_of_pick" dY f25 oc25 od25 sl25 kV25 dc25 pm25 an25 cd25 ct25) (c25:PySem.W.codeIn K cd25 "jumps_of_pick" = true) (k25:PySem.W.keepIn K (.ref f25) = true)
    (a26:NsD K "ways_of" f26) (l26:LkD K "ways_of" iT f26 oc26 od26 sl26 kV26 dc26 pm26 an26 cd26 ct26) (c26:PySem.W.codeIn K cd26 "ways_of" = true) (k26:PySem.W.keepIn K (.ref f26) = true)
    (a27:NsD K "is_covered_by" f27) (l27:LkD K "is_covered_by" dW f27 oc27 od27 sl27 kV27 dc27 pm27 an27 cd27 ct27) (c27:PySem.W.codeIn K cd27 "is_covered_by" = true) (k27:PySem.W.keepIn K (.ref f27) = true)
    (a28:NsD K "are_covered_by" f28) (l28:LkD K "are_covered_by" cP f28 oc28 od28 sl28 kV28 dc28 pm28 an28 cd28 ct28) (c28:PySem.W.codeIn K cd28 "are_covered_by" = true) (k28:PySem.W.keepIn K (.ref f28) = true)
    (a29:NsD K "is_covering" f29) (l29:LkD K "is_covering" e9 f29 oc29 od29 sl29 kV29 dc29 pm29 an29 cd29 ct29) (c29:PySem.W.codeIn K cd29 "is_covering" = true) (k29:PySem.W.keepIn K (.ref f29) = true)
    (a30:NsD K "laid_pick" f30) (l30:LkD K "laid_pick" fk f30 oc30 od30 sl30 kV30 dc30 pm30 an30 cd30 ct30) (c30:PySem.W.codeIn K cd30 "laid_pick" = true) (k30:PySem.W.keepIn K (.ref f30) = true)
    (a31:NsD K "laid_piece" f31) (l31:LkD K "laid_piece" dI f31 oc31 od31 sl31 kV31 dc31 pm31 an31 cd31 ct31) (c31:PySem.W.codeIn K cd31 "laid_piece" = true) (k31:PySem.W.keepIn K (.ref f31) = true)
    (a32:NsD K "laid_cells" f32) (l32:LkD K "laid_cells" fH f32 oc32 od32 sl32 kV32 dc32 pm32 an32 cd32 ct32) (c32:PySem.W.codeIn K cd32 "laid_cells" = true) (k32:PySem.W.keepIn K (.ref f32) = true)
    (a33:NsD K "laid" f33) (l33:LkD K "laid" pD f33 oc33 od33 sl33 kV33 dc33 pm33 an33 cd33 ct33) (c33:PySem.W.codeIn K cd33 "laid" = true) (k33:PySem.W.keepIn K (.ref f33) = true)
    (a34:NsD K "_law_draw" f34) (l34:LkD K "_law_draw" gh f34 oc34 od34 sl34 kV34 dc34 pm34 an34 cd34 ct34) (c34:PySem.W.codeIn K cd34 "_law_draw" = true) (k34:PySem.W.keepIn K (.ref f34) = true)
    (a35:NsD K "_law_pick" f35) (l35:LkD K "_law_pick" gn f35 oc35 od35 sl35 kV35 dc35 pm35 an35 cd35 ct35) (c35:PySem.W.codeIn K cd35 "_law_pick" = true) (k35:PySem.W.keepIn K (.ref f35) = true)
    (a36:NsD K "_law_tree" f36) (l36:LkD K "_law_tree" fj f36 oc36 od36 sl36 kV36 dc36 pm36 an36 cd36 ct36) (c36:PySem.W.codeIn K cd36 "_law_tree" = true) (k36:PySem.W.keepIn K (.ref f36) = true)
    (a37:NsD K "_law_pieces" f37) (l37:LkD K "_law_pieces" eZ f37 oc37 od37 sl37 kV37 dc37 pm37 an37 cd37 ct37) (c37:PySem.W.codeIn K cd37 "_law_pieces" = true) (k37:PySem.W.keepIn K (.ref f37) = true)
    (a38:NsD K "_law_set" f38) (l38:LkD K "_law_set" fR f38 oc38 od38 sl38 kV38 dc38 pm38 an38 cd38 ct38) (c38:PySem.W.codeIn K cd38 "_law_set" = true) (k38:PySem.W.keepIn K (.ref f38) = true)
    (a39:NsD K "_law_fit" f39) (l39:LkD K "_law_fit" ia f39 oc39 od39 sl39 kV39 dc39 pm39 an39 cd39 ct39) (c39:PySem.W.codeIn K cd39 "_law_fit" = true) (k39:PySem.W.keepIn K (.ref f39) = true)
    (a40:NsD K "_law_jump" f40) (l40:LkD K "_law_jump" gk f40 oc40 od40 sl40 kV40 dc40 pm40 an40 cd40 ct40) (c40:PySem.W.codeIn K cd40 "_law_jump" = true) (k40:PySem.W.keepIn K (.ref f40) = true)
    (a41:NsD K "_law_fill" f41) (l41:LkD K "_law_fill" gj f41 oc41 od41 sl41 kV41 dc41 pm41 an41 cd41 ct41) (c41:PySem.W.codeIn K cd41 "_law_fill" = true) (k41:PySem.W.keepIn K (.ref f41) = true)
    (a42:NsD K "_law_lay" f42) (l42:LkD K "_law_lay" d6 f42 oc42 od42 sl42 kV42 dc42 pm42 an42 cd42 ct42) (c42:PySem.W.codeIn K cd42 "_law_lay" = true) (k42:PySem.W.keepIn K (.ref f42) = true)
    (a43:NsD K "_law_any" f43) (l43:LkD K "_law_any" eU f43 oc43 od43 sl43 kV43 dc43 pm43 an43 cd43 ct43) (c43:PySem.W.codeIn K cd43 "_law_any" = true) (k43:PySem.W.keepIn K (.ref f43) = true)
    (a44:NsD K "_law_which" f44) (l44:LkD K "_law_which" fF f44 oc44 od44 sl44 kV44 dc44 pm44 an44 cd44 ct44) (c44:PySem.W.codeIn K cd44 "_law_which" = true) (k44:PySem.W.keepIn K (.ref f44) = true)
    (a45:NsD K "_law_bent" f45) (l45:LkD K "_law_bent" gg f45 oc45 od45 sl45 kV45 dc45 pm45 an45 cd45 ct45) (c45:PySem.W.codeIn K cd45 "_law_bent" = true) (k45:PySem.W.keepIn K (.ref f45) = true)
    (a46:NsD K "_law_laid" f46) (l46:LkD K "_law_laid" gm f46 oc46 od46 sl46 kV46 dc46 pm46 an46 cd46 ct46) (c46:PySem.W.codeIn K cd46 "_law_laid" = true) (k46:PySem.W.keepIn K (.ref f46) = true)
    (a47:NsD K "law" f47) (l47:LkD K "law" t9 f47 oc47 od47 sl47 kV47 dc47 pm47 an47 cd47 ct47) (c47:PySem.W.codeIn K cd47 "law" = true) (k47:PySem.W.keepIn K (.ref f47) = true)
    (El:PySem.W.nsIn K mainGlobals "MOST_PARTS" = some (some (.int 40 E4)))
    (EL:PySem.W.nsIn K mainGlobals "MOST_DEEP" = some (some (.int 8 FG)))
    (DH:PySem.W.nsIn K mainGlobals "LONGEST_NAME" = some (some (.int 8 Eh)))
    (Eg:PySem.W.nsIn K mainGlobals "MOST_CELL" = some (some (.int 99 FF)))
    (CV:PySem.W.nsIn K mainGlobals "MOST_PATTERN_DEEP" = some (some (.int 3 C7)))
    (Fg:PySem.W.nsIn K mainGlobals "MOST_GAP" = some (some (.int 9999 Gc)))
    (CZ:PySem.W.nsIn K mainGlobals "MOST_PIECE_CELLS" = some (some (.int 12 Dp)))
    (DZ:PySem.W.nsIn K mainGlobals "MOST_PIECES" = some (some (.int 16 Ez)))
    (EM:PySem.W.nsIn K mainGlobals "MOST_NEAR" = some (some (.int 9 FH)))
    (IP:PySem.W.nsIn K mainGlobals "END" = some (some (.int 0 Js)))
    (Ib:PySem.W.nsIn K mainGlobals "CALL" = some (some (.int 15 IH)))
    (Dn:PySem.W.nsIn K mainGlobals "MOST_IN_LEAF" = some (some (.ref FZ))) (Do:KTD.tabLook (KTD.datLooks fun b=>K.lookup b) (fun b=>K.lookup b) FZ TL = true)
    (CO:PySem.W.nsIn K mainGlobals "TREES_IN_BRANCH" = some (some (.ref EW))) (CP:KTD.tabLook (KTD.datLooks fun b=>K.lookup b) (fun b=>K.lookup b) EW TB = true)
    (C0:PySem.W.nsIn K mainGlobals "MARK_LENGTHS" = some (some (.ref DD))) (CN:KTD.tabLook (KTD.datLooks fun b=>K.lookup b) (fun b=>K.lookup b) DD TM = true)
    (Dz:PySem.W.nsIn K mainGlobals "FILLED_FROM" = some (some (.ref Gh))) (DA:KTD.tabLook (KTD.datLooks fun b=>K.lookup b) (fun b=>K.lookup b) Gh TF = true)
    (Dm:PySem.W.nsIn K mainGlobals "INSTRUCTIONS" = some (some (.ref FY))) (Gd:eJ K (.tup INS) (.ref FY) = true)
    (Fi:PySem.W.nsIn K mainGlobals "STRAIGHT" = some (some (.ref HF))) (HI:eJ K (.tup STR) (.ref HF) = true)
    (Hs:PySem.W.nsIn K mainGlobals "AHEAD" = some (some (.ref Ja))) (Ji:eJ K (.tup AHE) (.ref Ja) = true)
    (Gz:PySem.W.nsIn K mainGlobals "BEHIND" = some (some (.ref Iv))) (II:eJ K (.tup BEH) (.ref Iv) = true)
    (Ht:PySem.W.nsIn K mainGlobals "BASIC" = some (some (.ref Jb))) (Jj:lY K BAS Jb = true)
    (Ga:K.lookup DD = some ob_MARK_LENGTHS) (F2:KTD.tabLook KTD.flatLooks (fun b=>K.lookup b) DD ([("hole",.int 2),("gap",.int 3),("slot",.int 2)]:List (Str × PyData)) = true) (Gb:KTD.hashesOf (fun b=>K.lookup b) DD = ([("hole",.int 2),("gap",.int 3),("slot",.int 2)]:List (Str × PyData)).map fun p=>(PySem.strKind l.prog w).hash p.1)
    (Em:PySem.W.nsIn K mainGlobals "PieceError" = some (some (.ref GM)))
    (GE:PySem.W.nsIn K mainGlobals "NoSize" = some (some (.ref IB)))
    (GF:PySem.W.nsIn K mainGlobals "NoTree" = some (some (.ref IC)))
    (GB:PySem.W.nsIn K mainGlobals "NoArgs" = some (some (.ref Iy)))
    (GC:PySem.W.nsIn K mainGlobals "NoCode" = some (some (.ref Iz)))
    (FS:PySem.W.nsIn K mainGlobals "NoSteps" = some (some (.ref Ia)))
    (Ic:PySem.W.nsIn K mainGlobals "Late" = some (some (.ref Jv)))
    (FR:PySem.W.nsIn K mainGlobals "NoPiece" = some (some (.ref HZ)))
    (Hv:PySem.W.nsIn K mainGlobals "NoSet" = some (some (.ref Jd)))
    (Fh:PySem.W.nsIn K mainGlobals "NoCover" = some (some (.ref CL)))
    (FQ:PySem.W.nsIn K mainGlobals "NoParts" = some (some (.ref HY)))
    (GD:PySem.W.nsIn K mainGlobals "NoName" = some (some (.ref IA)))
    (Hw:PySem.W.nsIn K mainGlobals "Taken" = some (some (.ref Je)))
    (Hu:PySem.W.nsIn K mainGlobals "Fault" = some (some (.ref Jc)))
    (GA:PySem.W.nsIn K mainGlobals "Broken" = some (some (.ref Iw)))
    (FT:qi K CL [.type "ValueError",.type "Exception",.type "BaseException",.type "object"] "ValueError.__new__" none = true) (CM:nW K CL)
    (CQ:PySem.W.exmOne K (.ref CL) (.ref GM) = some true)
    (Df:PySem.W.kitOne K (.ref CL) (.ref IB) = some false)
    (Dg:PySem.W.kitOne K (.ref CL) (.ref IC) = some false)
    (Dc:PySem.W.kitOne K (.ref CL) (.ref Iy) = some false)
    (Dd:PySem.W.kitOne K (.ref CL) (.ref Iz) = some false)
    (C6:PySem.W.kitOne K (.ref CL) (.ref Ia) = some false)
    (DI:PySem.W.kitOne K (.ref CL) (.ref Jv) = some false)
    (C5:PySem.W.kitOne K (.ref CL) (.ref HZ) = some false)
    (Ds:PySem.W.kitOne K (.ref CL) (.ref Jd) = some false)
    (C3:PySem.W.kitOne K (.ref CL) (.ref CL) = some true)
    (C4:PySem.W.kitOne K (.ref CL) (.ref HY) = some false)
    (De:PySem.W.kitOne K (.ref CL) (.ref IA) = some false)
    (Dt:PySem.W.kitOne K (.ref CL) (.ref Je) = some false)
    (Dr:PySem.W.kitOne K (.ref CL) (.ref Jc) = some false)
    (Da:PySem.W.kitOne K (.ref CL) (.ref Iw) = some false)
    (CS:PySem.W.kitOne K (.ref CL) (.type "ValueError") = some true)
    (JN:PySem.W.nsIn K mainGlobals "len" = some none)
    (GT:PySem.W.nsIn K mainGlobals "isinstance" = some none)
    (JM:PySem.W.nsIn K mainGlobals "int" = some none)
    (Jx:PySem.W.nsIn K mainGlobals "bool" = some none)
    (JP:PySem.W.nsIn K mainGlobals "str" = some none)
    (Jl:PySem.W.nsIn K mainGlobals "tuple" = some none)
    (Jy:PySem.W.nsIn K mainGlobals "list" = some none)
    (Jk:PySem.W.nsIn K mainGlobals "range" = some none)
    (JL:PySem.W.nsIn K mainGlobals "all" = some none)
    (JO:PySem.W.nsIn K mainGlobals "set" = some none)
    (JQ:PySem.W.nsIn K mainGlobals "zip" = some none)
    (GS:PySem.W.nsIn K mainGlobals "ValueError" = some none) :
    ∃ fd:FuncData,(∀ (s:Shared) (v:Value),BindsTo s fd ⟨[v],[]⟩ [("_law_script",v)])∧∀ base:Heap,K.In base→base.Ns mainGlobals mg→FnOk l.prog w K mg base CX0 25 fa fd ["_law_script"] (rj K):=by
  have M:∀ {n:Str} {v:Value},PySem.W.nsIn K mainGlobals n = some (some v)→mg n = some v:=PySem.W.mg_of X G
  have N:∀ {n:Str},PySem.W.nsIn K mainGlobals n = some none→mg n = none:=PySem.W.mg_none_of X G
  have e:=hfa.symm.trans (M a47)
  cases e
  let T:Txt l.prog w K mg :=
    { DP:=f1,DQ:=_,DS:=bw (st:=ig) l1 c1 k1,EI:=M a1,
      DK:=f2,DM:=_,Ef:=bw (st:=gq) l2 c2 k2,FE:=M a2,
      FN:=f3,FO:=_,Gy:=bw (st:=iR) l3 c3 k3,Ie:=M a3,
      Dj:=f4,Dl:=_,DG:=bw (st:=eI) l4 c4 k4,E3:=M a4,
      Gq:=f5,Gw:=_,Hq:=bw (st:=gM) l5 c5 k5,IT:=M a5,
      EJ:=f6,EK:=_,FD:=bw (st:=gu) l6 c6 k6,Hk:=M a6,
      Gp:=f7,Gv:=_,Ho:=bw (st:=gK) l7 c7 k7,IS:=M a7,
      DC:=f8,DF:=_,Ej:=bw (st:=dH) l8 c8 k8,GH:=M a8,
      Gn:=f9,Gu:=_,Hn:=bw (st:=iQ) l9 c9 k9,IR:=M a9,
      CT:=f10,CU:=_,Dw:=bw (st:=cH) l10 c10 k10,E2:=M a10,
      D9:=f11,Ee:=_,Ff:=bw (st:=ij) l11 c11 k11,GR:=M a11,
      Et:=f12,Ey:=_,Fm:=bw (st:=dU) l12 c12 k12,HB:=M a12,
      EU:=f13,EZ:=_,FK:=bw (st:=eH) l13 c13 k13,HR:=M a13,
      ET:=f14,EY:=_,FJ:=bw (st:=fG) l14 c14 k14,HQ:=M a14,
      Gm:=f15,Gs:=_,Hm:=bw (st:=iP) l15 c15 k15,IQ:=M a15,
      Di:=f16,Dk:=_,DR:=bw (st:=cx) l16 c16 k16,F9:=M a16,
      FW:=f17,F1:=_,GO:=bw (st:=ie) l17 c17 k17,IF:=M a17,
      Hd:=f18,He:=_,HN:=bw (st:=gL) l18 c18 k18,Jr:=M a18,
      E8:=f19,Fc:=_,F5:=bw (st:=ik) l19 c19 k19,HH:=M a19,
      DW:=f20,DY:=_,EB:=bw (st:=dZ) l20 c20 k20,GV:=M a20,
      E7:=f21,Fb:=_,FP:=bw (st:=iS) l21 c21 k21,Hx:=M a21,
      E6:=f22,E9:=_,F4:=bw (st:=ib) l22 c22 k22,HG:=M a22,
      Er:=f23,Ew:=_,Fk:=bw (st:=e8) l23 c23 k23,Hz:=M a23,
      Fs:=f24,Fx:=_,FC:=bw (st:=gr) l24 c24 k24,Hj:=M a24,
      DV:=f25,DX:=_,EA:=bw (st:=dY) l25 c25 k25,GU:=M a25,
      Gr:=f26,Gx:=_,Hr:=bw (st:=iT) l26 c26 k26,IU:=M a26,
      CW:=f27,CY:=_,Dq:=bw (st:=dW) l27 c27 k27,EC:=M a27,
      DB:=f28,DE:=_,Ei:=bw (st:=cP) l28 c28 k28,GG:=M a28,
      Es:=f29,Ex:=_,Fl:=bw (st:=e9) l29 c29 k29,HA:=M a29,
      Ft:=f30,Fy:=_,Gg:=bw (st:=fk) l30 c30 k30,Ik:=M a30,
      EV:=f31,E1:=_,FL:=bw (st:=dI) l31 c31 k31,HS:=M a31,
      Du:=f32,Dv:=_,Ek:=bw (st:=fH) l32 c32 k32,FM:=M a32,
      Ir:=f33,ID:=_,Jf:=bw (st:=pD) l33 c33 k33,JI:=M a33,
      DJ:=f34,DL:=_,C9:=bw (st:=gh) l34 c34 k34,DO:=M a34,
      D7:=f35,Ec:=_,DN:=bw (st:=gn) l35 c35 k35,EN:=M a35,
      D8:=f36,Ed:=_,FB:=bw (st:=fj) l36 c36 k36,Hi:=M a36,
      Ep:=f37,Eu:=_,Fj:=bw (st:=eZ) l37 c37 k37,Hy:=M a37,
      FV:=f38,F0:=_,GN:=bw (st:=fR) l38 c38 k38,IE:=M a38,
      D6:=f39,Eb:=_,EH:=bw (st:=ia) l39 c39 k39,F8:=M a39,
      Fp:=f40,Fv:=_,FA:=bw (st:=gk) l40 c40 k40,Hh:=M a40,
      Fo:=f41,Fu:=_,Ge:=bw (st:=gj) l41 c41 k41,Ii:=M a41,
      EE:=f42,EG:=_,Fe:=bw (st:=d6) l42 c42 k42,GQ:=M a42,
      ED:=f43,EF:=_,Fd:=bw (st:=eU) l43 c43 k43,GP:=M a43,
      ES:=f44,EX:=_,FI:=bw (st:=fF) l44 c44 k44,HP:=M a44,
      D5:=f45,Ea:=_,Fz:=bw (st:=gg) l45 c45 k45,Hg:=M a45,
      Fq:=f46,Fw:=_,Gf:=bw (st:=gm) l46 c46 k46,Ij:=M a46,
      Jp:=fa,JB:=_,JR:=bw (st:=t9) l47 c47 k47,JU:=M a47,
      E4:=E4,El:=M El,
      FG:=FG,EL:=M EL,
      Eh:=Eh,DH:=M DH,
      FF:=FF,Eg:=M Eg,
      C7:=C7,CV:=M CV,
      Gc:=Gc,Fg:=M Fg,
      Dp:=Dp,CZ:=M CZ,
      Ez:=Ez,DZ:=M DZ,
      FH:=FH,EM:=M EM,
      Js:=Js,IP:=M IP,
      IH:=IH,Ib:=M Ib,
      D4:=FZ,Dn:=M Dn,Do:=fun h x=>PySem.W.kt_text_in x Do,
      C2:=EW,CO:=M CO,CP:=fun h x=>PySem.W.kt_text_in x CP,
      Dh:=DD,C0:=M C0,CN:=fun h x=>PySem.W.kt_text_in x CN,
      Eo:=Gh,Dz:=M Dz,DA:=fun h x=>PySem.W.kt_text_in x DA,
      D3:=FY,Dm:=M Dm,FX:=Gd,
      GL:=HF,Fi:=M Fi,Iu:=HI,
      Io:=Ja,Hs:=M Hs,Jz:=Ji,
      HJ:=Iv,Gz:=M Gz,Jq:=II,
      Ip:=Jb,Ht:=M Ht,JA:=Jj,
      Hf:=⟨⟨_,Ga⟩,fun h x=>⟨_,PySem.W.kt_tab_in l.prog w x F2 (by decide +kernel) Gb,rfl⟩⟩,
      GK:=GM,Em:=M Em,
      Hb:=IB,GE:=M GE,
      Hc:=IC,GF:=M GF,
      G8:=Iy,GB:=M GB,
      G9:=Iz,GC:=M GC,
      Gk:=Ia,FS:=M FS,
      Iq:=Jv,Ic:=M Ic,
      Gj:=HZ,FR:=M FR,
      HL:=Jd,Hv:=M Hv,
      CK:=CL,Fh:=M Fh,
      Gi:=HY,FQ:=M FQ,
      Ha:=IA,GD:=M GD,
      HM:=Je,Hw:=M Hw,
      HK:=Jc,Hu:=M Hu,
      GZ:=Iw,GA:=M GA,
      FT:=FT,CM:=CM,
      CQ:=CQ,
      Df:=Df,
      Dg:=Dg,
      Dc:=Dc,
      Dd:=Dd,
      C6:=C6,
      DI:=DI,
      C5:=C5,
      Ds:=Ds,
      C3:=C3,
      C4:=C4,
      De:=De,
      Dt:=Dt,
      Dr:=Dr,
      Da:=Da,
      CS:=CS,
      C1:=N JN,
      CJ:=N GT,
      JJ:=N JM,
      Jw:=N Jx,
      JK:=N JP,
      DT:=N Jl,
      Jg:=N Jy,
      Jh:=N Jk,
      IG:=N JL,
      JS:=N JO,
      IV:=N JQ,
      HU:=N GS }
  exact ⟨_,fun s v=>.of_eq rfl,fun base _ _=>chain T⟩
theorem walk {l:PySem.W.OpenLaw} {q:Program} {loose:List Str} {XP:(Str→Option Value)→Heap→Prop} {YP:World→Heap→Prop} {d:DefRec} {K:Params→PySem.W.Frag} (hn:l.most = some 63) (hdf:d.params.defaults = [])
    (hY:∀ (w:World) (h:Heap),YP w h→(K w.params).In h)
    (F:∀ (w:World) (mg:Str→Option Value) (fa:Addr) (h:Heap),(K w.params).In h→h.Ns mainGlobals mg→mg d.name = some (.ref fa) →
      ∃ fd:FuncData,(∀ (s:Shared) (u:Value),BindsTo s fd ⟨[u],[]⟩ [("_law_script",u)])∧∀ base:Heap,(K w.params).In base→base.Ns mainGlobals mg→FnOk l.prog w (K w.params) mg base CX0 25 fa fd ["_law_script"] (rj (K w.params))) :
    PySem.W.WalkO q loose XP YP l.row.toRowW d [] (fun f vs=>PySem.call f vs) :=
  L2.walk_of (n:=63) (k:=25) (x:="_law_script") (CX:=fun _=>CX0) (sp:=fun w=>rj (K w.params)) hn (by decide) hdf ⟨rfl,by decide,by decide⟩ hY F (fun _ _ a ns hl hO hS=>⟨a,ns,rfl,Bl hO hS,fun _=>rfl⟩) fun _ _ _ _ _ z=>z
end My
open PySem PySem.W PyProof.Rows
set_option maxRecDepth 100000 in
set_option maxHeartbeats 0 in
theorem PySem.Challenge.cw_piecelay_k15_whole_no_coverings_holds : PySem.Challenge.rw_piecelay_k15_whole_no_coverings.Holds := by
  w_on; o_law
  refine holds_open (q:=My.view) (loose:=My.loose) (Xt:=My.xt) (XP:=XL My.view []) (Yf:=Hook.obs (kHook My.k0.heap_1 My.kas My.kas_ok)) (Ya:=Hook.val (kHook My.k0.heap_1 My.kas My.kas_ok)) (YP:=Hook.says (kHook My.k0.heap_1 My.kas My.kas_ok)) (N:=My.NN) My.left (Hook.of (kHook My.k0.heap_1 My.kas My.kas_ok)) (Hook.keeps (kHook My.k0.heap_1 My.kas My.kas_ok)) (fun s e=>xl_of s (Bool.and_eq_true_iff.mp e).1) XL.keeps (by rfl) (by rfl) (by rfl) (fun s e=>recFacts_of (Bool.and_eq_true_iff.mp e).2) (by rfl) (by first | assumption | decide +kernel) (by decide +kernel) ⟨rfl,rfl,rfl,rfl,rfl,by decide +kernel⟩ ?hw ?hc
  case hw=>w_witness2
  k_fill
  refine My.walk (l:=PySem.Challenge.rw_piecelay_k15_whole_no_coverings) rfl rfl (fun w h Y=>PySem.W.kIn_of Y) ?F
  case F =>
    intro w mg fa h KX G hmg
    refine' My.all_mk KX G hmg ?a1 ?l1 ?c1 ?k1 ?a2 ?l2 ?c2 ?k2 ?a3 ?l3 ?c3 ?k3 ?a4 ?l4 ?c4 ?k4 ?a5 ?l5 ?c5 ?k5 ?a6 ?l6 ?c6 ?k6 ?a7 ?l7 ?c7 ?k7 ?a8 ?l8 ?c8 ?k8 ?a9 ?l9 ?c9 ?k9 ?a10 ?l10 ?c10 ?k10 ?a11 ?l11 ?c11 ?k11 ?a12 ?l12 ?c12 ?k12 ?a13 ?l13 ?c13 ?k13 ?a14 ?l14 ?c14 ?k14 ?a15 ?l15 ?c15 ?k15 ?a16 ?l16 ?c16 ?k16 ?a17 ?l17 ?c17 ?k17 ?a18 ?l18 ?c18 ?k18 ?a19 ?l19 ?c19 ?k19 ?a20 ?l20 ?c20 ?k20 ?a21 ?l21 ?c21 ?k21 ?a22 ?l22 ?c22 ?k22 ?a23 ?l23 ?c23 ?k23 ?a24 ?l24 ?c24 ?k24 ?a25 ?l25 ?c25 ?k25 ?a26 ?l26 ?c26 ?k26 ?a27 ?l27 ?c27 ?k27 ?a28 ?l28 ?c28 ?k28 ?a29 ?l29 ?c29 ?k29 ?a30 ?l30 ?c30 ?k30 ?a31 ?l31 ?c31 ?k31 ?a32 ?l32 ?c32 ?k32 ?a33 ?l33 ?c33 ?k33 ?a34 ?l34 ?c34 ?k34 ?a35 ?l35 ?c35 ?k35 ?a36 ?l36 ?c36 ?k36 ?a37 ?l37 ?c37 ?k37 ?a38 ?l38 ?c38 ?k38 ?a39 ?l39 ?c39 ?k39 ?a40 ?l40 ?c40 ?k40 ?a41 ?l41 ?c41 ?k41 ?a42 ?l42 ?c42 ?k42 ?a43 ?l43 ?c43 ?k43 ?a44 ?l44 ?c44 ?k44 ?a45 ?l45 ?c45 ?k45 ?a46 ?l46 ?c46 ?k46 ?a47 ?l47 ?c47 ?k47 ?El ?EL ?DH ?Eg ?CV ?Fg ?CZ ?DZ ?EM ?IP ?Ib ?Dn ?Do ?CO ?CP ?C0 ?CN ?Dz ?DA ?Dm ?Gd ?Fi ?HI ?Hs ?Ji ?Gz ?II ?Ht ?Jj ?Ga ?F2 ?Gb ?Em ?GE ?GF ?GB ?GC ?FS ?Ic ?FR ?Hv ?Fh ?FQ ?GD ?Hw ?Hu ?GA ?FT ?CM ?CQ ?Df ?Dg ?Dc ?Dd ?C6 ?DI ?C5 ?Ds ?C3 ?C4 ?De ?Dt ?Dr ?Da ?CS ?JN ?GT ?JM ?Jx ?JP ?Jl ?Jy ?Jk ?JL ?JO ?JQ ?GS
    case a1 | a2 | a3 | a4 | a5 | a6 | a7 | a8 | a9 | a10 | a11 | a12 | a13 | a14 | a15 | a16 | a17 | a18 | a19 | a20 | a21 | a22 | a23 | a24 | a25 | a26 | a27 | a28 | a29 | a30 | a31 | a32 | a33 | a34 | a35 | a36 | a37 | a38 | a39 | a40 | a41 | a42 | a43 | a44 | a45 | a46 | a47=>change _ = _; k_is
    case l1 | l2 | l3 | l4 | l5 | l6 | l7 | l8 | l9 | l10 | l11 | l12 | l13 | l14 | l15 | l16 | l17 | l18 | l19 | l20 | l21 | l22 | l23 | l24 | l25 | l26 | l27 | l28 | l29 | l30 | l31 | l32 | l33 | l34 | l35 | l36 | l37 | l38 | l39 | l40 | l41 | l42 | l43 | l44 | l45 | l46 | l47=>change _ = _; k_is
    case c1 | c2 | c3 | c4 | c5 | c6 | c7 | c8 | c9 | c10 | c11 | c12 | c13 | c14 | c15 | c16 | c17 | c18 | c19 | c20 | c21 | c22 | c23 | c24 | c25 | c26 | c27 | c28 | c29 | c30 | c31 | c32 | c33 | c34 | c35 | c36 | c37 | c38 | c39 | c40 | c41 | c42 | c43 | c44 | c45 | c46 | c47 | k1 | k2 | k3 | k4 | k5 | k6 | k7 | k8 | k9 | k10 | k11 | k12 | k13 | k14 | k15 | k16 | k17 | k18 | k19 | k20 | k21 | k22 | k23 | k24 | k25 | k26 | k27 | k28 | k29 | k30 | k31 | k32 | k33 | k34 | k35 | k36 | k37 | k38 | k39 | k40 | k41 | k42 | k43 | k44 | k45 | k46 | k47=>k_is
    case El | EL | DH | Eg | CV | Fg | CZ | DZ | EM | IP | Ib | Dn | CO | C0 | Dz | Dm | Fi | Hs | Gz | Ht | Ga | Em | GE | GF | GB | GC | FS | Ic | FR | Hv | Fh | FQ | GD | Hw | Hu | GA | JN | GT | JM | Jx | JP | Jl | Jy | Jk | JL | JO | JQ | GS=>k_is
    case Do | CP | CN | DA | Gd | HI | Ji | II | Jj | F2=>first | rfl | decide +kernel
    case Gb | FT | CQ | Df | Dg | Dc | Dd | C6 | DI | C5 | Ds | C3 | C4 | De | Dt | Dr | Da | CS=>first | rfl | kernel_rfl | decide +kernel
    case CM=>refine ⟨?_,?_,?_,?_,?_,?_,?_,?_⟩ <;> (first | rfl | kernel_rfl | decide +kernel)
