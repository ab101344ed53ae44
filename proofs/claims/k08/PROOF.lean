import PyProof.Rows.All
import Wide.All
import OpenK.AllK
import Wide.FinOn
import Lean
import PyProof.EqAt
import PyProof.EqKinds
import PyProof.TupleCall
import PyProof.NeKinds
import KE.KTab
import KE.KTops
import PyProof.FString5
import PyProof.ListRange
import KE.KRevIter
import PyProof.Rows.SumAny
import PyProof.Rows.SetFrom
import KE.KRevSl
import KE.KTryMore
import PyProof.ExcAttrAll.ValueError
import PyProof.Rows.CountFlat
import PyProof.ExcInit
import PyProof.InstStoreFacts
import PyProof.Draws
import PyProof.EnumMake
import PyProof.ZipIter
import PyProof.StationsW
import PySem.Challenge.RW_piecelay_k08_machine_refused
set_option Elab.async false
set_option linter.all false
set_option maxRecDepth 100000
set_option maxHeartbeats 4000000
section
namespace LT
open PySem PySem.W PyProof.Rows
noncomputable def ran (p:Program) (w:World) (n₀:Nat) (ann:Option Value):Nat→SharedT→Thread→Option SharedT
  | 0,_,_=>none
  | k + 1,s,t=>bif through t then some s else bif Fast.tw6613529449190102663 n₀ ann t then
      (Fast.tw10156331382660048174 (Fast.tw11892475500146522536 Fast.tw14364793385576792824) p w s t).bind fun x=>ran p w n₀ ann k x.1 x.2
    else none
theorem ran_top {p:Program} {w:World} {n₀:Nat} {ann:Option Value} (k:Nat):∀ {s s':SharedT} {t:Thread},ran p w n₀ ann k s t = some s'→topRun treeTable p w n₀ ann k s.abs t = some s'.abs:=by
  induction k with
  | zero=>intro s s' t h; cases h
  | succ k ih =>
    intro s s' t h
    unfold ran at h
    rw [← Fast.te6613529449190102663,← Fast.te10156331382660048174,← Fast.te11892475500146522536,← Fast.te14364793385576792824] at h
    unfold topRun
    cases c1:through t
    · cases c2:stepOk n₀ ann t
      · rw [c1,c2] at h; cases h
      · rw [c1,c2] at h
        obtain ⟨x,hx,hr⟩:=Option.bind_eq_some_iff.mp (show (stepT (denote treeTable) p w s t).bind _ = some s' from h)
        rw [stepT_spec (s':=x.1) (t':=x.2) hx]
        exact ih hr
    · rw [c1] at h
      cases h
      rfl
noncomputable def bootT (P:Params):BT:=((boot_heap P).objs.toList.foldl (fun (x:BT × Nat) o=>(x.1.ins x.2 o,x.2 + 1)) (BT.nil,0)).1
theorem bootT_ok:∀ P,absHeap (bootT P) 11 {} = boot_heap P:=fun P=>by kernel_rfl
noncomputable abbrev boot (P:Params) (os:OsState):SharedT:=⟨bootT P,11,{},#[],boot_drawn,boot_toks,os⟩
theorem boot_abs (P:Params) (os:OsState):(boot P os).abs = ⟨boot_heap P,#[],boot_drawn,boot_toks,os⟩:=by
  show (⟨absHeap (bootT P) 11 {},#[],boot_drawn,boot_toks,os⟩:Shared) = _
  rw [bootT_ok]
noncomputable def seenT (p q:Program) (loose:List Str) (Xt:Shared→Bool) (P:Params) (s:Shared) :=
  (staticsOk (Fast.tw5923862056798008813 p.main.body) (boot_heap P) s.heap && namesBound p s.heap && gensDone s && laidKept (boot_heap P) s.heap,Fast.tw4187177175401517315 q loose (Fast.tw5923862056798008813 p.main.body) Xt true s)
theorem size_ok:∀ P:Params,((boot_heap P).isNs mainGlobals && (#[]:Array GenState).size == 0,(boot_heap P).objs.size,(boot_heap P).nsMap mainGlobals "__annotations__") = (true,11,some (.ref 6)):=fun P=>by kernel_rfl
theorem left {p q:Program} {loose:List Str} {Xt:Shared→Bool} {α:Type} {Yf:Shared→α} {Ya:World→α} {N:Nat} (e:opening p = plainProg p.main.scope.names) (hN:Nat.ble 600 N = true) (f:∀ s,fenceModules? p s = some s)
    (h:∀ (w:World) (os:OsState),(ran p w 11 (some (.ref 6)) N (boot w.params os) (topStub p)).map (fun s=>(seenT p q loose Xt w.params s.abs,Yf s.abs)) = some ((true,openGood q loose),Ya w)):LeftO p q loose Xt Yf Ya N:=fun w=>by
  obtain ⟨⟨h0,gs,d,k,os⟩,e,e'⟩:=Option.map_eq_some_iff.mp (boot_open e hN f w)
  obtain ⟨rfl,rfl,rfl,rfl⟩:h0 = boot_heap w.params∧gs = Array.mk []∧d = boot_drawn∧k = boot_toks:=by simpa using e'
  obtain ⟨s1,hr,hs⟩:=Option.map_eq_some_iff.mp (h w os)
  have r:=ran_top N hr
  rw [boot_abs] at r
  obtain ⟨hs,hy⟩:=Prod.mk.inj hs
  unfold seenT at hs
  rw [← Fast.te4187177175401517315,← Fast.te5923862056798008813] at hs
  obtain ⟨hl,hg⟩:=Prod.mk.inj (show (staticsOk (importedModules p.main.body) (boot_heap w.params) s1.abs.heap && namesBound p s1.abs.heap && gensDone s1.abs && laidKept (boot_heap w.params) s1.abs.heap,openSeen q loose (importedModules p.main.body) Xt true s1.abs) = (true,openGood q loose) from hs)
  obtain ⟨z1,z2,z3⟩:_∧_∧_:=by simpa only [Prod.mk.injEq] using size_ok w.params
  have t:topFrom treeTable p w N ⟨boot_heap w.params,Array.mk [],boot_drawn,boot_toks,os⟩ = some s1.abs:=by
    unfold topFrom
    dsimp only
    rw [z1,z2,z3,r]
    show (match staticsOk (importedModules p.main.body) (boot_heap w.params) s1.abs.heap && namesBound p s1.abs.heap && gensDone s1.abs && laidKept (boot_heap w.params) s1.abs.heap with | true=>_ | false=>_) = _
    rw [hl]
  unfold openEnds
  rw [e]
  show (topFrom treeTable p w N _).map _ = _
  rw [t]
  exact congrArg some (Prod.ext hg hy)
end LT
end
section
namespace LT
section
universe u1 u2 u3 u4 u5 u6 u7 u8 u9
variable {S:Type u1} {A:Type u2} {B:Type u3} {C:Type u4} {D:Type u5} {E:Type u6} {F:Type u7} {R:Type u8} {V:Type u9}
def lot1 (x:A × B × C × D × E × F × R):A × B × C:=match x with | (a,b,c,_)=>(a,b,c)
def lot2 (x:A × B × C × D × E × F × R):D × E × R:=match x with | (_,_,_,d,e,_,r)=>(d,e,r)
def lot3 (x:A × B × C × D × E × F × R):F:=match x with | (_,_,_,_,_,f,_)=>f
theorem lots {o:Option S} {f:S→A × B × C × D × E × F × R} {y:A × B × C × D × E × F × R} {st:S→Bool} {ob:S→V} {v:V} (h1:o.map (fun s=>lot1 (f s)) = some (y.1,y.2.1,y.2.2.1)) (h2:o.map (fun s=>lot2 (f s)) = some (y.2.2.2.1,y.2.2.2.2.1,y.2.2.2.2.2.2))
    (h3:o.map (fun s=>lot3 (f s)) = some y.2.2.2.2.2.1) (h4:o.map (fun s=>(st s,ob s)) = some (true,v)):o.map (fun s=>((st s,f s),ob s)) = some ((true,y),v):=by
  cases o with
  | none=>cases h1
  | some s =>
    have k1:lot1 (f s) = _:=Option.some.inj h1
    have k2:lot2 (f s) = _:=Option.some.inj h2
    have k3:lot3 (f s) = _:=Option.some.inj h3
    have k4:(st s,ob s) = _:=Option.some.inj h4
    show some ((st s,f s),ob s) = _
    generalize f s = x at k1 k2 k3 ⊢
    obtain ⟨a,b,c,d,e,g,r⟩:=x
    obtain ⟨a',b',c',d',e',g',r'⟩:=y
    have k1:(a,b,c) = (a',b',c'):=k1
    have k2:(d,e,r) = (d',e',r'):=k2
    have k3:g = g':=k3
    injection k4 with k4 k5
    cases k1
    cases k2
    cases k3
    rw [k4,k5]
end
end LT
end
section
namespace My
open PySem
def top (i:Nat):Stmt:=PySem.Challenge.pw_piecelay_k08_machine_refused.main.body.getD i (.Pass ⟨0,0,0,0⟩)
end My
end
section
open PySem PySem.W PyProof.Rows
section
local macro_rules | `(tactic| o_head $H:term)=>`(tactic| (have _hook:=$H; assumption))
theorem My.k0 (h:PySem.Challenge.rw_piecelay_k08_machine_refused.row.Holds):PySem.Challenge.rw_piecelay_k08_machine_refused.row.Holds:=by
  k_head
end
namespace My
def view:Program:={ PySem.Challenge.pw_piecelay_k08_machine_refused with main:={ PySem.Challenge.pw_piecelay_k08_machine_refused.main with body:=[top 1,top 2,top 3,top 4,top 5,top 6,top 7,top 8,top 9,top 10,top 11,top 12,top 13,top 14,top 15,top 17,top 18,top 19,top 21,top 23,top 25,top 26,top 27,top 28,top 29,top 30,top 31,top 32,top 33,top 34,top 35,top 36,top 37,top 38,top 41,top 43,top 44,top 45,top 46,top 47] } }
abbrev PRG:Program:=PySem.Challenge.pw_piecelay_k08_machine_refused
abbrev loose:List Str:=["need_size","MOST_TOLD","run","trace"]
abbrev xt (s:Shared):Bool:=xlAt view [] s && recOk (RowW.records (OpenRow.toRowW (OpenLaw.row PySem.Challenge.rw_piecelay_k08_machine_refused))) s
abbrev kas:List Addr:=[2,3,15,22,23,24,25,28,35,36,37,40,47,48,49,52,59,60,61,64,71,72,73,76,83,84,85,88,95,96,97,100,107,108,109,112,119,120,121,124,131,132,133,136,143,144,145,148,155,156,157,160,167,168,169,172,179,181,182,184,185,186,187,188,191,198,200,201,203,204,205,206,207,210,212,213,215,216,217,218,220,221,223,224,225,228,229,230,232,233,235,236,237,238,239,240,241,242,243,244,245,246,247,248,249,250,251,252,253,254,255,256,257,260,261,262,264,265,267,268,269,271,272,274,275,276,278,279,281,282,290,292,293,295,296,297,299,300,302,303,304,306,307,309,310,311,313,314,316,317,318,320,321,323,324,325,327,328,330,331,332,334,335,337,338,339,340,341,342,343,346,348,349,351,352,353,354,356,357,359,360,361,362,364,365,367,368,369,371,372,374,375,376,378,379,381,382,383,385,386,388,389,390,392,393,395,396,397,399,400,402,403,404,406,407,409,410]
theorem kas_ok:∀ P,kas = (My.k0.heap_1 P).map (·.1):=fun _=>by kernel_rfl
noncomputable abbrev hk:Hook:=kHook My.k0.heap_1 kas kas_ok
abbrev NN:Nat:=9000
noncomputable abbrev goes (w:World) (os:OsState):=LT.ran PRG w 11 (some (.ref 6)) NN (LT.boot w.params os) (topStub PRG)
noncomputable abbrev stat (P:Params) (s:SharedT):Bool:=staticsOk (Fast.tw5923862056798008813 PRG.main.body) (boot_heap P) s.abs.heap && namesBound PRG s.abs.heap && gensDone s.abs && laidKept (boot_heap P) s.abs.heap
noncomputable abbrev sees (s:SharedT):=Fast.tw4187177175401517315 view loose (Fast.tw5923862056798008813 PRG.main.body) xt true s.abs
noncomputable abbrev good:=openGood view loose
abbrev ran1 (w:World) (os:OsState):Prop:=(goes w os).map (fun s=>LT.lot1 (sees s)) = some (good.1,good.2.1,good.2.2.1)
abbrev ran2 (w:World) (os:OsState):Prop:=(goes w os).map (fun s=>LT.lot2 (sees s)) = some (good.2.2.2.1,good.2.2.2.2.1,good.2.2.2.2.2.2)
abbrev ran3 (w:World) (os:OsState):Prop:=(goes w os).map (fun s=>LT.lot3 (sees s)) = some good.2.2.2.2.2.1
abbrev ran4 (w:World) (os:OsState):Prop:=(goes w os).map (fun s=>(stat w.params s,Hook.obs hk s.abs)) = some (true,Hook.val hk w)
set_option maxHeartbeats 0 in
theorem ra1:∀ (w:World) (os:OsState),ran1 (w.withFollow "special-get-raises" false) os:=fun w os=>by unfold ran1; kernel_rfl
set_option maxHeartbeats 0 in
theorem rb1:∀ (w:World) (os:OsState),ran1 (w.withFollow "special-get-raises" true) os:=fun w os=>by unfold ran1; kernel_rfl
set_option maxHeartbeats 0 in
theorem ra2:∀ (w:World) (os:OsState),ran2 (w.withFollow "special-get-raises" false) os:=fun w os=>by unfold ran2; kernel_rfl
set_option maxHeartbeats 0 in
theorem rb2:∀ (w:World) (os:OsState),ran2 (w.withFollow "special-get-raises" true) os:=fun w os=>by unfold ran2; kernel_rfl
set_option maxHeartbeats 0 in
theorem ra3:∀ (w:World) (os:OsState),ran3 (w.withFollow "special-get-raises" false) os:=fun w os=>by unfold ran3; kernel_rfl
set_option maxHeartbeats 0 in
theorem rb3:∀ (w:World) (os:OsState),ran3 (w.withFollow "special-get-raises" true) os:=fun w os=>by unfold ran3; kernel_rfl
set_option maxHeartbeats 0 in
theorem ra4:∀ (w:World) (os:OsState),ran4 (w.withFollow "special-get-raises" false) os:=fun w os=>by unfold ran4; kernel_rfl
set_option maxHeartbeats 0 in
theorem rb4:∀ (w:World) (os:OsState),ran4 (w.withFollow "special-get-raises" true) os:=fun w os=>by unfold ran4; kernel_rfl
theorem left:LeftO PRG view loose xt (Hook.obs hk) (Hook.val hk) NN :=
  LT.left (by rfl) (by decide) (fun s=>by rfl) fun w os=>LT.lots (byRow2 "special-get-raises" (P:=fun w=>ran1 w os) (fun w=>ra1 w os) (fun w=>rb1 w os) w) (byRow2 "special-get-raises" (P:=fun w=>ran2 w os) (fun w=>ra2 w os) (fun w=>rb2 w os) w) (byRow2 "special-get-raises" (P:=fun w=>ran3 w os) (fun w=>ra3 w os) (fun w=>rb3 w os) w) (byRow2 "special-get-raises" (P:=fun w=>ran4 w os) (fun w=>ra4 w os) (fun w=>rb4 w os) w)
end My
end
section
namespace L2
open PySem PySem.Spec PyProof.Rows
abbrev Key:=Sum Int Str
def keyIs:Key→Value→Bool
  | .inl k,v=>Value.isInt k v
  | .inr x,v=>Value.isStrOf x v
def keyH (w:World):Key→Int
  | .inl k=>hashInt k
  | .inr x=>hashStr w x
theorem keyIs_shape:∀ {k:Key} {v:Value},keyIs k v = true→(∃ i t,k = Sum.inl i∧v = Value.int i t)∨(∃ x t,k = Sum.inr x∧v = Value.str x t)
  | .inl i,v,h=>by
    obtain ⟨t,e⟩:=Value.isInt_shape (k:=i) (v:=v) h
    exact .inl ⟨i,t,rfl,e⟩
  | .inr x,v,h=>by
    obtain ⟨t,e⟩:=Value.isStrOf_shape (x:=x) (v:=v) h
    exact .inr ⟨x,t,rfl,e⟩
theorem key_ll (a b:Int):decide ((Sum.inl a:Key) = Sum.inl b) = (a == b):=by
  by_cases e:a = b
  · subst e; simp
  · have h:¬ (Sum.inl a:Key) = Sum.inl b:=fun q=>e (Sum.inl.inj q)
    rw [decide_eq_false h]
    exact (beq_eq_false_iff_ne.mpr e).symm
theorem key_rr (a b:Str):decide ((Sum.inr a:Key) = Sum.inr b) = decide (a = b):=by
  by_cases e:a = b
  · subst e; simp
  · have h:¬ (Sum.inr a:Key) = Sum.inr b:=fun q=>e (Sum.inr.inj q)
    rw [decide_eq_false h,decide_eq_false e]
theorem key_lr (a:Int) (b:Str):decide ((Sum.inl a:Key) = Sum.inr b) = false:=decide_eq_false (fun q=>nomatch q)
theorem key_rl (a:Str) (b:Int):decide ((Sum.inr a:Key) = Sum.inl b) = false:=decide_eq_false (fun q=>nomatch q)
def mixKind (prog:Program) (w:World):PySem.KeyKind prog w Key where
  is:=keyIs
  hash:=keyH w
  inj:=fun v a b ha hb=>by
    rcases keyIs_shape ha with ⟨i,t,rfl,rfl⟩ | ⟨x,t,rfl,rfl⟩
    · rcases keyIs_shape hb with ⟨j,u,rfl,e⟩ | ⟨y,u,rfl,e⟩
      · injection e with e1 _; rw [e1]
      · exact nomatch e
    · rcases keyIs_shape hb with ⟨j,u,rfl,e⟩ | ⟨y,u,rfl,e⟩
      · exact nomatch e
      · injection e with e1 _; rw [e1]
  byValue:=fun k v h=>by
    rcases keyIs_shape h with ⟨i,t,rfl,rfl⟩ | ⟨x,t,rfl,rfl⟩ <;> rfl
  pyHash:=fun hv h=>by
    rcases keyIs_shape hv with ⟨i,t,rfl,rfl⟩ | ⟨x,t,rfl,rfl⟩
    · exact wpAny_pyHash_int h
    · exact wpAny_pyHash_str h
  eqBool:=fun hu hv h=>by
    rcases keyIs_shape hu with ⟨i,t,rfl,rfl⟩ | ⟨x,t,rfl,rfl⟩
    · rcases keyIs_shape hv with ⟨j,u,rfl,rfl⟩ | ⟨y,u,rfl,rfl⟩
      · rw [key_ll] at h; exact wpAny_eqBool_int h
      · rw [key_lr] at h; exact SeqAt.EqAt.int_str i t y u _ _ _ _ h
    · rcases keyIs_shape hv with ⟨j,u,rfl,rfl⟩ | ⟨y,u,rfl,rfl⟩
      · rw [key_rl] at h; exact SeqAt.EqAt.str_int x t j u _ _ _ _ h
      · rw [key_rr] at h; exact wpAny_eqBool_str h
  «strs»:=fun k x t v h=>by
    rcases keyIs_shape h with ⟨i,u,rfl,e⟩ | ⟨y,u,rfl,e⟩
    · exact nomatch e
    · injection e with e1 _
      subst e1
      cases v <;> rfl
end L2
namespace L2
open PySem PySem.Spec PyProof.Rows
inductive V where
  | non | bl (b:Bool) | int (i:Int) | str (x:Str) | byt (b:Array UInt8) | flt (b:UInt64) | ref (a:Addr) | ty (n:String)
  deriving DecidableEq
def RelV:V→Value→Prop
  | .non,u=>u = Value.none
  | .bl b,u=>u = Value.bool b
  | .int i,u=>∃ t,u = Value.int i t
  | .str x,u=>∃ t,u = Value.str x t
  | .byt b,u=>∃ t,u = Value.bytes b t
  | .flt b,u=>∃ t,u = Value.float b t
  | .ref a,u=>u = Value.ref a
  | .ty n,u=>u = Value.type n
abbrev Vals:List V→List Value→Prop:=Paired RelV
theorem Vals.length {xs:List V} {us:List Value} (r:Vals xs us):xs.length = us.length:=Paired.length r
theorem Vals.get:∀ {xs:List V} {us:List Value} {i:Nat} {x:V},Vals xs us→xs[i]? = some x→∃ u,us[i]? = some u∧RelV x u
  | _,_,_,_,.nil,e=>by simp at e
  | _,_,0,_,.cons r _,e=>by simp at e; subst e; exact ⟨_,rfl,r⟩
  | _,_,i + 1,x,.cons _ t,e=>by
    obtain ⟨u,h1,h2⟩:=Vals.get (i:=i) (x:=x) t (by simpa using e)
    exact ⟨u,by simpa using h1,h2⟩
theorem Vals.set {x:V} {u:Value} (r:RelV x u):∀ {xs:List V} {us:List Value} (i:Nat),Vals xs us→Vals (xs.set i x) (us.set i u)
  | _,_,_,.nil=>.nil
  | _,_,0,.cons _ t=>.cons r t
  | _,_,i + 1,.cons q t=>.cons q (Vals.set r i t)
theorem Vals.append:∀ {xs ys:List V} {us ws:List Value},Vals xs us→Vals ys ws→Vals (xs ++ ys) (us ++ ws)
  | _,_,_,_,.nil,s=>s
  | _,_,_,_,.cons r t,s=>.cons r (Vals.append t s)
theorem Vals.take:∀ {xs:List V} {us:List Value} (n:Nat),Vals xs us→Vals (xs.take n) (us.take n)
  | _,_,0,_=>.nil
  | _,_,_ + 1,.nil=>.nil
  | _,_,n + 1,.cons r t=>.cons r (Vals.take n t)
theorem Vals.drop:∀ {xs:List V} {us:List Value} (n:Nat),Vals xs us→Vals (xs.drop n) (us.drop n)
  | _,_,0,r=>r
  | _,_,_ + 1,.nil=>.nil
  | _,_,n + 1,.cons _ t=>Vals.drop n t
def RelO:Option V→Option Value→Prop
  | some v,some u=>RelV v u
  | none,none=>True
  | _,_=>False
def KV {κ:Type}:List (κ × V)→List (κ × Value)→Prop:=Paired fun (p:κ × V) (q:κ × Value)=>p.1 = q.1∧RelV p.2 q.2
def kV:Key→V
  | .inl i=>.int i
  | .inr x=>.str x
inductive HO where
  | lst (xs:List V)
  | tup (xs:List V)
  | dK (kvs:List (Key × V)) | dT (kvs:List (List Key × V))
  | set (S:Int→Bool) (n:Nat)
  | ins (C dx:Addr) (fs:List (Str × V))
  | own (x:Addr)
  | xd (fs:List (Str × V))
  | met (f x:Addr)
  | rng (lo hi:Int)
  | frz (o:Obj) (u:HO)
  | tbl (ps:Array Value)
  | ext (φ:Heap→Prop)
abbrev Hp:=Addr→Option HO
def upd (H:Hp) (a:Addr) (o:HO):Hp:=fun b=>if b = a then some o else H b
theorem upd_same {H:Hp} {a:Addr} {o:HO}:upd H a o a = some o:=by unfold upd; rw [if_pos rfl]
theorem upd_ne {H:Hp} {a b:Addr} {o:HO} (h:b ≠ a):upd H a o b = H b:=by unfold upd; rw [if_neg h]
theorem ne_of_none {H:Hp} {a b:Addr} {o:HO} (h:H a = some o) (h':H b = none):a ≠ b:=by
  intro e; subst e; rw [h] at h'; cases h'
section
variable (P:Program) (w:World)
def ObjOk (H:Hp) (h:Heap) (a:Addr):HO→Prop
  | .lst xs=>xs.length ≤ sizeLine∧∃ (its:List Value) (n:Nat),Vals xs its∧h.get? a = some { cls:=.type "list",data:=.seq its.toArray n }
  | .tup xs=>xs.length ≤ sizeLine∧∃ its:List Value,Vals xs its∧IsTup h a its.toArray
  | .dK kvs=>kvs.length ≤ sizeLine∧(a == sysModules) = false∧∃ vs,KV kvs vs∧h.DictOf (mixKind P w) a vs
  | .dT kvs=>kvs.length ≤ sizeLine∧(a == sysModules) = false∧∃ xs:List (List Key × Addr × Value),
      Paired (fun (p:List Key × V) (q:List Key × Addr × Value)=>p.1 = q.1∧H q.2.1 = some (.tup (p.1.map kV))∧RelV p.2 q.2.2) kvs xs ∧
      ∃ o es ep,h.get? a = some o∧o.ExactDict∧o.data = .dict es ep∧es.toList = xs.map (entryOfKey (tupleKind (mixKind P w)))∧(xs.map (·.1)).Nodup
  | .set S n=>h.SetOf (intKind P w) a S n
  | .ins C dx fs=>H dx = some (.own a)∧fs.length ≤ 1000∧dx ≠ a∧h.get? a = some (PySem.W.instObj C dx) ∧
      ∃ mA,h.Ns1 dx mA∧(∀ f,RelO (fs.lookup f) (mA f))∧PySem.Within mA (fs.map (·.1))
  | .own _=>∃ o,h.get? a = some o
  | .xd fs=>∃ mA,h.Ns1 a mA∧∀ f,RelO (fs.lookup f) (mA f)
  | .rng lo hi=>∃ t u v,h.get? a = some { cls:=.type "range",data:=.fields #[.int lo t,.int hi u,.int 1 v] }
  | .frz o u=>h.get? a = some o∧ObjOk H h a u
  | .tbl ps=>h.get? a = some { cls:=.none,data:=.fields ps }
  | .met f x=>h.get? a = some (PySem.W.methodObj (.ref f) (.ref x))
  | .ext φ=>φ h∧(∃ o,h.get? a = some o)∧∀ h1 h2:Heap,φ h1→(∀ o,h1.get? a = some o→h2.get? a = some o)→φ h2
def HOk (H:Hp) (h:Heap):Prop:=∀ a o,H a = some o→ObjOk P w H h a o
end
section
variable {P:Program} {w:World} {H H':Hp} {h h':Heap} {a:Addr} {o:HO}
theorem ObjOk.lt (x:ObjOk P w H h a o):a < h.objs.size:=by
  cases o with
  | lst xs=>obtain ⟨_,_,_,_,e⟩:=x; exact Heap.lt_size e
  | tup xs=>obtain ⟨_,_,_,p⟩:=x; exact p.lt
  | dK kvs=>obtain ⟨_,_,_,_,o,_,_,e,_⟩:=x; exact Heap.lt_size e
  | dT kvs=>obtain ⟨_,_,_,_,o,_,_,e,_⟩:=x; exact Heap.lt_size e
  | set S n=>obtain ⟨o,_,_,_,e,_⟩:=x; exact Heap.lt_size e
  | ins C dx fs=>obtain ⟨_,_,_,e,_⟩:=x; exact Heap.lt_size e
  | own y=>obtain ⟨_,e⟩:=x; exact Heap.lt_size e
  | xd fs=>obtain ⟨_,⟨_,_,_,e,_⟩,_⟩:=x; exact Heap.lt_size e
  | rng lo hi=>obtain ⟨_,_,_,e⟩:=x; exact Heap.lt_size e
  | frz ob u=>obtain ⟨e,_⟩:=x; exact Heap.lt_size e
  | tbl ps=>exact Heap.lt_size (show h.get? a = some _ from x)
  | met f y=>exact Heap.lt_size (show h.get? a = some _ from x)
  | ext φ=>obtain ⟨_,⟨_,e⟩,_⟩:=x; exact Heap.lt_size e
theorem Paired.mapP {α β:Type} {F G:α→β→Prop}:∀ {l₁:List α} {l₂:List β},Paired F l₁ l₂→(∀ a b,F a b→G a b)→Paired G l₁ l₂
  | _,_,.nil,_=>.nil
  | _,_,.cons r t,f=>.cons (f _ _ r) (Paired.mapP t f)
theorem ObjOk.stay (x:ObjOk P w H h a o) (k:∀ b u,(b = a∨H b = some (.own a))→h.get? b = some u→h'.get? b = some u)
    (ho:∀ b,H b = some (.own a)→H' b = some (.own a)) (ht:∀ b xs,H b = some (.tup xs)→H' b = some (.tup xs)):ObjOk P w H' h' a o:=by
  induction o with
  | lst xs=>obtain ⟨z,its,n,r,e⟩:=x; exact ⟨z,its,n,r,k _ _ (.inl rfl) e⟩
  | tup xs=>obtain ⟨z,its,r,ob,e,c⟩:=x; exact ⟨z,its,r,ob,k _ _ (.inl rfl) e,c⟩
  | dK kvs=>obtain ⟨z,y,vs,r,ob,es,ep,e,c⟩:=x; exact ⟨z,y,vs,r,ob,es,ep,k _ _ (.inl rfl) e,c⟩
  | dT kvs =>
    obtain ⟨z,y,xs,r,ob,es,ep,e,c⟩:=x
    exact ⟨z,y,xs,Paired.mapP r fun p q z=>⟨z.1,ht _ _ z.2.1,z.2.2⟩,ob,es,ep,k _ _ (.inl rfl) e,c⟩
  | set S n=>obtain ⟨ob,es,ep,t,e,c⟩:=x; exact ⟨ob,es,ep,t,k _ _ (.inl rfl) e,c⟩
  | ins C dx fs =>
    obtain ⟨d,z,ne,e,mA,⟨od,es,ep,e2,c⟩,r⟩:=x
    exact ⟨ho _ d,z,ne,k _ _ (.inl rfl) e,mA,⟨od,es,ep,k _ _ (.inr d) e2,c⟩,r⟩
  | own y=>obtain ⟨ob,e⟩:=x; exact ⟨ob,k _ _ (.inl rfl) e⟩
  | xd fs=>obtain ⟨mA,⟨od,es,ep,e,c⟩,r⟩:=x; exact ⟨mA,⟨od,es,ep,k _ _ (.inl rfl) e,c⟩,r⟩
  | rng lo hi=>obtain ⟨t,u,v,e⟩:=x; exact ⟨t,u,v,k _ _ (.inl rfl) e⟩
  | frz ob u ih=>obtain ⟨e,q⟩:=x; exact ⟨k _ _ (.inl rfl) e,ih q⟩
  | tbl ps =>
    have e:h.get? a = some { cls:=.none,data:=.fields ps }:=x
    show h'.get? a = some { cls:=.none,data:=.fields ps }
    exact k a _ (.inl rfl) e
  | met f y =>
    have e:h.get? a = some (PySem.W.methodObj (.ref f) (.ref y)):=x
    show h'.get? a = some (PySem.W.methodObj (.ref f) (.ref y))
    exact k a _ (.inl rfl) e
  | ext φ=>obtain ⟨p,⟨o,e⟩,st⟩:=x; exact ⟨st _ _ p fun o q=>k _ _ (.inl rfl) q,⟨o,k _ _ (.inl rfl) e⟩,st⟩
theorem HOk.lt (x:HOk P w H h) (e:H a = some o):a < h.objs.size:=(x a o e).lt
theorem HOk.fresh (x:HOk P w H h) (e:h.objs.size ≤ a):H a = none:=by
  cases q:H a with
  | none=>rfl
  | some u=>exact absurd (Nat.lt_of_lt_of_le (x.lt q) e) (Nat.lt_irrefl _)
theorem HOk.kept (x:HOk P w H h) (k:∀ b u,h.get? b = some u→h'.get? b = some u):HOk P w H h':=fun a o e =>
  (x a o e).stay (fun b u _ q=>k b u q) (fun _ q=>q) fun _ _ q=>q
theorem HOk.laid (x:HOk P w H h) (k:∀ b u,h.get? b = some u→h'.get? b = some u) (hp:h.objs.size ≤ a) (new:ObjOk P w (upd H a o) h' a o):HOk P w (upd H a o) h':=fun b u e=>by
  have hn:=x.fresh hp
  by_cases hb:b = a
  · subst hb; rw [upd_same] at e; cases e; exact new
  · rw [upd_ne hb] at e
    exact (x b u e).stay (fun c v _ q=>k c v q) (fun c q=>by rw [upd_ne (ne_of_none q hn)]; exact q) fun c xs q=>by rw [upd_ne (ne_of_none q hn)]; exact q
end
def Rd (H:Hp) (a:Addr) (u:HO):Prop:=H a = some u∨∃ o,H a = some (.frz o u)
theorem Rd.ok {P:Program} {w:World} {H:Hp} {h:Heap} {a:Addr} {u:HO} (r:Rd H a u) (x:HOk P w H h):ObjOk P w H h a u:=by
  rcases r with r | ⟨o,r⟩
  · exact x a u r
  · obtain ⟨_,q⟩:=x a _ r
    exact q
def Mut:Option HO→Prop
  | some (.lst _)=>True
  | some (.dK _)=>True
  | some (.dT _)=>True
  | some (.set _ _)=>True
  | some (.ins _ _ _)=>True
  | some (.ext _)=>True
  | _=>False
section
variable {P:Program} {w:World} {H:Hp} {h h':Heap} {x e:Addr} {o':HO}
theorem HOk.write (ok:HOk P w H h) (mu:Mut (H x)) (he:e = x∨H e = some (.own x)) (k:∀ b u,b ≠ e→h.get? b = some u→h'.get? b = some u) (heo:∃ u,h'.get? e = some u)
    (new:ObjOk P w (upd H x o') h' x o'):HOk P w (upd H x o') h':=fun b u q=>by
  have nown:∀ c y,H c = some (.own y)→c ≠ x:=fun c y r z=>by subst z; rw [r] at mu; exact mu
  have ntup:∀ c xs,H c = some (.tup xs)→c ≠ x:=fun c xs r z=>by subst z; rw [r] at mu; exact mu
  by_cases hb:b = x
  · subst hb; rw [upd_same] at q; cases q; exact new
  · rw [upd_ne hb] at q
    by_cases hbe:b = e
    · have q':H b = some (.own x):=by
        rcases he with z | z
        · exact absurd (hbe.trans z) hb
        · rw [hbe]; exact z
      rw [q] at q'; cases q'
      obtain ⟨v,hv⟩:=heo
      exact ⟨v,by rw [hbe]; exact hv⟩
    · refine (ok b u q).stay (fun c v hc r=>k c v ?_ r) (fun c r=>by rw [upd_ne (nown c b r)]; exact r) fun c xs r=>by rw [upd_ne (ntup c xs r)]; exact r
      rcases hc with rfl | hc
      · exact hbe
      · rintro rfl
        rcases he with z | z
        · exact nown c b hc z
        · rw [hc] at z; cases z; exact hb rfl
end
structure Un (fs ex:List Addr) (H H':Hp) (h h':Heap):Prop where
  keep:∀ b o,h.get? b = some o→H b = none→b ∉ fs→b ∉ ex→h'.get? b = some o
  slot:∀ b o,h.get? b = some o→H b = none→b ∈ fs→b ∉ ex→∃ sl,h'.get? b = some { o with slots:=sl }
  free:∀ b o,h.get? b = some o→H b = none→b ∉ ex→H' b = none
  there:∀ b o,h.get? b = some o→b ∉ ex→∃ o',h'.get? b = some o'
  tups:∀ b xs,H b = some (.tup xs)→H' b = some (.tup xs)
  frzs:∀ b o u,H b = some (.frz o u)→H' b = some (.frz o u)
  tbls:∀ b ps,H b = some (.tbl ps)→∃ more,H' b = some (.tbl (ps ++ more))
section
variable {fs fs' ex ex':List Addr} {H H1 H2:Hp} {h h1 h2 h':Heap} {a x e:Addr} {o:HO}
theorem Un.any (u:Un fs ex H H1 h h1) {b:Addr} {ob:Obj} (q:h.get? b = some ob) (n:H b = none) (hx:b ∉ ex):∃ sl,h1.get? b = some { ob with slots:=sl }:=by
  by_cases hb:b ∈ fs
  · exact u.slot b ob q n hb hx
  · exact ⟨ob.slots,u.keep b ob q n hb hx⟩
theorem Un.kept (k:∀ b u,h.get? b = some u→h'.get? b = some u):Un fs ex H H h h' :=
  ⟨fun b ob q _ _ _=>k b ob q,fun b ob q _ _ _=>⟨ob.slots,k b ob q⟩,fun _ _ _ n _=>n,fun b ob q _=>⟨ob,k b ob q⟩,fun _ _ q=>q,fun _ _ _ q=>q,fun _ ps q=>⟨#[],by rw [q]; simp⟩⟩
theorem Un.refl:Un fs ex H H h h:=Un.kept fun _ _ q=>q
theorem Un.laid (k:∀ b u,h.get? b = some u→h'.get? b = some u) (hp:h.objs.size ≤ a) (hn:H a = none):Un fs ex H (upd H a o) h h' where
  keep:=fun b u q _ _ _=>k b u q
  slot:=fun b u q _ _ _=>⟨u.slots,k b u q⟩
  free:=fun b u q n _=>by rw [upd_ne (Nat.ne_of_lt (Nat.lt_of_lt_of_le (Heap.lt_size q) hp))]; exact n
  there:=fun b u q _=>⟨u,k b u q⟩
  tups:=fun b xs q=>by rw [upd_ne (ne_of_none q hn)]; exact q
  frzs:=fun b u xs q=>by rw [upd_ne (ne_of_none q hn)]; exact q
  tbls:=fun b ps q=>⟨#[],by rw [upd_ne (ne_of_none q hn),q]; simp⟩
theorem Un.write (mu:Mut (H x)) (he:e = x∨H e = some (.own x)) (k:∀ b u,b ≠ e→h.get? b = some u→h'.get? b = some u) (heo:∃ u,h'.get? e = some u):Un fs ex H (upd H x o) h h':=by
  have hx:∀ b,H b = none→b ≠ x:=fun b n z=>by subst z; rw [n] at mu; exact mu
  have hb:∀ b,H b = none→b ≠ e:=fun b n z=>by
    subst z
    rcases he with r | r
    · exact hx b n r
    · rw [n] at r; cases r
  have hm:∀ b u,H b = some u→¬ Mut (some u)→b ≠ x:=fun b u q nm z=>by subst z; rw [q] at mu; exact nm mu
  refine ⟨fun b u q n _ _=>k b u (hb b n) q,fun b u q n _ _=>⟨u.slots,k b u (hb b n) q⟩,fun b u q n _=>by rw [upd_ne (hx b n)]; exact n,fun b u q _=>?_,
    fun b xs q=>by rw [upd_ne (hm b _ q fun z=>z)]; exact q,fun b u xs q=>by rw [upd_ne (hm b _ q fun z=>z)]; exact q,fun b ps q=>⟨#[],by rw [upd_ne (hm b _ q fun z=>z),q]; simp⟩⟩
  by_cases hbe:b = e
  · subst hbe; exact heo
  · exact ⟨u,k b u hbe q⟩
end
def trk (h:Heap) (H:Hp):List Addr:=(List.range h.objs.size).filter fun a=>(H a).isSome
def hidT (h:Heap) (H:Hp):Heap:=PySem.W.hideAll h (trk h H)
theorem hidT_size (h:Heap) (H:Hp):(hidT h H).objs.size = h.objs.size:=PySem.W.hideAll_size _ _
theorem hidT_get {h:Heap} {H:Hp} {b:Addr} {o:Obj} (e:h.get? b = some o) (n:H b = none):(hidT h H).get? b = some o :=
  PySem.W.hideAll_get _ e fun hm=>by
    have q:(H b).isSome = true:=(List.mem_filter.mp hm).2
    rw [n] at q; simp at q
theorem of_hidT {h:Heap} {H:Hp} {b:Addr} {o:Obj} (e:(hidT h H).get? b = some o):h.get? b = some o∧H b = none:=by
  have e':h.get? b = some o:=PySem.W.of_hideAll (trk h H) e
  refine ⟨e',?_⟩
  cases q:H b with
  | none=>rfl
  | some x =>
    have hm:b ∈ trk h H:=List.mem_filter.mpr ⟨List.mem_range.mpr (Heap.lt_size e'),by simp [q]⟩
    have z:(hidT h H).get? b = none:=PySem.W.hideAll_none (trk h H) hm
    rw [z] at e; cases e
end L2
namespace L2
open PySem PySem.Spec PyProof.Rows
structure Mod (K:PySem.W.Frag) (mg:Str→Option Value) (base:Heap):Prop where
  kin:K.In base
  glob:base.Ns mainGlobals mg
  blt:∃ mb,base.Ns builtinsNs mb∧∀ x:Str,x ≠ "__name__"→mb x = bootBuiltins x
  nolimit:base.NoLimit
structure Cx where
  prog:Program
  w:World
  K:PySem.W.Frag
  mg:Str→Option Value
  base:Heap
  A:Around
  N:List Str
  s₀:Shared
  H₀:Hp
  env:Env
  outer:List Env
  stack:List Env
  ex:List Addr
  fn:Str→Bool
  calm:Bool
  pn:List (Addr × Obj)
  xe:Value→Shared→Prop
def frs (l:List Env):List Addr:=l.filterMap (·.frame)
abbrev Cx.fs (X:Cx):List Addr:=frs X.outer
def Vis (sc:Scope) (x:Str):Prop:=sc.names.lookup x = some .local∨sc.names.lookup x = some .cell∨sc.names.lookup x = some .free
def Loc (sc:Scope) (x:Str):Prop:=sc.names.lookup x = some .local∨sc.names.lookup x = some .cell
def Look (env:Env) (h:Heap) (m:Str→Option Value) (x:Str) (u:Value):Prop :=
  (env.kindOf x = some .local∧m x = some u)∨((env.kindOf x = some .cell∨env.kindOf x = some .free)∧∃ c,env.cells.lookup x = some c∧h.IsCell c (some u))
structure Cx.Ok (X:Cx):Prop where
  mod:Mod X.K X.mg X.base
  kind:X.env.scope.kind = .function
  glob:X.env.globals = mainGlobals
  blt:X.env.builtins = builtinsNs
  above:X.s₀.heap.objs.size ≤ X.env.locals
  inj:∀ x y c,X.env.cells.lookup x = some c→X.env.cells.lookup y = some c→x = y
  has:∀ x,(X.env.kindOf x = some .cell∨X.env.kindOf x = some .free)→∃ c,X.env.cells.lookup x = some c
  cab:∀ x c,X.fn x = true→X.env.cells.lookup x = some c→X.s₀.heap.objs.size ≤ c
  hd:X.calm = true→X.A.handled = none
  frames:X.A.frames = some X.stack
  stk:X.stack = X.outer∨(X.stack = X.env :: X.outer∧X.env.frame = some X.env.locals)
  exf:∀ b ∈ X.ex,b ≠ X.env.locals∧∀ x c,X.env.cells.lookup x = some c→c ≠ b
  bs:∀ b o,X.base.get? b = some o→X.s₀.heap.get? b = some o∧X.H₀ b = none
  bsz:X.base.objs.size ≤ X.s₀.heap.objs.size
  noex:∀ b o,X.base.get? b = some o→b ∉ X.ex
  exfs:∀ b ∈ X.ex,b ∉ X.fs
  funs:X.s₀.heap.FunFrames X.base X.outer
  frf:∀ b ∈ X.fs,X.H₀ b = none
structure Inv (X:Cx) (pins:List (Addr × Obj)) (σ:List (Option V)) (H:Hp) (s:Shared):Prop where
  ok:X.Ok
  os:s.os = X.s₀.os
  bare:AllBare s.gens
  base:Un X.fs X.ex X.H₀ H X.s₀.heap s.heap
  loc:∃ m,s.heap.Ns X.env.locals m∧∀ (i:Nat) (x:Str) (v:V),X.N[i]? = some x→σ[i]? = some (some v)→Vis X.env.scope x→∃ u,RelV v u∧Look X.env s.heap m x u
  cell:∀ x c,X.env.cells.lookup x = some c→∃ v,s.heap.IsCell c v
  free:H X.env.locals = none
  freeC:∀ x c,X.env.cells.lookup x = some c→H c = none
  pin:∀ p ∈ X.pn ++ pins,s.heap.get? p.1 = some p.2∧H p.1 = none∧p.1 ≠ X.env.locals∧p.1 ∉ X.fs∧∀ v,p.2.data ≠ .cell v
  hok:HOk X.prog X.w H s.heap
  len:σ.length = X.N.length
section
variable {X:Cx} {pins:List (Addr × Obj)} {σ:List (Option V)} {H H':Hp} {s:Shared} {h':Heap}
theorem Cx.Ok.nofr (ok:X.Ok) {b:Addr} {o:Obj} (e:X.base.get? b = some o):b ∉ X.fs:=fun hb=>by
  have:=(ok.funs.mem hb).1
  rw [e] at this; cases this
theorem Inv.bs (I:Inv X pins σ H s):∀ b o,X.base.get? b = some o→s.heap.get? b = some o∧H b = none:=fun b o e =>
  ⟨I.base.keep b o (I.ok.bs b o e).1 (I.ok.bs b o e).2 (I.ok.nofr e) (I.ok.noex b o e),I.base.free b o (I.ok.bs b o e).1 (I.ok.bs b o e).2 (I.ok.noex b o e)⟩
theorem Inv.bk (I:Inv X pins σ H s):∀ b o,X.base.get? b = some o→s.heap.get? b = some o:=fun b o e=>(I.bs b o e).1
theorem Inv.mod (I:Inv X pins σ H s):Mod X.K X.mg X.base:=I.ok.mod
theorem Inv.kIn (I:Inv X pins σ H s):X.K.In s.heap:=I.ok.mod.kin.keeps I.bk
theorem Inv.lt (I:Inv X pins σ H s):X.env.locals < s.heap.objs.size:=let ⟨_,hn,_⟩:=I.loc; hn.lt
theorem Inv.sz (I:Inv X pins σ H s):X.s₀.heap.objs.size ≤ s.heap.objs.size:=Nat.le_trans I.ok.above (Nat.le_of_lt I.lt)
theorem Inv.nofs (I:Inv X pins σ H s) {a:Addr} (h:s.heap.objs.size ≤ a):a ∉ X.fs:=fun hb=>by
  obtain ⟨_,o,ho,_⟩:=I.ok.funs.mem hb
  exact absurd (Nat.lt_of_lt_of_le (Heap.lt_size ho) (Nat.le_trans I.sz h)) (Nat.lt_irrefl _)
theorem Inv.cne (I:Inv X pins σ H s):∀ x c,X.env.cells.lookup x = some c→c ≠ X.env.locals:=fun x c e z=>by
  obtain ⟨v,o,ho,hd⟩:=I.cell x c e
  obtain ⟨m,⟨o',es,ep,ho',hd',_⟩,_⟩:=I.loc
  rw [z,ho'] at ho; cases ho; rw [hd'] at hd; cases hd
theorem Inv.funs (I:Inv X pins σ H s):s.heap.FunFrames X.base X.outer:=by
  have all:∀ (l:List Env),(∀ b ∈ frs l,b ∈ X.fs)→X.s₀.heap.FunFrames X.base l→s.heap.FunFrames X.base l:=by
    intro l
    induction l with
    | nil=>intro _ _; trivial
    | cons env r ih =>
      intro hs hl
      obtain ⟨hk,⟨L,o,hf,hn,ho,hd⟩,hr⟩:=hl
      have hL:L ∈ X.fs:=hs L (by unfold frs; rw [List.filterMap_cons,hf]; exact List.mem_cons_self)
      obtain ⟨sl,e⟩:=I.base.slot L o ho (I.ok.frf L hL) hL fun z=>I.ok.exfs L z hL
      exact ⟨hk,⟨L,_,hf,hn,e,hd⟩,ih (fun b hb=>hs b (by unfold frs; rw [List.filterMap_cons,hf]; exact List.mem_cons_of_mem _ hb)) hr⟩
  exact all X.outer (fun _ hb=>hb) I.ok.funs
theorem Inv.stack (I:Inv X pins σ H s):s.heap.FunFrames X.base X.stack:=by
  rcases I.ok.stk with e | ⟨e,hf⟩
  · rw [e]; exact I.funs
  · rw [e]
    obtain ⟨m,hn,_⟩:=I.loc
    refine .cons (by rw [I.ok.kind]; decide) hf hn ?_ I.funs
    exact Heap.get?_none_of_le (Nat.le_trans I.ok.bsz I.ok.above)
theorem Inv.stkSub (I:Inv X pins σ H s):∀ b ∈ frs X.stack,b ∈ X.env.locals :: X.fs:=fun b hb=>by
  rcases I.ok.stk with e | ⟨e,hf⟩
  · rw [e] at hb; exact List.mem_cons_of_mem _ hb
  · rw [e] at hb
    unfold frs at hb
    rw [List.filterMap_cons,hf] at hb
    exact hb
theorem Inv.stkFree (I:Inv X pins σ H s):∀ b ∈ frs X.stack,H b = none:=fun b hb=>by
  rcases List.mem_cons.mp (I.stkSub b hb) with e | hb
  · rw [e]; exact I.free
  · obtain ⟨_,o,ho,_⟩:=I.ok.funs.mem hb
    exact I.base.free b o ho (I.ok.frf b hb) fun z=>I.ok.exfs b z hb
theorem Inv.step {g':Array GenState} {t':Nat} {d':Drawn} {ch:List Addr} (I:Inv X pins σ H s)
    (hch:∀ b ∈ ch,(b ∈ X.ex∨X.s₀.heap.objs.size ≤ b)∧b ≠ X.env.locals∧(∀ x c,X.env.cells.lookup x = some c→c ≠ b)∧∀ p ∈ X.pn ++ pins,p.1 ≠ b)
    (keep:∀ b o,b ≠ X.env.locals→b ∉ X.fs→b ∉ ch→s.heap.get? b = some o→H b = none→h'.get? b = some o)
    (slot:∀ b o,b ≠ X.env.locals→b ∈ X.fs→b ∉ ch→s.heap.get? b = some o→H b = none→∃ sl,h'.get? b = some { o with slots:=sl }) (free:∀ b o,b ∉ ch→s.heap.get? b = some o→H b = none→H' b = none)
    (there:∀ b o,b ∉ ch→s.heap.get? b = some o→∃ o',h'.get? b = some o')
    (tups:∀ b xs,H b = some (.tup xs)→H' b = some (.tup xs)) (frzs:∀ b o u,H b = some (.frz o u)→H' b = some (.frz o u)) (tbls:∀ b ps,H b = some (.tbl ps)→∃ more,H' b = some (.tbl (ps ++ more)))
    (ns:∀ m,s.heap.Ns X.env.locals m→h'.Ns X.env.locals m) (hok:HOk X.prog X.w H' h') (hg:AllBare g') :
    Inv X pins σ H' { s with heap:=h',gens:=g',drawn:=d',toks:=t' }:=by
  have neL:∀ b o,X.s₀.heap.get? b = some o→b ≠ X.env.locals:=fun b o e=>Nat.ne_of_lt (Nat.lt_of_lt_of_le (Heap.lt_size e) I.ok.above)
  have neC:∀ b o,X.s₀.heap.get? b = some o→b ∉ X.ex→b ∉ ch:=fun b o e hx hb=>by
    rcases (hch b hb).1 with z | z
    · exact hx z
    · exact absurd (Nat.lt_of_lt_of_le (Heap.lt_size e) z) (Nat.lt_irrefl _)
  have cellK:∀ x c,X.env.cells.lookup x = some c→∀ v,s.heap.IsCell c v→h'.IsCell c v:=fun x c e v ⟨o,ho,hd⟩=>by
    have nch:c ∉ ch:=fun z=>(hch c z).2.2.1 x c e rfl
    by_cases hc:c ∈ X.fs
    · obtain ⟨sl,q⟩:=slot c o (I.cne x c e) hc nch ho (I.freeC x c e)
      exact ⟨_,q,hd⟩
    · exact ⟨o,keep c o (I.cne x c e) hc nch ho (I.freeC x c e),hd⟩
  refine ⟨I.ok,I.os,hg,⟨fun b o e n hb hx=>?_,fun b o e n hb hx=>?_,fun b o e n hx=>?_,fun b o e hx=>?_,fun b xs e=>tups b xs (I.base.tups b xs e),fun b o xs e=>frzs b o xs (I.base.frzs b o xs e),fun b ps e=>?_⟩,?_,fun x c e=>?_,?_,fun x c e=>?_,fun p hp=>?_,hok,I.len⟩
  · exact keep b o (neL b o e) hb (neC b o e hx) (I.base.keep b o e n hb hx) (I.base.free b o e n hx)
  · obtain ⟨sl,e1⟩:=I.base.slot b o e n hb hx
    obtain ⟨sl',e2⟩:=slot b _ (neL b o e) hb (neC b o e hx) e1 (I.base.free b o e n hx)
    exact ⟨sl',e2⟩
  · obtain ⟨o',e1⟩:=I.base.there b o e hx
    exact free b o' (neC b o e hx) e1 (I.base.free b o e n hx)
  · obtain ⟨o',e1⟩:=I.base.there b o e hx
    exact there b o' (neC b o e hx) e1
  · obtain ⟨m1,e1⟩:=I.base.tbls b ps e
    obtain ⟨m2,e2⟩:=tbls b _ e1
    exact ⟨m1 ++ m2,by rw [e2,Array.append_assoc]⟩
  · obtain ⟨m,hn,hl⟩:=I.loc
    refine ⟨m,ns m hn,fun i x v e1 e2 e3=>?_⟩
    obtain ⟨u,r,l⟩:=hl i x v e1 e2 e3
    refine ⟨u,r,?_⟩
    rcases l with l | ⟨k,c,e,z⟩
    · exact .inl l
    · exact .inr ⟨k,c,e,cellK x c e _ z⟩
  · obtain ⟨v,z⟩:=I.cell x c e
    exact ⟨v,cellK x c e v z⟩
  · obtain ⟨m,⟨o,_,_,ho,_⟩,_⟩:=I.loc
    exact free _ o (fun z=>(hch _ z).2.1 rfl) ho I.free
  · obtain ⟨v,o,ho,hd⟩:=I.cell x c e
    exact free c o (fun z=>(hch c z).2.2.1 x c e rfl) ho (I.freeC x c e)
  · obtain ⟨e,n,ne,nf,d⟩:=I.pin p hp
    have nch:p.1 ∉ ch:=fun z=>(hch p.1 z).2.2.2 p hp rfl
    exact ⟨keep p.1 p.2 ne nf nch e n,free p.1 p.2 nch e n,ne,nf,d⟩
theorem Inv.un {t':Nat} (I:Inv X pins σ H s) (u:Un X.fs [] H H' s.heap h') (hok:HOk X.prog X.w H' h'):Inv X pins σ H' { s with heap:=h',toks:=t' }:=by
  obtain ⟨m,⟨o,es,ep,ho,r⟩,_⟩:=id I.loc
  obtain ⟨sl,hL⟩:=u.any ho I.free (by simp)
  exact I.step (g':=s.gens) (d':=s.drawn) (ch:=[]) (fun _ z=>nomatch z) (fun b o _ hb _ e n=>u.keep b o e n hb (by simp)) (fun b o _ hb _ e n=>u.slot b o e n hb (by simp)) (fun b o _ e n=>u.free b o e n (by simp)) (fun b o _ e=>u.there b o e (by simp)) u.tups u.frzs u.tbls (fun m' hm=>by
    obtain ⟨o',es',ep',ho',r'⟩:=hm
    rw [ho] at ho'; cases ho'
    exact ⟨_,es',ep',hL,r'⟩) hok I.bare
theorem Inv.call {g':Array GenState} {t':Nat} {d':Drawn} {ch:List Addr} (I:Inv X pins σ H s) (u:Un (frs X.stack) ch H H' s.heap h') (hok:HOk X.prog X.w H' h') (hg:AllBare g')
    (hch:∀ b ∈ ch,(b ∈ X.ex∨X.s₀.heap.objs.size ≤ b)∧b ≠ X.env.locals∧(∀ x c,X.env.cells.lookup x = some c→c ≠ b)∧∀ p ∈ X.pn ++ pins,p.1 ≠ b) :
    Inv X pins σ H' { s with heap:=h',gens:=g',drawn:=d',toks:=t' }:=by
  obtain ⟨m,⟨o,es,ep,ho,r⟩,_⟩:=id I.loc
  obtain ⟨sl,hL⟩:=u.any ho I.free fun z=>(hch _ z).2.1 rfl
  exact I.step (ch:=ch) hch (fun b o hL hb hc e n=>u.keep b o e n (fun z=>(List.mem_cons.mp (I.stkSub b z)).elim hL hb) hc) (fun b o _ _ hc e n=>u.any e n hc) (fun b o hc e n=>u.free b o e n hc) (fun b o hc e=>u.there b o e hc) u.tups u.frzs u.tbls (fun m' hm=>by
    obtain ⟨o',es',ep',ho',r'⟩:=hm
    rw [ho] at ho'; cases ho'
    exact ⟨_,es',ep',hL,r'⟩) hok hg
theorem Inv.turned {t':Nat} {it:Addr} (I:Inv X pins σ H s) (k:∀ b o,b ≠ it→s.heap.get? b = some o→h'.get? b = some o) (hn:H it = none) (hL:it ≠ X.env.locals)
    (h1:it ∈ X.ex∨X.s₀.heap.objs.size ≤ it) (h2:∀ x c,X.env.cells.lookup x = some c→c ≠ it) (h3:∀ p ∈ X.pn ++ pins,p.1 ≠ it):Inv X pins σ H { s with heap:=h',toks:=t' }:=by
  have nit:∀ b u,H b = some u→b ≠ it:=fun b u e z=>by rw [z,hn] at e; cases e
  refine I.step (g':=s.gens) (d':=s.drawn) (ch:=[it]) (fun b hb=>?_) (fun b o _ _ hc e _=>k b o (fun z=>hc (by simp [z])) e) (fun b o _ _ hc e _=>⟨o.slots,k b o (fun z=>hc (by simp [z])) e⟩) (fun _ _ _ _ n=>n)
    (fun b o hc e=>⟨o,k b o (fun z=>hc (by simp [z])) e⟩) (fun _ _ e=>e) (fun _ _ _ e=>e) (fun b ps e=>⟨#[],by rw [e]; simp⟩) (fun m hm=>?_) (fun b u e=>?_) I.bare
  · have e:b = it:=by simpa using hb
    subst e
    exact ⟨h1,hL,h2,h3⟩
  · obtain ⟨o,es,ep,ho,r⟩:=hm
    exact ⟨o,es,ep,k _ o (Ne.symm hL) ho,r⟩
  · refine (I.hok b u e).stay (fun c v hc q=>k c v ?_ q) (fun _ q=>q) fun _ _ q=>q
    rcases hc with z | z
    · rw [z]; exact nit b u e
    · exact nit c _ z
theorem Inv.tok (I:Inv X pins σ H s) (t:Nat):Inv X pins σ H { s with toks:=t }:=I.un (h':=s.heap) (t':=t) Un.refl I.hok
theorem Inv.kept {t':Nat} (I:Inv X pins σ H s) (k:∀ b u,s.heap.get? b = some u→h'.get? b = some u):Inv X pins σ H { s with heap:=h',toks:=t' }:=I.un (Un.kept k) (I.hok.kept k)
theorem Inv.laid {a:Addr} {o:HO} {t':Nat} (I:Inv X pins σ H s) (k:∀ b u,s.heap.get? b = some u→h'.get? b = some u) (hp:s.heap.objs.size ≤ a) (new:ObjOk X.prog X.w (upd H a o) h' a o) :
    Inv X pins σ (upd H a o) { s with heap:=h',toks:=t' }:=I.un (Un.laid k hp (I.hok.fresh hp)) (I.hok.laid k hp new)
theorem Inv.write {x e:Addr} {o:HO} {t':Nat} (I:Inv X pins σ H s) (mu:Mut (H x)) (he:e = x∨H e = some (.own x)) (k:∀ b u,b ≠ e→s.heap.get? b = some u→h'.get? b = some u) (heo:∃ u,h'.get? e = some u)
    (new:ObjOk X.prog X.w (upd H x o) h' x o):Inv X pins σ (upd H x o) { s with heap:=h',toks:=t' }:=I.un (Un.write mu he k heo) (I.hok.write mu he k heo new)
theorem Inv.pins_of {pins':List (Addr × Obj)} (I:Inv X pins σ H s) (h:∀ p ∈ pins',s.heap.get? p.1 = some p.2∧H p.1 = none∧p.1 ≠ X.env.locals∧p.1 ∉ X.fs∧∀ v,p.2.data ≠ .cell v):Inv X pins' σ H s :=
  ⟨I.ok,I.os,I.bare,I.base,I.loc,I.cell,I.free,I.freeC,fun p hp=>(List.mem_append.mp hp).elim (fun z=>I.pin p (List.mem_append_left _ z)) (h p),I.hok,I.len⟩
theorem nodup_ix {N:List Str} (hN:N.Nodup) {i j:Nat} {x:Str} (a:N[i]? = some x) (b:N[j]? = some x):i = j:=by
  obtain ⟨h1,e1⟩:=List.getElem?_eq_some_iff.mp a
  obtain ⟨h2,e2⟩:=List.getElem?_eq_some_iff.mp b
  exact (List.getElem_inj hN).mp (e1.trans e2.symm)
theorem store_ok2 {M:Model} {A:Around} {E:Value→Shared→Prop} {i:Nat} {x:Str} {v:V} {u:Value} {Q:Unit→Shared→Prop} (I:Inv X pins σ H s) (hN:X.N.Nodup) (hi:X.N[i]? = some x) (hx:Loc X.env.scope x) (r:RelV v u)
    (h:∀ s',Inv X pins (σ.set i (some v)) H s'→(∃ a,Heap.SameBut a s.heap s'.heap∧(a = X.env.locals∨X.env.cells.lookup x = some a))→Q () s') (hf:X.fn x = true∨X.env.scope.names.lookup x = some .local:=by first | exact .inl rfl | exact .inr rfl | assumption):wpAny M A (storeName X.env x u) Q E s:=by
  obtain ⟨m,hn,hl⟩:=id I.loc
  have hcls:(X.env.scope.kind == .class || (X.env.scope.kind == .module && X.env.locals != X.env.globals)) = false:=by rw [I.ok.kind]; rfl
  have hiσ:i < σ.length:=by rw [I.len]; exact (List.getElem?_eq_some_iff.mp hi).1
  have cne:=I.cne
  have tracked:∀ {a:Addr} {h':Heap},(∃ o,s.heap.get? a = some o∧H a = none)→Heap.SameBut a s.heap h'→HOk X.prog X.w H h':=fun {a h'} ha hs b ob e=>by
    obtain ⟨_,_,hfree⟩:=ha
    refine (I.hok b ob e).stay (fun c w' hc q=>(hs.2 c ?_).trans q) (fun _ q=>q) fun _ _ q=>q
    rintro rfl
    rcases hc with rfl | hc
    · rw [hfree] at e; cases e
    · rw [hfree] at hc; cases hc
  rcases hx with hk | hk
  · refine wpAny_storeName_local hk hn (fun h' hn' hs=>?_) hcls
    obtain ⟨oL,_,_,hoL,_⟩:=id hn
    refine h _ ⟨I.ok,I.os,I.bare,⟨fun b o e n hb hx=>?_,fun b o e n hb hx=>?_,I.base.free,fun b o e hx=>?_,I.base.tups,I.base.frzs,I.base.tbls⟩,⟨_,hn',fun j y v' e1 e2 e3=>?_⟩,fun y c e=>?_,I.free,I.freeC,fun p hp=>?_,tracked ⟨oL,hoL,I.free⟩ hs,by simpa using I.len⟩ ⟨_,hs,.inl rfl⟩
    · exact (hs.2 b (Nat.ne_of_lt (Nat.lt_of_lt_of_le (Heap.lt_size e) I.ok.above))).trans (I.base.keep b o e n hb hx)
    · obtain ⟨sl,e1⟩:=I.base.slot b o e n hb hx
      exact ⟨sl,(hs.2 b (Nat.ne_of_lt (Nat.lt_of_lt_of_le (Heap.lt_size e) I.ok.above))).trans e1⟩
    · obtain ⟨o',e1⟩:=I.base.there b o e hx
      exact ⟨o',(hs.2 b (Nat.ne_of_lt (Nat.lt_of_lt_of_le (Heap.lt_size e) I.ok.above))).trans e1⟩
    · by_cases hj:j = i
      · subst hj
        rw [hi] at e1; cases e1
        rw [List.getElem?_set_self hiσ] at e2
        cases e2
        exact ⟨u,r,.inl ⟨hk,by simp⟩⟩
      · rw [List.getElem?_set_ne (Ne.symm hj)] at e2
        obtain ⟨u',r',q⟩:=hl j y v' e1 e2 e3
        refine ⟨u',r',?_⟩
        rcases q with ⟨k,e⟩ | ⟨k,c,e,z⟩
        · refine .inl ⟨k,?_⟩
          have:y ≠ x:=fun e=>hj (nodup_ix hN e1 (e ▸ hi))
          simp [this,e]
        · exact .inr ⟨k,c,e,z.sameBut hs (cne y c e)⟩
    · obtain ⟨w',z⟩:=I.cell y c e
      exact ⟨w',z.sameBut hs (cne y c e)⟩
    · obtain ⟨e,n,ne,nf,d⟩:=I.pin p hp
      exact ⟨(hs.2 p.1 ne).trans e,n,ne,nf,d⟩
  · have hfn:X.fn x = true:=by
      rcases hf with z | z
      · exact z
      · rw [z] at hk; cases hk
    obtain ⟨c,hc⟩:=I.ok.has x (.inl hk)
    obtain ⟨w',z⟩:=I.cell x c hc
    refine wpAny_storeName_cell I.ok.kind hk hc z (fun h' hc' hs=>?_)
    obtain ⟨oc,hoc,hocd⟩:=id z
    refine h { s with heap:=h' } ⟨I.ok,I.os,I.bare,⟨fun b o e n hb hx=>?_,fun b o e n hb hx=>?_,I.base.free,fun b o e hx=>?_,I.base.tups,I.base.frzs,I.base.tbls⟩,⟨m,hn.sameBut hs (Ne.symm (cne x c hc)),fun j y v' e1 e2 e3=>?_⟩,fun y c' e=>?_,I.free,I.freeC,fun p hp=>?_,tracked ⟨oc,hoc,I.freeC x c hc⟩ hs,by simpa using I.len⟩ ⟨c,hs,.inr hc⟩
    · exact (hs.2 b (Nat.ne_of_lt (Nat.lt_of_lt_of_le (Heap.lt_size e) (I.ok.cab x c hfn hc)))).trans (I.base.keep b o e n hb hx)
    · obtain ⟨sl,e1⟩:=I.base.slot b o e n hb hx
      exact ⟨sl,(hs.2 b (Nat.ne_of_lt (Nat.lt_of_lt_of_le (Heap.lt_size e) (I.ok.cab x c hfn hc)))).trans e1⟩
    · obtain ⟨o',e1⟩:=I.base.there b o e hx
      exact ⟨o',(hs.2 b (Nat.ne_of_lt (Nat.lt_of_lt_of_le (Heap.lt_size e) (I.ok.cab x c hfn hc)))).trans e1⟩
    · by_cases hj:j = i
      · subst hj
        rw [hi] at e1; cases e1
        rw [List.getElem?_set_self hiσ] at e2
        cases e2
        exact ⟨u,r,.inr ⟨.inl hk,c,hc,hc'⟩⟩
      · rw [List.getElem?_set_ne (Ne.symm hj)] at e2
        obtain ⟨u',r',q⟩:=hl j y v' e1 e2 e3
        refine ⟨u',r',?_⟩
        rcases q with q | ⟨k,c',e,z'⟩
        · exact .inl q
        · refine .inr ⟨k,c',e,z'.sameBut hs ?_⟩
          rintro rfl
          exact hj (nodup_ix hN e1 (I.ok.inj _ _ _ e hc ▸ hi))
    · by_cases hcc:c' = c
      · subst hcc; exact ⟨_,hc'⟩
      · obtain ⟨w2,z2⟩:=I.cell y c' e
        exact ⟨w2,z2.sameBut hs hcc⟩
    · obtain ⟨e,n,ne,nf,d⟩:=I.pin p hp
      refine ⟨(hs.2 p.1 ?_).trans e,n,ne,nf,d⟩
      intro q
      rw [q,hoc] at e
      have q':oc = p.2:=Option.some.inj e
      exact d w' (by rw [← q']; exact hocd)
theorem store_ok {M:Model} {A:Around} {E:Value→Shared→Prop} {i:Nat} {x:Str} {v:V} {u:Value} {Q:Unit→Shared→Prop} (I:Inv X pins σ H s) (hN:X.N.Nodup) (hi:X.N[i]? = some x) (hx:Loc X.env.scope x) (r:RelV v u)
    (h:∀ s',Inv X pins (σ.set i (some v)) H s'→Q () s') (hf:X.fn x = true∨X.env.scope.names.lookup x = some .local:=by first | exact .inl rfl | exact .inr rfl | assumption):wpAny M A (storeName X.env x u) Q E s :=
  store_ok2 I hN hi hx r (fun s' I' _=>h s' I') hf
theorem Inv.call' {s':Shared} {ch:List Addr} (I:Inv X pins σ H s) (ho:s'.os = s.os) (u:Un (frs X.stack) ch H H' s.heap s'.heap) (hok:HOk X.prog X.w H' s'.heap) (hg:AllBare s'.gens)
    (hch:∀ b ∈ ch,(b ∈ X.ex∨X.s₀.heap.objs.size ≤ b)∧b ≠ X.env.locals∧(∀ x c,X.env.cells.lookup x = some c→c ≠ b)∧∀ p ∈ X.pn ++ pins,p.1 ≠ b):Inv X pins σ H' s':=by
  obtain ⟨h',g',d',t',o'⟩:=s'
  have e:o' = s.os:=ho
  subst e
  exact I.call (g':=g') (t':=t') (d':=d') u hok hg hch
end
abbrev XK:=Value→Option Addr→Hp→Prop
abbrev St:=List (Option V)
abbrev VK:=V→Hp→Prop
abbrev TE:=St→Hp→VK→Prop
abbrev TT:=St→Hp→(Bool→Hp→Prop)→Prop
abbrev TA:=St→Hp→(List V→Hp→Prop)→Prop
structure Ends where
  nx:St→Hp→Prop
  rt:VK
  bk:St→Hp→Prop:=fun _ _=>False
  ct:St→Hp→Prop:=fun _ _=>False
abbrev TS:=Ends→St→Hp→Prop
def EP (X:Cx) (pins:List (Addr × Obj)) (σ:St) (Q:VK) (u:Value) (s':Shared):Prop:=∃ v H',Inv X pins σ H' s'∧RelV v u∧Q v H'
def TP (X:Cx) (pins:List (Addr × Obj)) (σ:St) (Q:Bool→Hp→Prop) (b:Bool) (s':Shared):Prop:=∃ H',Inv X pins σ H' s'∧Q b H'
def AP (X:Cx) (pins:List (Addr × Obj)) (σ:St) (Q:List V→Hp→Prop) (us:List Value) (s':Shared):Prop:=∃ vs H',Inv X pins σ H' s'∧Vals vs us∧Q vs H'
def SP (X:Cx) (pins:List (Addr × Obj)) (D:Ends) (f:Flow) (s':Shared):Prop :=
  match f with
  | .next=>∃ σ' H',Inv X pins σ' H' s'∧D.nx σ' H'
  | .brk=>∃ σ' H',Inv X pins σ' H' s'∧D.bk σ' H'
  | .cont=>∃ σ' H',Inv X pins σ' H' s'∧D.ct σ' H'
  | .ret u=>∃ v σ' H',Inv X pins σ' H' s'∧RelV v u∧D.rt v H'
def PE (X:Cx) (e:Expr) (t:TE):Prop :=
  ∀ (pins:List (Addr × Obj)) (s:Shared) (σ:St) (H:Hp) (Q:VK),Inv X pins σ H s→t σ H Q→wpAny (model X.prog X.w) X.A (eval e X.env) (EP X pins σ Q) X.xe s
def PT (X:Cx) (e:Expr) (t:TT):Prop :=
  ∀ (pins:List (Addr × Obj)) (s:Shared) (σ:St) (H:Hp) (Q:Bool→Hp→Prop),Inv X pins σ H s→t σ H Q→wpAny (model X.prog X.w) X.A (isTrue e X.env (eval e X.env)) (TP X pins σ Q) X.xe s
def PW (X:Cx) (e:Expr) (t:TT):Prop :=
  ∀ (whole:Sem Value) (pins:List (Addr × Obj)) (s:Shared) (σ:St) (H:Hp) (Q:Bool→Hp→Prop),Inv X pins σ H s→t σ H Q→wpAny (model X.prog X.w) X.A (isTrue e X.env whole) (TP X pins σ Q) X.xe s
theorem PW.pt {X:Cx} {e:Expr} {t:TT} (h:PW X e t):PT X e t:=h _
def PA (X:Cx) (es:List Expr) (t:TA):Prop :=
  ∀ (pos:Pos) (pins:List (Addr × Obj)) (s:Shared) (σ:St) (H:Hp) (Q:List V→Hp→Prop),Inv X pins σ H s→t σ H Q→wpAny (model X.prog X.w) X.A (spliced (backTo pos (starEach es X.env))) (AP X pins σ Q) X.xe s
def PS (X:Cx) (st:Stmt) (t:TS):Prop :=
  ∀ (pins:List (Addr × Obj)) (s:Shared) (σ:St) (H:Hp) (D:Ends),Inv X pins σ H s→t D σ H→wpAny (model X.prog X.w) X.A (exec st X.env) (SP X pins D) X.xe s
def PSs (X:Cx) (st:List Stmt) (t:TS):Prop :=
  ∀ (pins:List (Addr × Obj)) (s:Shared) (σ:St) (H:Hp) (D:Ends),Inv X pins σ H s→t D σ H→wpAny (model X.prog X.w) X.A (execs st X.env) (SP X pins D) X.xe s
theorem thn {α:Type} {t:Sem α} {Q Q':α→Shared→Prop} {M:Model} {A:Around} {E:Value→Shared→Prop} {s:Shared} (h:wpAny M A t Q E s) (hQ:∀ a s,Q a s→Q' a s):wpAny M A t Q' E s:=wpAny_mono h hQ fun _ _ x=>x
end L2
namespace L2
open PySem PySem.Spec PyProof.Rows
section
variable {X:Cx}
def tVar (i:Nat):TE:=fun σ H Q=>∃ v,σ[i]? = some (some v)∧Q v H
def tC (v:V):TE:=fun _ H Q=>Q v H
theorem pe_var {i:Nat} {x:Str} {pos:Pos} (hN:X.N[i]? = some x) (hv:Vis X.env.scope x) (hd:(x == ("__debug__":Str)) = false:=by decide) (hcd:(x == ("__classdict__":Str)) = false:=by decide):PE X (.Name x pos) (tVar i):=by
  intro pins s σ H Q I h
  obtain ⟨v,e,h⟩:=h
  obtain ⟨m,hn,hl⟩:=I.loc
  obtain ⟨u,r,l⟩:=hl i x v hN e hv
  have fin:EP X pins σ Q u s:=⟨v,H,I,r,h⟩
  rcases l with ⟨hk,hm⟩ | ⟨hk,c,hc,hcell⟩
  · exact wpAny_Name (wpAny_loadName_local I.ok.kind hk hn hm fin) hd
  · rcases hk with hk | hk
    · exact wpAny_Name (wpAny_loadName_cell I.ok.kind hk hc hcell fin) hd
    · exact wpAny_Name (wpAny_loadName_free I.ok.kind hk hc hcell fin hcd) hd
theorem pe_int {i j pos}:PE X (.Constant (.int i) j pos) (tC (.int i)):=fun _ _ _ H _ I h=>wpAny_Constant_int ⟨.int i,H,I.tok _,⟨_,rfl⟩,h⟩
theorem pe_bl {b j pos}:PE X (.Constant (.bool b) j pos) (tC (.bl b)):=fun _ _ _ H _ I h=>Constant_bool ⟨.bl b,H,I,rfl,h⟩
theorem pe_non {j pos}:PE X (.Constant .none j pos) (tC .non):=fun _ _ _ H _ I h=>Constant_none ⟨.non,H,I,rfl,h⟩
theorem pe_str {x j pos}:PE X (.Constant (.str x) j pos) (tC (.str x)):=fun _ _ _ H _ I h=>Calls.Constant_str ⟨.str x,H,I.tok _,⟨_,rfl⟩,h⟩
def Gl (X:Cx) (x:Str):Prop:=X.env.kindOf x = some .globalImplicit
theorem ld_glob {E:Value→Shared→Prop} {pins:List (Addr × Obj)} {s:Shared} {σ:St} {H:Hp} {x:Str} {u:Value} {pos:Pos} {Q:Value→Shared→Prop} (I:Inv X pins σ H s) (hg:Gl X x) (hm:X.mg x = some u) (h:Q u s)
    (hd:(x == ("__debug__":Str)) = false:=by decide):wpAny (model X.prog X.w) X.A (eval (.Name x pos) X.env) Q E s :=
  Calls.Name_function_global I.ok.kind hg (Calls.loadGlobal_global (by rw [I.ok.glob]; exact I.mod.glob.keeps I.bk) hm h) hd
theorem ld_blt {E:Value→Shared→Prop} {pins:List (Addr × Obj)} {s:Shared} {σ:St} {H:Hp} {x:Str} {u:Value} {pos:Pos} {Q:Value→Shared→Prop} (I:Inv X pins σ H s) (hg:Gl X x) (hm:X.mg x = none) (hv:bootBuiltins x = some u) (h:Q u s)
    (hn:x ≠ "__name__":=by decide) (hd:(x == ("__debug__":Str)) = false:=by decide):wpAny (model X.prog X.w) X.A (eval (.Name x pos) X.env) Q E s:=by
  obtain ⟨mb,h1,h2⟩:=I.mod.blt
  exact Calls.Name_function_global I.ok.kind hg (Calls.loadGlobal_builtin (by rw [I.ok.glob]; exact I.mod.glob.keeps I.bk) hm (by rw [I.ok.blt]; exact h1.keeps I.bk) ((h2 x hn).trans hv) h) hd
theorem pe_glob {x:Str} {v:V} {u:Value} {pos:Pos} (hg:Gl X x) (hm:X.mg x = some u) (r:RelV v u) (hd:(x == ("__debug__":Str)) = false:=by decide):PE X (.Name x pos) (tC v) :=
  fun _ _ _ H _ I h=>ld_glob I hg hm ⟨v,H,I,r,h⟩ hd
theorem pe_bltn {x:Str} {v:V} {u:Value} {pos:Pos} (hg:Gl X x) (hm:X.mg x = none) (hv:bootBuiltins x = some u) (r:RelV v u) (hn:x ≠ "__name__":=by decide) (hd:(x == ("__debug__":Str)) = false:=by decide):PE X (.Name x pos) (tC v) :=
  fun _ _ _ H _ I h=>ld_blt I hg hm hv ⟨v,H,I,r,h⟩ hn hd
variable {a b:Expr} {ta tb:TE} {pos:Pos}
variable {tA tB':TT} {rest:List Expr}
def tAnd (t u:TT):TT:=fun σ H Q=>t σ H fun c H1=>if c = true then u σ H1 Q else Q false H1
def tOr (t u:TT):TT:=fun σ H Q=>t σ H fun c H1=>if c = true then Q true H1 else u σ H1 Q
def tNot (t:TT):TT:=fun σ H Q=>t σ H fun c H1=>Q (!c) H1
theorem pw_and1 (ha:PT X a tA):PW X (.BoolOp .And [a] pos) tA:=by
  intro wh pins s σ H Q I h
  refine isTrue_and (thn (ha pins s σ H Q I h) fun c s1 e=>?_)
  cases c with
  | true=>exact isTrue_and_nil e
  | false=>exact e
theorem pw_or1 (ha:PT X a tA):PW X (.BoolOp .Or [a] pos) tA:=by
  intro wh pins s σ H Q I h
  refine isTrue_or (thn (ha pins s σ H Q I h) fun c s1 e=>?_)
  cases c with
  | false=>exact isTrue_or_nil e
  | true=>exact e
theorem pw_and (ha:PT X a tA) (hb:PW X (.BoolOp .And (b :: rest) pos) tB'):PW X (.BoolOp .And (a :: b :: rest) pos) (tAnd tA tB'):=by
  intro wh pins s σ H Q I h
  refine isTrue_and (thn (ha pins s σ H _ I h) fun c s1 ⟨H1,I1,q1⟩=>?_)
  cases c with
  | true=>exact hb wh pins s1 σ H1 Q I1 q1
  | false=>exact ⟨H1,I1,q1⟩
theorem pw_or (ha:PT X a tA) (hb:PW X (.BoolOp .Or (b :: rest) pos) tB'):PW X (.BoolOp .Or (a :: b :: rest) pos) (tOr tA tB'):=by
  intro wh pins s σ H Q I h
  refine isTrue_or (thn (ha pins s σ H _ I h) fun c s1 ⟨H1,I1,q1⟩=>?_)
  cases c with
  | true=>exact ⟨H1,I1,q1⟩
  | false=>exact hb wh pins s1 σ H1 Q I1 q1
theorem pt_not (ha:PT X a tA):PT X (.UnaryOp .Not a pos) (tNot tA):=by
  intro pins s σ H Q I h
  exact isTrue_not (ha pins s σ H (fun c H1=>Q (!c) H1) I h)
def tAndV (ta tb:TE):TE:=fun σ H Q=>ta σ H fun x H1=>∃ c,x = .bl c∧if c = true then tb σ H1 Q else Q (.bl false) H1
def tNotV (ta:TE):TE:=fun σ H Q=>ta σ H fun x H1=>∃ c,x = .bl c∧Q (.bl (!c)) H1
theorem pe_one {op} {t:TE} (h:PE X a t):PE X (.BoolOp op [a] pos) t:=fun pins s σ H Q I hw=>BoolOp_one (h pins s σ H Q I hw)
theorem pe_and (ha:PE X a ta) (hb:PE X (.BoolOp .And (b :: rest) pos) tb):PE X (.BoolOp .And (a :: b :: rest) pos) (tAndV ta tb):=by
  intro pins s σ H Q I h
  refine BoolOp_and (thn (ha pins s σ H _ I h) fun v s1 ⟨x,H1,I1,r1,q1⟩=>?_)
  obtain ⟨c,rfl,q1⟩:=q1
  cases r1
  refine wpAny_truthy_bool ?_
  cases c with
  | true=>exact hb pins s1 σ H1 Q I1 q1
  | false=>exact ⟨.bl false,H1,I1,rfl,q1⟩
theorem pe_not (ha:PE X a ta):PE X (.UnaryOp .Not a pos) (tNotV ta):=by
  intro pins s σ H Q I h
  refine UnaryOp_ (thn (ha pins s σ H _ I h) fun v s1 ⟨x,H1,I1,r1,q1⟩=>?_)
  obtain ⟨c,rfl,q1⟩:=q1
  cases r1
  exact not_of (wpAny_truthy_bool ⟨.bl (!c),H1,I1,rfl,q1⟩)
def tIf (t:TT) (ta tb:TE):TE:=fun σ H Q=>t σ H fun c H1=>if c = true then ta σ H1 Q else tb σ H1 Q
theorem pe_ifExp {c:Expr} (hc:PT X c tA) (ha:PE X a ta) (hb:PE X b tb):PE X (.IfExp c a b pos) (tIf tA ta tb):=by
  intro pins s σ H Q I h
  refine wpAny_IfExp (thn (hc pins s σ H _ I h) fun d s1 ⟨H1,I1,q1⟩=>?_)
  cases d with
  | true=>exact ha pins s1 σ H1 Q I1 q1
  | false=>exact hb pins s1 σ H1 Q I1 q1
end
end L2
namespace L2
open PySem PySem.Spec PyProof.Rows
def SqL (K:PySem.W.Frag) (H:Hp) (a:Addr) (xs:List V):Prop :=
  Rd H a (.lst xs) ∨
    ∃ (o:Obj) (its:Array Value) (n:Nat),K.lookup a = some o∧o.cls = .type "list"∧o.dict = none∧o.data = .seq its n∧its.size ≤ sizeLine∧Vals xs its.toList
def SqT (K:PySem.W.Frag) (H:Hp) (a:Addr) (xs:List V):Prop :=
  Rd H a (.tup xs) ∨
    ∃ (o:Obj) (its:Array Value) (n:Nat),K.lookup a = some o∧o.cls = .type "tuple"∧o.data = .seq its n∧its.size ≤ sizeLine∧Vals xs its.toList
def absV:Value→Option V
  | .none=>some .non
  | .bool b=>some (.bl b)
  | .int i _=>some (.int i)
  | .str x _=>some (.str x)
  | .bytes b _=>some (.byt b)
  | .float b _=>some (.flt b)
  | .ref a=>some (.ref a)
  | .type n=>some (.ty n)
  | _=>none
theorem RelV.abs {x:V} {u:Value} (r:RelV x u):absV u = some x:=by
  cases x with
  | non=>cases r; rfl
  | bl _=>cases r; rfl
  | int _=>obtain ⟨t,rfl⟩:=r; rfl
  | str _=>obtain ⟨t,rfl⟩:=r; rfl
  | byt _=>obtain ⟨t,rfl⟩:=r; rfl
  | flt _=>obtain ⟨t,rfl⟩:=r; rfl
  | ref _=>cases r; rfl
  | ty _=>cases r; rfl
theorem RelV.inj {x y:V} {u:Value} (r:RelV x u) (q:RelV y u):x = y:=Option.some.inj (r.abs.symm.trans q.abs)
theorem Vals.inj:∀ {xs ys:List V} {us:List Value},Vals xs us→Vals ys us→xs = ys
  | _,_,_,.nil,.nil=>rfl
  | _,_,_,.cons r t,.cons r' t'=>by rw [r.inj r',Vals.inj t t']
section
variable {X:Cx} {pins:List (Addr × Obj)} {σ:St} {H:Hp} {s:Shared} {a:Addr} {xs ys:List V}
theorem SqL.of {K:PySem.W.Frag} (h:H a = some (.lst xs)):SqL K H a xs:=.inl (.inl h)
theorem SqT.of {K:PySem.W.Frag} (h:H a = some (.tup xs)):SqT K H a xs:=.inl (.inl h)
theorem Inv.list (I:Inv X pins σ H s) (h:SqL X.K H a xs):∃ its:List Value,Vals xs its∧PlainL s.heap a its.toArray∧xs.length ≤ sizeLine:=by
  rcases h with h | ⟨o,its,n,hk,hc,hd,hs,hz,r⟩
  · obtain ⟨z,its,n,r,e⟩:=h.ok I.hok
    exact ⟨its,r,⟨_,n,e,rfl,rfl,rfl⟩,z⟩
  · refine ⟨its.toList,r,⟨o,n,I.kIn a o hk,hc,hd,by simpa using hs⟩,?_⟩
    have e:=r.length
    simp only [Array.length_toList] at e
    omega
theorem Inv.tuple (I:Inv X pins σ H s) (h:SqT X.K H a xs):∃ its:List Value,Vals xs its∧IsTup s.heap a its.toArray∧xs.length ≤ sizeLine:=by
  rcases h with h | ⟨o,its,n,hk,hc,hs,hz,r⟩
  · obtain ⟨z,its,r,p⟩:=h.ok I.hok
    exact ⟨its,r,p,z⟩
  · refine ⟨its.toList,r,⟨o,I.kIn a o hk,hc,n,by simpa using hs⟩,?_⟩
    have e:=r.length
    simp only [Array.length_toList] at e
    omega
theorem Inv.list_inj (I:Inv X pins σ H s) (h:SqL X.K H a xs) (h':SqL X.K H a ys):xs = ys:=by
  obtain ⟨its,r,⟨o,n,e,_,_,d⟩,_⟩:=I.list h
  obtain ⟨its',r',⟨o',n',e',_,_,d'⟩,_⟩:=I.list h'
  rw [e] at e'; cases e'
  rw [d] at d'
  injection d' with d1 _
  have:its = its':=by simpa using congrArg Array.toList d1
  subst this
  exact r.inj r'
theorem Inv.tuple_inj (I:Inv X pins σ H s) (h:SqT X.K H a xs) (h':SqT X.K H a ys):xs = ys:=by
  obtain ⟨its,r,⟨o,e,_,n,d⟩,_⟩:=I.tuple h
  obtain ⟨its',r',⟨o',e',_,n',d'⟩,_⟩:=I.tuple h'
  rw [e] at e'; cases e'
  rw [d] at d'
  injection d' with d1 _
  have:its = its':=by simpa using congrArg Array.toList d1
  subst this
  exact r.inj r'
end
abbrev Cx.wish (X:Cx) (E:Value→Shared→Prop):Cx:={ X with xe:=E }
abbrev Cx.nox (X:Cx):Cx:=X.wish fun _ _=>False
theorem Cx.Ok.wish {X:Cx} (ok:X.Ok) (E:Value→Shared→Prop):(X.wish E).Ok :=
  ⟨ok.mod,ok.kind,ok.glob,ok.blt,ok.above,ok.inj,ok.has,ok.cab,ok.hd,ok.frames,ok.stk,ok.exf,ok.bs,ok.bsz,ok.noex,ok.exfs,ok.funs,ok.frf⟩
theorem Cx.Ok.unwish {X:Cx} {E:Value→Shared→Prop} (ok:(X.wish E).Ok):X.Ok :=
  ⟨ok.mod,ok.kind,ok.glob,ok.blt,ok.above,ok.inj,ok.has,ok.cab,ok.hd,ok.frames,ok.stk,ok.exf,ok.bs,ok.bsz,ok.noex,ok.exfs,ok.funs,ok.frf⟩
section
variable {X:Cx} {pins:List (Addr × Obj)} {σ:St} {H:Hp} {s:Shared} {E:Value→Shared→Prop}
theorem Inv.wish (I:Inv X pins σ H s) (E:Value→Shared→Prop):Inv (X.wish E) pins σ H s:=⟨I.ok.wish E,I.os,I.bare,I.base,I.loc,I.cell,I.free,I.freeC,I.pin,I.hok,I.len⟩
theorem Inv.unwish (I:Inv (X.wish E) pins σ H s):Inv X pins σ H s:=⟨I.ok.unwish,I.os,I.bare,I.base,I.loc,I.cell,I.free,I.freeC,I.pin,I.hok,I.len⟩
theorem SP.unwish {D:Ends} {f:Flow} {s':Shared} (h:SP (X.wish E) pins D f s'):SP X pins D f s':=by
  cases f with
  | next=>obtain ⟨σ',H',I,q⟩:=h; exact ⟨σ',H',I.unwish,q⟩
  | brk=>obtain ⟨σ',H',I,q⟩:=h; exact ⟨σ',H',I.unwish,q⟩
  | cont=>obtain ⟨σ',H',I,q⟩:=h; exact ⟨σ',H',I.unwish,q⟩
  | ret u=>obtain ⟨v,σ',H',I,r,q⟩:=h; exact ⟨v,σ',H',I.unwish,r,q⟩
theorem PSs.nox {st:List Stmt} {t:TS} (h:PSs X.nox st t):PSs X st t:=fun pins s σ H D I hw =>
  wpAny_mono (h pins s σ H D (I.wish _) hw) (fun _ _ q=>q.unwish) fun _ _ z=>False.elim z
end
section
variable {X:Cx} {st:Stmt} {rest:List Stmt} {t u:TS} {e:Expr} {te:TE} {pos:Pos}
def tNext:TS:=fun D σ H=>D.nx σ H
def tSeq (t u:TS):TS:=fun D σ H=>t { D with nx:=u D } σ H
theorem pss_nil:PSs X [] tNext:=fun _ _ σ H _ I h=>wpAny_execs_nil ⟨σ,H,I,h⟩
theorem pss_cons (h1:PS X st t) (h2:PSs X rest u):PSs X (st :: rest) (tSeq t u):=by
  intro pins s σ H D I h
  refine wpAny_execs_cons (thn (h1 pins s σ H { D with nx:=u D } I h) fun f s1 q=>?_)
  cases f with
  | next =>
    obtain ⟨σ',H',I',q⟩:=q
    exact h2 pins s1 σ' H' D I' q
  | ret v=>exact q
  | brk=>exact q
  | cont=>exact q
theorem pss_one (h1:PS X st t):PSs X [st] t:=by
  intro pins s σ H D I h
  refine wpAny_execs_cons (thn (h1 pins s σ H D I h) fun f s1 q=>?_)
  cases f with
  | next=>exact wpAny_execs_nil q
  | ret v=>exact q
  | brk=>exact q
  | cont=>exact q
theorem Inv.quiet {pins:List (Addr × Obj)} {σ:St} {H:Hp} {s:Shared} (I:Inv X pins σ H s):interactive X.env = false:=by simp [interactive,I.ok.kind]
def tDrop (te:TE):TS:=fun D σ H=>te σ H fun _ H1=>D.nx σ H1
theorem ps_expr (he:PE X e te) (hs:swapsWith e none pos.line X.env = pure false:=by rfl):PS X (.Expr e pos) (tDrop te):=by
  intro pins s σ H D I h
  exact wpAny_Expr_any (thn (he pins s σ H _ I h) fun v s1 ⟨x,H1,I1,r1,q1⟩=>⟨σ,H1,I1,q1⟩) I.quiet hs
def tRet (te:TE):TS:=fun D σ H=>te σ H D.rt
theorem ps_ret (he:PE X e te):PS X (.Return (some e) pos) (tRet te):=by
  intro pins s σ H D I h
  exact wpAny_Return_some (thn (he pins s σ H _ I h) fun v s1 ⟨x,H1,I1,r1,q1⟩=>⟨x,σ,H1,I1,r1,q1⟩)
def tRetN:TS:=fun D _ H=>D.rt .non H
theorem ps_retN:PS X (.Return none pos) tRetN:=fun _ _ σ H _ I h=>wpAny_Return_none ⟨.non,σ,H,I,rfl,h⟩
def tIfS (c:TT) (t u:TS):TS:=fun D σ H=>c σ H fun b H1=>if b = true then t D σ H1 else u D σ H1
theorem ps_if {c:Expr} {a b:List Stmt} {tc:TT} (hc:PT X c tc) (ha:PSs X a t) (hb:PSs X b u):PS X (.If c a b pos) (tIfS tc t u):=by
  intro pins s σ H D I h
  refine wpAny_If (thn (hc pins s σ H _ I h) fun d s1 ⟨H1,I1,q1⟩=>?_)
  cases d with
  | true=>exact ha pins s1 σ H1 D I1 q1
  | false=>exact hb pins s1 σ H1 D I1 q1
end
abbrev TG:=V→St→Hp→(St→Hp→Prop)→Prop
abbrev TGs:=List V→St→Hp→(St→Hp→Prop)→Prop
def PG (X:Cx) (target:Expr) (t:TG):Prop :=
  ∀ (pins:List (Addr × Obj)) (s:Shared) (σ:St) (H:Hp) (v:V) (u:Value) (Q:St→Hp→Prop),Inv X pins σ H s→RelV v u→t v σ H Q →
    wpAny (model X.prog X.w) X.A (assign target X.env u) (fun _ s'=>∃ σ' H',Inv X pins σ' H' s'∧Q σ' H') X.xe s
def PGs (X:Cx) (ts:List Expr) (t:TGs):Prop :=
  ∀ (pins:List (Addr × Obj)) (s:Shared) (σ:St) (H:Hp) (vs:List V) (us:List Value) (Q:St→Hp→Prop),Inv X pins σ H s→Vals vs us→t vs σ H Q →
    wpAny (model X.prog X.w) X.A (assignInOrder ((assignEach ts X.env).map (·.2)) us) (fun _ s'=>∃ σ' H',Inv X pins σ' H' s'∧Q σ' H') X.xe s
abbrev TSet:=V→V→V→Hp→(Hp→Prop)→Prop
def PSet (X:Cx) (t:TSet):Prop :=
  ∀ (pins:List (Addr × Obj)) (s:Shared) (σ:St) (H:Hp) (o i v:V) (ov iv u:Value) (Q:Hp→Prop),Inv X pins σ H s→RelV o ov→RelV i iv→RelV v u→t o i v H Q →
    wpAny (model X.prog X.w) X.A (setItem ov iv u) (fun _ s'=>∃ H',Inv X pins σ H' s'∧Q H') X.xe s
abbrev TIp:=V→V→Hp→VK→Prop
def PIp (X:Cx) (op:Operator) (t:TIp):Prop :=
  ∀ (pins:List (Addr × Obj)) (s:Shared) (σ:St) (H:Hp) (x y:V) (v u:Value) (Q:VK),Inv X pins σ H s→RelV x v→RelV y u→t x y H Q →
    wpAny (model X.prog X.w) X.A (inplaceOp op v u) (EP X pins σ Q) X.xe s
section
variable {X:Cx} {pos:Pos}
def gName (i:Nat):TG:=fun v σ H Q=>Q (σ.set i (some v)) H
theorem pg_name {i:Nat} {x:Str} (hN:X.N.Nodup) (hi:X.N[i]? = some x) (hx:Loc X.env.scope x) (hf:X.fn x = true∨X.env.scope.names.lookup x = some .local:=by first | exact .inl rfl | exact .inr rfl | assumption):PG X (.Name x pos) (gName i):=by
  intro pins s σ H v u Q I r h
  exact wpAny_assign_Name (store_ok I hN hi hx r (fun s' I'=>⟨_,H,I',h⟩) hf)
def gNil:TGs:=fun vs σ H Q=>vs = []∧Q σ H
def gCons (t:TG) (u:TGs):TGs:=fun vs σ H Q=>∃ v r,vs = v :: r∧t v σ H fun σ' H'=>u r σ' H' Q
theorem pgs_nil:PGs X [] gNil:=by
  intro pins s σ H vs us Q I r h
  obtain ⟨e,h⟩:=h
  subst e
  cases r
  exact assignInOrder_nil ⟨σ,H,I,h⟩
theorem pgs_cons {e:Expr} {es:List Expr} {t:TG} {u:TGs} (h1:PG X e t) (h2:PGs X es u)
    (hs:(assignEach (e :: es) X.env).map (·.2) = assign e X.env :: (assignEach es X.env).map (·.2):=by rfl):PGs X (e :: es) (gCons t u):=by
  intro pins s σ H vs us Q I r h
  obtain ⟨v,vr,e1,h⟩:=h
  subst e1
  cases r with
  | cons r rr =>
    rw [hs]
    refine assignInOrder_cons (thn (h1 pins s σ H _ _ _ I r h) fun _ s1 ⟨σ1,H1,I1,q1⟩=>?_)
    exact h2 pins s1 σ1 H1 _ _ Q I1 rr q1
def gTup (K:PySem.W.Frag) (n:Nat) (t:TGs):TG:=fun v σ H Q=>∃ a xs,v = .ref a∧SqT K H a xs∧xs.length = n∧t xs σ H Q
theorem pg_tup {es:List Expr} {k:Nat} {t:TGs} {n:Nat} (hc:X.calm = true) (h:PGs X es t)
    (hn:(assignEach es X.env).length = n:=by rfl) (hst:(assignEach es X.env).findIdx? (·.1) = none:=by rfl):PG X (.Tuple es k pos) (gTup X.K n t):=by
  intro pins s σ H v u Q I r hw
  obtain ⟨a,xs,e1,hq,hl,hw⟩:=hw
  subst e1
  cases r
  obtain ⟨its,rv,ht,hz⟩:=I.tuple hq
  refine assign_Tuple_tuple (I.ok.hd hc) ht (by simp [hn,← hl,rv.length]) hst fun h' hx=>?_
  have I1:Inv X pins σ H { s with heap:=h' }:=I.kept (t':=s.toks) fun b o e=>hx b o (Nat.ne_of_lt (Heap.lt_size e)) e
  exact h pins _ σ H xs _ Q I1 (by simpa using rv) hw
def gSub (to ti:TE) (t:TSet):TG:=fun v σ H Q=>to σ H fun o H1=>ti σ H1 fun i H2=>t o i v H2 fun H3=>Q σ H3
theorem pg_sub {o i:Expr} {to ti:TE} {t:TSet} (ho:PE X o to) (hi:PE X i ti) (hs:PSet X t)
    (ha:∀ v,assign (.Subscript o i pos) X.env v = (do
      let ov ← holding [v] (eval o X.env)
      let iv ← holding [v,ov] (eval i X.env)
      standAt pos
      holding [v,ov,iv] (setItem ov iv v)
      release [v,ov,iv] []):=by intro _; rfl):PG X (.Subscript o i pos) (gSub to ti t):=by
  intro pins s σ H v u Q I r h
  rw [ha]
  refine wpAny_bind (wpAny_holding (thn (ho pins s σ H _ I h) fun ov s1 ⟨x,H1,I1,r1,q1⟩=>?_))
  refine wpAny_bind (wpAny_holding (thn (hi pins s1 σ H1 _ I1 q1) fun iv s2 ⟨y,H2,I2,r2,q2⟩=>?_))
  refine wpAny_bind (wpAny_standAt (wpAny_bind (wpAny_holding (thn (hs pins s2 σ H2 x y v ov iv u _ I2 r1 r2 r q2) fun _ s3 ⟨H3,I3,q3⟩=>?_))))
  exact wpAny_release ⟨σ,H3,I3,q3⟩
def tAsg (te:TE) (g:TG):TS:=fun D σ H=>te σ H fun x H1=>g x σ H1 D.nx
theorem ps_asg {tg e:Expr} {te:TE} {g:TG} (he:PE X e te) (hg:PG X tg g) (hs:swapsWithSole [tg] e pos.line X.env = pure false:=by rfl) (hw:swappedStores [tg] e X.env = pure none:=by rfl)
    (h1:(assignEach [tg] X.env).map (·.2) = [assign tg X.env]:=by rfl):PS X (.Assign [tg] e pos) (tAsg te g):=by
  intro pins s σ H D I h
  refine wpAny_Assign_stores (thn (he pins s σ H _ I h) fun v s1 ⟨x,H1,I1,r1,q1⟩=>?_) hs hw
  rw [h1]
  exact thn (hg pins s1 σ H1 x v _ I1 r1 q1) fun _ s2 q=>q
theorem ps_set {i:Nat} {x:Str} {e:Expr} {te:TE} {pos':Pos} (hN:X.N.Nodup) (hi:X.N[i]? = some x) (hx:Loc X.env.scope x) (he:PE X e te) (hs:swapsWith e (some (.Name x pos')) pos.line X.env = pure false:=by rfl) (hf:X.fn x = true∨X.env.scope.names.lookup x = some .local:=by first | exact .inl rfl | exact .inr rfl | assumption) :
    PS X (.Assign [.Name x pos'] e pos) (tAsg te (gName i)):=by
  intro pins s σ H D I h
  refine wpAny_Assign_Name (thn (he pins s σ H _ I h) fun v s1 ⟨y,H1,I1,r1,q1⟩=>?_) hs
  exact store_ok I1 hN hi hx r1 (fun s2 I2=>⟨_,H1,I2,q1⟩) hf
def tAug (i:Nat) (te:TE) (ti:TIp):TS:=fun D σ H=>∃ x,σ[i]? = some (some x)∧te σ H fun y H1=>ti x y H1 fun z H2=>D.nx (σ.set i (some z)) H2
theorem ps_aug {i:Nat} {x:Str} {e:Expr} {te:TE} {op:Operator} {ti:TIp} {pos':Pos} (hN:X.N.Nodup) (hi:X.N[i]? = some x) (hx:Loc X.env.scope x) (he:PE X e te) (ho:PIp X op ti) (hf:X.fn x = true∨X.env.scope.names.lookup x = some .local:=by first | exact .inl rfl | exact .inr rfl | assumption) :
    PS X (.AugAssign (.Name x pos') op e pos) (tAug i te ti):=by
  intro pins s σ H D I h
  obtain ⟨v,e1,h⟩:=h
  obtain ⟨m,hn,hl⟩:=I.loc
  have vis:Vis X.env.scope x:=by rcases hx with k | k; exact .inl k; exact .inr (.inl k)
  obtain ⟨u,r,l⟩:=hl i x v hi e1 vis
  refine wpAny_AugAssign_Name ?_
  have go:wpAny (model X.prog X.w) X.A (eval e X.env) (fun w s₂=>wpAny (model X.prog X.w) X.A (inplaceOp op u w) (fun r s₃=>wpAny (model X.prog X.w) X.A (storeName X.env x r) (fun _=>SP X pins D .next) X.xe s₃) X.xe s₂) X.xe s:=by
    refine thn (he pins s σ H _ I h) fun w s1 ⟨y,H1,I1,r1,q1⟩=>?_
    refine thn (ho pins s1 σ H1 v y u w _ I1 r r1 q1) fun z s2 ⟨zv,H2,I2,r2,q2⟩=>?_
    exact store_ok I2 hN hi hx r2 (fun s3 I3=>⟨_,H2,I3,q2⟩) hf
  rcases l with ⟨hk,hm⟩ | ⟨hk,c,hc,hcell⟩
  · exact wpAny_loadName_local I.ok.kind hk hn hm go
  · rcases hk with hk | hk
    · exact wpAny_loadName_cell I.ok.kind hk hc hcell go
    · rcases hx with k | k
      · have:X.env.scope.names.lookup x = some .free:=hk
        rw [k] at this; cases this
      · have:X.env.scope.names.lookup x = some .free:=hk
        rw [k] at this; cases this
def tAugS (to ti te:TE) (tget:V→V→Hp→VK→Prop) (tip:TIp) (tset:TSet):TS:=fun D σ H=>to σ H fun o H1=>ti σ H1 fun i H2=>tget o i H2 fun x H3=>te σ H3 fun y H4=>tip x y H4 fun z H5=>tset o i z H5 fun H6=>D.nx σ H6
def PGet (X:Cx) (t:V→V→Hp→VK→Prop):Prop :=
  ∀ (pins:List (Addr × Obj)) (s:Shared) (σ:St) (H:Hp) (o i:V) (ov iv:Value) (Q:VK),Inv X pins σ H s→RelV o ov→RelV i iv→t o i H Q →
    wpAny (model X.prog X.w) X.A (getItem ov iv) (EP X pins σ Q) X.xe s
theorem ps_augS {o i e:Expr} {to ti te:TE} {tget:V→V→Hp→VK→Prop} {tip:TIp} {tset:TSet} {op:Operator} {tpos:Pos} (ho:PE X o to) (hi:PE X i ti) (hg:PGet X tget) (he:PE X e te) (hp:PIp X op tip) (hs:PSet X tset)
    (ha:∀ ov iv new,augStore i ov iv new = (do holding [new,ov,iv] (setItem ov iv new); release [new,ov,iv] []; pure .next):=by intros; rfl):PS X (.AugAssign (.Subscript o i tpos) op e pos) (tAugS to ti te tget tip tset):=by
  intro pins s σ H D I h
  refine wpAny_AugAssign_SubscriptAny (thn (ho pins s σ H _ I h) fun ov s1 ⟨x1,H1,I1,r1,q1⟩=>?_) ha
  refine thn (hi pins s1 σ H1 _ I1 q1) fun iv s2 ⟨x2,H2,I2,r2,q2⟩=>?_
  refine thn (hg pins s2 σ H2 x1 x2 ov iv _ I2 r1 r2 q2) fun old s3 ⟨x3,H3,I3,r3,q3⟩=>?_
  refine thn (he pins s3 σ H3 _ I3 q3) fun v s4 ⟨x4,H4,I4,r4,q4⟩=>?_
  refine thn (hp pins s4 σ H4 x3 x4 old v _ I4 r3 r4 q4) fun new s5 ⟨x5,H5,I5,r5,q5⟩=>?_
  exact thn (hs pins s5 σ H5 x1 x2 x5 ov iv new _ I5 r1 r2 r5 q5) fun _ s6 ⟨H6,I6,q6⟩=>⟨σ,H6,I6,q6⟩
def ipI (f:Int→Int→Int):TIp:=fun x y H Q=>∃ i j,x = .int i∧y = .int j∧Q (.int (f i j)) H
theorem ip_add:PIp X .Add (ipI fun i j=>i + j):=by
  intro pins s σ H x y v u Q I r1 r2 h
  obtain ⟨i,j,e1,e2,q⟩:=h
  subst e1; subst e2
  obtain ⟨t,rfl⟩:=r1
  obtain ⟨t',rfl⟩:=r2
  exact iadd_int ⟨.int _,H,I.tok _,⟨_,rfl⟩,q⟩
end
section
variable {X:Cx} {pos:Pos}
def tWhile (c:TT) (tb:TS):TS:=fun D σ H=>∃ W:Nat→St→Hp→Prop,(∃ m,W m σ H)∧∀ m σ H,W m σ H →
  c σ H fun b H1=>if b = true then ∃ N:St→Hp→Prop,(∀ σ' H',N σ' H'→∃ m',m' < m∧W m' σ' H')∧tb { D with nx:=N,ct:=N,bk:=D.nx } σ H1 else D.nx σ H1
theorem ps_while {c:Expr} {body:List Stmt} {tc:TT} {tb:TS} (hp:PassesOwn (model X.prog X.w) X.A X.env X.xe) (hc:PT X c tc) (hb:PSs X body tb):PS X (.While c body [] pos) (tWhile tc tb):=by
  intro pins s σ H D I h
  obtain ⟨W,⟨m0,w0⟩,turn⟩:=h
  refine wpAny_While (codeAny_whileLoop (fun n s'=>∃ σ' H',Inv X pins σ' H' s'∧W n σ' H') ?_ m0 ⟨σ,H,I,w0⟩)
  rintro n s1 ⟨σ1,H1,I1,w1⟩
  refine wpAny_passesOwn hp (thn (hc pins s1 σ1 H1 _ I1 (turn n σ1 H1 w1)) fun b s2 ⟨H2,I2,q2⟩=>?_)
  cases b with
  | true =>
    obtain ⟨N,hN,q2⟩:=q2
    rw [if_pos rfl]
    refine wpAny_passesOwn hp (thn (hb pins s2 σ1 H2 _ I2 q2) fun f s3 q3=>?_)
    cases f with
    | next =>
      obtain ⟨σ3,H3,I3,n3⟩:=q3
      obtain ⟨m',hm,w3⟩:=hN σ3 H3 n3
      exact ⟨m',hm,σ3,H3,I3,w3⟩
    | cont =>
      obtain ⟨σ3,H3,I3,n3⟩:=q3
      obtain ⟨m',hm,w3⟩:=hN σ3 H3 n3
      exact ⟨m',hm,σ3,H3,I3,w3⟩
    | brk=>exact q3
    | ret v=>exact q3
  | false =>
    rw [if_neg Bool.false_ne_true]
    exact wpAny_execs_nil ⟨σ1,H2,I2,q2⟩
end
structure It where
  go:Nat→Hp→Prop
  yld:Nat→Hp→V→Hp→Prop
  stop:Nat→Hp→Prop
def FpOk (X:Cx) (pins:List (Addr × Obj)) (H:Hp) (b:Addr):Prop :=
  H b = none∧b ≠ X.env.locals∧b ∉ X.fs∧(b ∈ X.ex∨X.s₀.heap.objs.size ≤ b)∧(∀ x c,X.env.cells.lookup x = some c→c ≠ b)∧∀ p ∈ X.pn ++ pins,p.1 ≠ b
theorem Inv.fpOk {X:Cx} {pins:List (Addr × Obj)} {σ:St} {H H':Hp} {s:Shared} {b:Addr} (I:Inv X pins σ H s) (hb:s.heap.objs.size ≤ b) (hn:H' b = none):FpOk X pins H' b:=by
  refine ⟨hn,Nat.ne_of_gt (Nat.lt_of_lt_of_le I.lt hb),I.nofs hb,.inr (Nat.le_trans I.sz hb),fun x c e z=>?_,fun p hp z=>?_⟩
  · obtain ⟨v,q⟩:=I.cell x c e
    exact absurd (Nat.lt_of_lt_of_le q.lt (by rw [z]; exact hb)) (Nat.lt_irrefl _)
  · exact absurd (Nat.lt_of_lt_of_le (Heap.lt_size (I.pin p hp).1) (by rw [z]; exact hb)) (Nat.lt_irrefl _)
structure Turn (P:Program) (w:World) (K:PySem.W.Frag) (tg:Expr) (J:It) (fp:List Addr) (it:Addr) (tn:Nat→Heap→Prop):Prop where
  mem:it ∈ fp
  obj:∀ i h,tn i h→∀ b ∈ fp,∃ o,h.get? b = some o∧∀ v,o.data ≠ .cell v
  keep:∀ i h h',tn i h→(∀ b ∈ fp,∀ o,h.get? b = some o→h'.get? b = some o)→tn i h'
  item:∀ (X:Cx),X.prog = P→X.w = w→X.K = K→X.calm = true→∀ (i:Nat) (pins:List (Addr × Obj)) (s:Shared) (σ:St) (H:Hp) (E:Value→Shared→Prop),Inv X pins σ H s→(∀ b ∈ fp,FpOk X pins H b)→tn i s.heap→J.go i H →
    wpAny (model P w) X.A (pyNext (.ref it)) (fun r s1=>∃ u,r = some u ∧
      wpAny (model P w) X.A (letOwnedTupleGo tg (.ref it) u) (fun _ s2=>∃ x H',Inv X pins σ H' s2∧RelV x u∧J.yld i H x H'∧tn (i + 1) s2.heap∧∀ b ∈ fp,H' b = none) E s1) E s
  done:∀ (X:Cx),X.prog = P→X.w = w→X.K = K→X.calm = true→∀ (i:Nat) (pins:List (Addr × Obj)) (s:Shared) (σ:St) (H:Hp) (E:Value→Shared→Prop),Inv X pins σ H s→(∀ b ∈ fp,FpOk X pins H b)→tn i s.heap→J.stop i H →
    wpAny (model P w) X.A (pyNext (.ref it)) (fun r s1=>r = none∧Inv X pins σ H s1) E s
  self:∀ (A:Around) (i:Nat) (s:Shared) (Q:Value→Shared→Prop) (E:Value→Shared→Prop),tn i s.heap→Q (.ref it) s→wpAny (model P w) A (pyIter (.ref it)) Q E s
abbrev TI:=St→Hp→(It→Hp→Prop)→Prop
def PIE (X:Cx) (pins:List (Addr × Obj)) (σ:St) (tg:Expr) (R:It→Hp→Prop) (itv:Value) (s2:Shared):Prop :=
  ∃ (it:Addr) (fp:List Addr) (tn:Nat→Heap→Prop) (J:It) (H':Hp),itv = .ref it∧Inv X pins σ H' s2∧Turn X.prog X.w X.K tg J fp it tn∧tn 0 s2.heap∧(∀ b ∈ fp,FpOk X pins H' b)∧R J H'
def PI (X:Cx) (tg iter:Expr) (wi:TI):Prop :=
  ∀ (pins:List (Addr × Obj)) (s:Shared) (σ:St) (H:Hp) (R:It→Hp→Prop),Inv X pins σ H s→wi σ H R →
    wpAny (model X.prog X.w) X.A (eval iter X.env) (fun v s1=>wpAny (model X.prog X.w) X.A (pyIter v) (PIE X pins σ tg R) X.xe s1) X.xe s
theorem go_of {M:Model} {A:Around} {E:Value→Shared→Prop} {s:Shared} {tg:Expr} {it:Addr} {u:Value} {o:Obj} {n:String} {vs:Array Value} {Q:Unit→Shared→Prop} (ho:s.heap.get? it = some o) (hc:o.cls = .type n) (hd:o.data = .fields vs)
    (hn:["enumerate","zip","dict_itemiterator","dict_reverseitemiterator","odict_iterator","itertools.zip_longest","itertools.pairwise"].contains n = false) (hQ:Q () s):wpAny M A (letOwnedTupleGo tg (.ref it) u) Q E s:=by
  unfold letOwnedTupleGo
  cases tg <;> first
    | exact wpAny_pure hQ
    | (cases u <;> first
        | exact wpAny_pure hQ
        | (refine wpAny_bind (wpAny_load ho ?_)
           rw [hc,hd]
           show wpAny M A (if (["enumerate","zip","dict_itemiterator","dict_reverseitemiterator","odict_iterator","itertools.zip_longest","itertools.pairwise"].contains n && vs[0]? == some (rawInt _)) = true then _ else _) Q E s
           rw [if_neg (by intro h; rw [hn,Bool.false_and] at h; cases h)]
           exact wpAny_pure hQ))
def Itl (K:PySem.W.Frag) (a:Addr):It :=
  ⟨fun i H=>∃ xs x,SqL K H a xs∧xs[i]? = some x,fun i H x H'=>H' = H∧∀ xs,SqL K H a xs→xs[i]? = some x,fun i H=>∃ xs,SqL K H a xs∧xs.length ≤ i⟩
def Itt (K:PySem.W.Frag) (a:Addr):It :=
  ⟨fun i H=>∃ xs x,SqT K H a xs∧xs[i]? = some x,fun i H x H'=>H' = H∧∀ xs,SqT K H a xs→xs[i]? = some x,fun i H=>∃ xs,SqT K H a xs∧xs.length ≤ i⟩
def Itr (lo:Int) (n:Nat):It:=⟨fun i _=>i < n,fun i H x H'=>H' = H∧x = .int (lo + i),fun i _=>n ≤ i⟩
theorem turn_list {P:Program} {w:World} {K:PySem.W.Frag} {tg:Expr} (a it:Addr):Turn P w K tg (Itl K a) [it] it (fun i h=>h.IsListIter it a i) where
  mem:=by simp
  obj:=fun i h st b hb=>by
    have e:b = it:=by simpa using hb
    subst e
    obtain ⟨o,e,c,d⟩:=st
    exact ⟨o,e,fun v z=>by rw [d] at z; cases z⟩
  keep:=fun i h h' st k=>st.at fun o e=>k it (by simp) o e
  item:=by
    intro X hP hw hK hc i pins s σ H E I hf st hg
    subst hP hw hK
    obtain ⟨xs,x,hq,hx⟩:=hg
    obtain ⟨its,rv,p,hz⟩:=I.list hq
    obtain ⟨u,hu,ru⟩:=rv.get hx
    obtain ⟨f0,f1,f2,f3,f4,f5⟩:=hf it (by simp)
    refine wpAny_pyNext_list_item st p.isList (x:=u) (by simpa using hu) fun h' st' sb=>?_
    have I1:Inv X pins σ H { s with heap:=h' }:=I.turned (t':=s.toks) (fun b o hb e=>(sb.2 b hb).trans e) f0 f1 f3 f4 f5
    obtain ⟨o,e,c,d⟩:=id st'
    exact ⟨u,rfl,go_of (s:={ s with heap:=h' }) e c d (by decide) ⟨x,H,I1,ru,⟨rfl,fun ys hy=>by rw [I.list_inj hy hq]; exact hx⟩,st',fun b hb=>(hf b hb).1⟩⟩
  done:=by
    intro X hP hw hK hc i pins s σ H E I hf st hg
    subst hP hw hK
    obtain ⟨xs,hq,hx⟩:=hg
    obtain ⟨its,rv,p,hz⟩:=I.list hq
    obtain ⟨f0,f1,f2,f3,f4,f5⟩:=hf it (by simp)
    have hl:=rv.length
    exact wpAny_pyNext_list_end (I.ok.hd hc) st p.isList (by simp; omega) fun h' eb=>⟨rfl,I.turned (t':=s.toks) (fun b o hb e=>eb b o hb e) f0 f1 f3 f4 f5⟩
  self:=fun _ _ _ _ _ st h=>wpAny_pyIter_listiter st h
theorem turn_tuple {P:Program} {w:World} {K:PySem.W.Frag} {tg:Expr} (a it:Addr):Turn P w K tg (Itt K a) [it] it (fun i h=>h.IsTupleIter it a i) where
  mem:=by simp
  obj:=fun i h st b hb=>by
    have e:b = it:=by simpa using hb
    subst e
    obtain ⟨o,e,c,d⟩:=st
    exact ⟨o,e,fun v z=>by rw [d] at z; cases z⟩
  keep:=fun i h h' st k=>st.at fun o e=>k it (by simp) o e
  item:=by
    intro X hP hw hK hc i pins s σ H E I hf st hg
    subst hP hw hK
    obtain ⟨xs,x,hq,hx⟩:=hg
    obtain ⟨its,rv,p,hz⟩:=I.tuple hq
    obtain ⟨u,hu,ru⟩:=rv.get hx
    obtain ⟨f0,f1,f2,f3,f4,f5⟩:=hf it (by simp)
    refine wpAny_pyNext_tuple_item st (show s.heap.IsTuple a its.toArray from p) (x:=u) (by simpa using hu) fun h' st' sb=>?_
    have I1:Inv X pins σ H { s with heap:=h' }:=I.turned (t':=s.toks) (fun b o hb e=>(sb.2 b hb).trans e) f0 f1 f3 f4 f5
    obtain ⟨o,e,c,d⟩:=id st'
    exact ⟨u,rfl,go_of (s:={ s with heap:=h' }) e c d (by decide) ⟨x,H,I1,ru,⟨rfl,fun ys hy=>by rw [I.tuple_inj hy hq]; exact hx⟩,st',fun b hb=>(hf b hb).1⟩⟩
  done:=by
    intro X hP hw hK hc i pins s σ H E I hf st hg
    subst hP hw hK
    obtain ⟨xs,hq,hx⟩:=hg
    obtain ⟨its,rv,p,hz⟩:=I.tuple hq
    obtain ⟨f0,f1,f2,f3,f4,f5⟩:=hf it (by simp)
    have hl:=rv.length
    exact wpAny_pyNext_tuple_end (I.ok.hd hc) st (show s.heap.IsTuple a its.toArray from p) (by simp; omega) fun h' eb=>⟨rfl,I.turned (t':=s.toks) (fun b o hb e=>eb b o hb e) f0 f1 f3 f4 f5⟩
  self:=fun _ _ _ _ _ st h=>wpAny_pyIter_tupleiter st h
theorem turn_range {P:Program} {w:World} {K:PySem.W.Frag} {tg:Expr} (it:Addr) (lo:Int) (n:Nat):Turn P w K tg (Itr lo n) [it] it (fun i h=>IsRangeIter h it (lo + (i:Nat) * 1) ((n:Int) - (i:Nat)) 1) where
  mem:=by simp
  obj:=fun i h st b hb=>by
    have e:b = it:=by simpa using hb
    subst e
    exact ⟨_,st,fun v z=>by
      have z':Data.fields _ = Data.cell v:=z
      cases z'⟩
  keep:=fun i h h' st k=>k it (by simp) _ st
  item:=by
    intro X hP hw hK hc i pins s σ H E I hf st hg
    subst hP hw hK
    obtain ⟨f0,f1,f2,f3,f4,f5⟩:=hf it (by simp)
    have W:=Walks.range (prog:=X.prog) (w:=X.w) (I.ok.hd hc) it lo 1 n
    refine W.item i s _ _ hg st fun v h' tk hv st' kk=>?_
    obtain ⟨t,rfl⟩:=hv
    have I1:Inv X pins σ H { s with heap:=h',toks:=tk }:=I.turned (fun b o hb e=>kk b o (by simpa using hb) e) f0 f1 f3 f4 f5
    refine ⟨_,rfl,go_of (s:={ s with heap:=h',toks:=tk }) (n:="range_iterator") st' rfl rfl (by decide) ⟨.int (lo + i),H,I1,⟨t,?_⟩,⟨rfl,rfl⟩,st',fun b hb=>(hf b hb).1⟩⟩
    rw [Int.mul_one]
  done:=by
    intro X hP hw hK hc i pins s σ H E I hf st hg
    subst hP hw hK
    obtain ⟨f0,f1,f2,f3,f4,f5⟩:=hf it (by simp)
    exact wpAny_pyNext_range_end (I.ok.hd hc) st (by have:n ≤ i:=hg; omega) fun h' eb=>⟨rfl,I.turned (t':=s.toks) (fun b o hb e=>eb b o hb e) f0 f1 f3 f4 f5⟩
  self:=fun _ _ _ _ _ st h=>wpAny_pyIter_rangeiter st h
end L2
namespace L2
open PySem PySem.Spec PyProof.Rows
section
variable {X:Cx} {tg:Expr}
def iList (K:PySem.W.Frag) (tl:TE):TI:=fun σ H R=>tl σ H fun x H1=>∃ a,x = .ref a∧(∃ xs,SqL K H1 a xs)∧R (Itl K a) H1
def iTup (K:PySem.W.Frag) (tl:TE):TI:=fun σ H R=>tl σ H fun x H1=>∃ a,x = .ref a∧(∃ xs,SqT K H1 a xs)∧R (Itt K a) H1
theorem pi_list {l:Expr} {tl:TE} (hl:PE X l tl):PI X tg l (iList X.K tl):=by
  intro pins s σ H R I h
  refine thn (hl pins s σ H _ I h) fun v s1 ⟨x,H1,I1,r1,q1⟩=>?_
  obtain ⟨a,e,⟨xs,hq⟩,q⟩:=q1
  subst e
  cases r1
  obtain ⟨its,rv,p,hz⟩:=I1.list hq
  refine wpAny_pyIter_list p.isList ?_
  refine ⟨s1.heap.objs.size,[s1.heap.objs.size],_,_,H1,rfl,I1.kept (t':=s1.toks) fun b o e=>Heap.get?_push_of_some _ e,turn_list a _,⟨_,Heap.get?_push_size _ rfl,rfl,rfl⟩,fun b hb=>?_,q⟩
  have e:b = s1.heap.objs.size:=by simpa using hb
  subst e
  exact I1.fpOk (Nat.le_refl _) (I1.hok.fresh (Nat.le_refl _))
theorem pi_tup {l:Expr} {tl:TE} (hl:PE X l tl):PI X tg l (iTup X.K tl):=by
  intro pins s σ H R I h
  refine thn (hl pins s σ H _ I h) fun v s1 ⟨x,H1,I1,r1,q1⟩=>?_
  obtain ⟨a,e,⟨xs,hq⟩,q⟩:=q1
  subst e
  cases r1
  obtain ⟨its,rv,p,hz⟩:=I1.tuple hq
  refine wpAny_pyIter_tuple (show s1.heap.IsTuple a its.toArray from p) ?_
  refine ⟨s1.heap.objs.size,[s1.heap.objs.size],_,_,H1,rfl,I1.kept (t':=s1.toks) fun b o e=>Heap.get?_push_of_some _ e,turn_tuple a _,⟨_,Heap.get?_push_size _ rfl,rfl,rfl⟩,fun b hb=>?_,q⟩
  have e:b = s1.heap.objs.size:=by simpa using hb
  subst e
  exact I1.fpOk (Nat.le_refl _) (I1.hok.fresh (Nat.le_refl _))
theorem range_it {pins:List (Addr × Obj)} {σ:St} {H:Hp} {s:Shared} {R:It→Hp→Prop} {E:Value→Shared→Prop} {lo hi:Int} {t u v:Tok} {tk:Nat} (I:Inv X pins σ H s) (h1:-(2 ^ 62) ≤ lo) (h2:lo < 2 ^ 62) (h3:-(2 ^ 62) ≤ hi) (h4:hi < 2 ^ 62)
    (q:R (Itr lo (hi - lo).toNat) H):wpAny (model X.prog X.w) X.A (pyIter (.ref s.heap.objs.size)) (PIE X pins σ tg R) E { s with heap:=s.heap.push { cls:=.type "range",data:=.fields #[.int lo t,.int hi u,.int 1 v] },toks:=tk }:=by
  refine wpAny_pyIter_range (IsRange.new ..) (small_one h1 h2 h3 h4) ?_
  have I1:Inv X pins σ H { s with heap:=s.heap.push { cls:=.type "range",data:=.fields #[.int lo t,.int hi u,.int 1 v] },toks:=tk }:=I.kept fun b o e=>Heap.get?_push_of_some _ e
  refine ⟨(s.heap.push { cls:=.type "range",data:=.fields #[.int lo t,.int hi u,.int 1 v] }).objs.size,[(s.heap.push { cls:=.type "range",data:=.fields #[.int lo t,.int hi u,.int 1 v] }).objs.size],_,_,H,rfl,
    I1.kept (t':=tk) fun b o e=>Heap.get?_push_of_some _ e,turn_range _ lo (hi - lo).toNat,?_,fun b hb=>?_,q⟩
  · have e1:lo + ((0:Nat):Int) * 1 = lo:=by simp
    have e2:(((hi - lo).toNat:Nat):Int) - ((0:Nat):Int) = Builtin.Range.rangeSize lo hi 1:=by rw [rangeSize_one]; split <;> omega
    show IsRangeIter _ _ (lo + ((0:Nat):Int) * 1) ((((hi - lo).toNat:Nat):Int) - ((0:Nat):Int)) 1
    rw [e1,e2]
    exact Heap.get?_push_size _ rfl
  · have e:b = (s.heap.push { cls:=.type "range",data:=.fields #[.int lo t,.int hi u,.int 1 v] }).objs.size:=by simpa using hb
    subst e
    exact I1.fpOk (Nat.le_refl _) (I1.hok.fresh (Nat.le_refl _))
def iRng1 (ta:TA):TI:=fun σ H R=>ta σ H fun vs H1=>∃ j:Int,vs = [.int j]∧-(2 ^ 62) ≤ j∧j < 2 ^ 62∧R (Itr 0 j.toNat) H1
theorem pi_range1 {a:Expr} {ta:TA} {p pos:Pos} (hg:Gl X "range") (hm:X.mg "range" = none) (ha:PA X [a] ta) (hs:starEach [a] X.env = [(false,eval a X.env)]:=by rfl):PI X tg (.Call (.Name "range" p) [a] [] pos) (iRng1 ta):=by
  intro pins s σ H R I h
  refine Call_ (ld_blt I hg hm boot_range (PyProof.Rows.callWith_type1 (thn (ha pos pins s σ H _ I h) fun us s1 ⟨vs,H1,I1,r1,q1⟩=>?_) hs rfl))
  obtain ⟨j,e,q1,q2,q⟩:=q1
  subst e
  cases r1 with
  | cons r rr =>
    cases rr
    obtain ⟨t,rfl⟩:=r
    exact call_range_1 (range_it I1 (by omega) (by omega) q1 q2 (by simpa using q))
def tFor (wi:TI) (g:TG) (tb:TS):TS:=fun D σ H=>wi σ H fun J H1=>∃ W:Nat→Nat→St→Hp→Prop,(∃ m,W 0 m σ H1)∧∀ i m σ H,W i m σ H →
  (J.stop i H∧D.nx σ H)∨(J.go i H∧∃ N:St→Hp→Prop,(∀ σ' H',N σ' H'→∃ m',m' < m∧W (i + 1) m' σ' H')∧∀ x H',J.yld i H x H'→g x σ H' fun σ2 H2=>tb { D with nx:=N,ct:=N,bk:=D.nx } σ2 H2)
def pinsAt (fp:List Addr) (h:Heap):List (Addr × Obj):=fp.filterMap fun b=>(h.get? b).map fun o=>(b,o)
theorem mem_pinsAt {fp:List Addr} {h:Heap} {b:Addr} {o:Obj} (hb:b ∈ fp) (e:h.get? b = some o):(b,o) ∈ pinsAt fp h:=List.mem_filterMap.mpr ⟨b,hb,by rw [e]; rfl⟩
theorem of_pinsAt {fp:List Addr} {h:Heap} {p:Addr × Obj} (hp:p ∈ pinsAt fp h):p.1 ∈ fp∧h.get? p.1 = some p.2:=by
  obtain ⟨b,hb,e⟩:=List.mem_filterMap.mp hp
  cases q:h.get? b with
  | none=>rw [q] at e; cases e
  | some o =>
    rw [q] at e
    have e':(b,o) = p:=Option.some.inj e
    subst e'
    exact ⟨hb,q⟩
theorem Inv.pinned {pins:List (Addr × Obj)} {σ:St} {H:Hp} {s:Shared} {fp:List Addr} (I:Inv X pins σ H s) (hf:∀ b ∈ fp,FpOk X pins H b) (ho:∀ b ∈ fp,∃ o,s.heap.get? b = some o∧∀ v,o.data ≠ .cell v):Inv X (pins ++ pinsAt fp s.heap) σ H s :=
  I.pins_of fun p hp=>(List.mem_append.mp hp).elim (fun z=>I.pin p (List.mem_append_right _ z)) fun z=>by
    obtain ⟨hb,e⟩:=of_pinsAt z
    obtain ⟨f0,f1,f2,_⟩:=hf p.1 hb
    obtain ⟨o,e',d⟩:=ho p.1 hb
    rw [e] at e'; cases e'
    exact ⟨e,f0,f1,f2,d⟩
theorem Inv.unpinned {pins pl:List (Addr × Obj)} {σ:St} {H:Hp} {s:Shared} (I:Inv X (pins ++ pl) σ H s):Inv X pins σ H s:=I.pins_of fun p hp=>I.pin p (List.mem_append_right _ (List.mem_append_left _ hp))
theorem ps_for {iter:Expr} {body:List Stmt} {wi:TI} {g:TG} {tb:TS} {pos:Pos} (hp:PassesOwn (model X.prog X.w) X.A X.env X.xe) (hc:X.calm = true) (hi:PI X tg iter wi) (hg:PG X tg g) (hb:PSs X body tb)
    (hs:∀ x,foldedSetIterable iter X.env x = pure x:=by intro _; rfl):PS X (.For tg iter body [] pos) (tFor wi g tb):=by
  intro pins s σ H D I h
  refine wpAny_For (thn (hi pins s σ H _ I h) fun v s1 h1=>thn h1 fun itv s2 h2=>?_) hs
  obtain ⟨it,fp,tn,J,H2,e,I2,T,st2,f2,W,⟨m0,w0⟩,turn⟩:=h2
  subst e
  have stat:∀ {H':Hp},(∀ b ∈ fp,H' b = none)→∀ b ∈ fp,FpOk X pins H' b:=fun hn b hb=>⟨hn b hb,(f2 b hb).2⟩
  refine codeAny_forLoop_any (fun n s'=>∃ i σ' H',Inv X pins σ' H' s'∧tn i s'.heap∧(∀ b ∈ fp,H' b = none)∧W i n σ' H') ?_ m0 ⟨0,σ,H2,I2,st2,fun b hb=>(f2 b hb).1,w0⟩
  rintro n s3 ⟨i,σ3,H3,I3,st3,fr3,w3⟩
  rcases turn i n σ3 H3 w3 with ⟨stop,qn⟩ | ⟨go,N,hN,step⟩
  · refine wpAny_passesOwn hp (thn (T.done X rfl rfl rfl hc i pins s3 σ3 H3 X.xe I3 (stat fr3) st3 stop) fun r s4 ⟨hr,I4⟩=>?_)
    subst hr
    exact wpAny_execs_nil ⟨σ3,H3,I4,qn⟩
  · refine wpAny_passesOwn hp (thn (T.item X rfl rfl rfl hc i pins s3 σ3 H3 X.xe I3 (stat fr3) st3 go) fun r s4 ⟨u,hr,h4⟩=>?_)
    subst hr
    refine wpAny_passesOwn hp (thn h4 fun _ s5 ⟨x,H5,I5,r5,y5,st5,fr5⟩=>?_)
    have I5':=I5.pinned (stat fr5) (T.obj _ _ st5)
    refine wpAny_passesOwn hp (thn (hg _ s5 σ3 H5 x u _ I5' r5 (step x H5 y5)) fun _ s6 ⟨σ6,H6,I6,q6⟩=>?_)
    refine wpAny_passesOwn hp (thn (hb _ s6 σ6 H6 _ I6 q6) fun f s7 q7=>?_)
    have again:∀ {σ7:St} {H7:Hp},Inv X (pins ++ pinsAt fp s5.heap) σ7 H7 s7→N σ7 H7→∃ m,m < n∧∃ i σ' H',Inv X pins σ' H' s7∧tn i s7.heap∧(∀ b ∈ fp,H' b = none)∧W i m σ' H':=fun {σ7 H7} I7 n7=>by
      obtain ⟨m',hm,w7⟩:=hN σ7 H7 n7
      refine ⟨m',hm,i + 1,σ7,H7,I7.unpinned,T.keep _ _ _ st5 fun b hb o e=>(I7.pin (b,o) (List.mem_append_right _ (List.mem_append_right _ (mem_pinsAt hb e)))).1,fun b hb=>?_,w7⟩
      obtain ⟨o,e,d⟩:=T.obj _ _ st5 b hb
      exact (I7.pin (b,o) (List.mem_append_right _ (List.mem_append_right _ (mem_pinsAt hb e)))).2.1
    cases f with
    | next=>obtain ⟨σ7,H7,I7,n7⟩:=q7; exact again I7 n7
    | cont=>obtain ⟨σ7,H7,I7,n7⟩:=q7; exact again I7 n7
    | brk=>obtain ⟨σ7,H7,I7,q7⟩:=q7; exact ⟨σ7,H7,I7.unpinned,q7⟩
    | ret v=>obtain ⟨x7,σ7,H7,I7,r7,q7⟩:=q7; exact ⟨x7,σ7,H7,I7.unpinned,r7,q7⟩
end
theorem for_tup {K:PySem.W.Frag} {a:Addr} {xs:List V} {g:TG} {tb:TS} {D:Ends} {σ:St} {H:Hp} (Pv:Nat→St→Hp→Prop) (h0:Pv 0 σ H) (hl:∀ i σ H,i ≤ xs.length→Pv i σ H→SqT K H a xs)
    (hs:∀ i x σ H,xs[i]? = some x→Pv i σ H→g x σ H fun σ2 H2=>tb { D with nx:=Pv (i + 1),ct:=Pv (i + 1),bk:=D.nx } σ2 H2) (hd:∀ σ H,Pv xs.length σ H→D.nx σ H) :
    ∃ W:Nat→Nat→St→Hp→Prop,(∃ m,W 0 m σ H)∧∀ i m σ H,W i m σ H →
      ((Itt K a).stop i H∧D.nx σ H)∨((Itt K a).go i H∧∃ N:St→Hp→Prop,(∀ σ' H',N σ' H'→∃ m',m' < m∧W (i + 1) m' σ' H')∧∀ x H',(Itt K a).yld i H x H'→g x σ H' fun σ2 H2=>tb { D with nx:=N,ct:=N,bk:=D.nx } σ2 H2):=by
  refine ⟨fun i m σ H=>m = xs.length - i∧i ≤ xs.length∧Pv i σ H,⟨xs.length,by simp,Nat.zero_le _,h0⟩,?_⟩
  rintro i m σ H ⟨rfl,hi,p⟩
  have q:=hl i σ H hi p
  by_cases hlt:i < xs.length
  · refine .inr ⟨⟨xs,xs[i],q,by simp [hlt]⟩,Pv (i + 1),fun σ' H' p'=>⟨xs.length - (i + 1),by omega,rfl,hlt,p'⟩,fun x H' y=>?_⟩
    obtain ⟨e,y⟩:=y
    subst e
    exact hs i x σ _ (y xs q) p
  · have e:i = xs.length:=by omega
    subst e
    exact .inl ⟨⟨xs,q,Nat.le_refl _⟩,hd σ H p⟩
theorem for_range {lo:Int} {n:Nat} {g:TG} {tb:TS} {D:Ends} {σ:St} {H:Hp} (Pv:Nat→St→Hp→Prop) (h0:Pv 0 σ H)
    (hs:∀ i σ H,i < n→Pv i σ H→g (.int (lo + i)) σ H fun σ2 H2=>tb { D with nx:=Pv (i + 1),ct:=Pv (i + 1),bk:=D.nx } σ2 H2) (hd:∀ σ H,Pv n σ H→D.nx σ H) :
    ∃ W:Nat→Nat→St→Hp→Prop,(∃ m,W 0 m σ H)∧∀ i m σ H,W i m σ H →
      ((Itr lo n).stop i H∧D.nx σ H)∨((Itr lo n).go i H∧∃ N:St→Hp→Prop,(∀ σ' H',N σ' H'→∃ m',m' < m∧W (i + 1) m' σ' H')∧∀ x H',(Itr lo n).yld i H x H'→g x σ H' fun σ2 H2=>tb { D with nx:=N,ct:=N,bk:=D.nx } σ2 H2):=by
  refine ⟨fun i m σ H=>m = n - i∧i ≤ n∧Pv i σ H,⟨n,by simp,Nat.zero_le _,h0⟩,?_⟩
  rintro i m σ H ⟨rfl,hi,p⟩
  by_cases hlt:i < n
  · refine .inr ⟨hlt,Pv (i + 1),fun σ' H' p'=>⟨n - (i + 1),by omega,rfl,hlt,p'⟩,fun x H' y=>?_⟩
    obtain ⟨e,y⟩:=y
    subst e y
    exact hs i σ _ hlt p
  · have e:i = n:=by omega
    subst e
    exact .inl ⟨Nat.le_refl _,hd σ H p⟩
theorem while_by {c:TT} {tb:TS} {D:Ends} {σ:St} {H:Hp} (Pv:St→Hp→Prop) (μ:St→Hp→Nat) (h0:Pv σ H)
    (hs:∀ σ H,Pv σ H→c σ H fun b H1=>if b = true then tb { D with nx:=fun σ' H'=>Pv σ' H'∧μ σ' H' < μ σ H,ct:=fun σ' H'=>Pv σ' H'∧μ σ' H' < μ σ H,bk:=D.nx } σ H1 else D.nx σ H1)
    (mono:∀ σ H Q Q',(∀ b H1,Q b H1→Q' b H1)→c σ H Q→c σ H Q'):tWhile c tb D σ H:=by
  refine ⟨fun m σ H=>m = μ σ H∧Pv σ H,⟨_,rfl,h0⟩,?_⟩
  rintro m σ H ⟨rfl,p⟩
  refine mono σ H _ _ (fun b H1 q=>?_) (hs σ H p)
  cases b with
  | true=>exact ⟨_,fun σ' H' ⟨p',l⟩=>⟨_,l,rfl,p'⟩,q⟩
  | false=>exact q
end L2
namespace L2
open PySem PySem.Spec PyProof.Rows
abbrev R2:=V→V→Hp→VK→Prop
def OpR (X:Cx) (f:Value→Value→Sem Value) (r:R2):Prop :=
  ∀ (pins:List (Addr × Obj)) (s:Shared) (σ:St) (H:Hp) (x y:V) (v u:Value) (Q:VK),Inv X pins σ H s→RelV x v→RelV y u→r x y H Q →
    wpAny (model X.prog X.w) X.A (f v u) (EP X pins σ Q) X.xe s
def UnR (X:Cx) (f:Value→Sem Value) (r:V→Hp→VK→Prop):Prop :=
  ∀ (pins:List (Addr × Obj)) (s:Shared) (σ:St) (H:Hp) (x:V) (v:Value) (Q:VK),Inv X pins σ H s→RelV x v→r x H Q →
    wpAny (model X.prog X.w) X.A (f v) (EP X pins σ Q) X.xe s
def CallR (X:Cx) (f:Value) (r:List V→Hp→VK→Prop):Prop :=
  ∀ (pins:List (Addr × Obj)) (s:Shared) (σ:St) (H:Hp) (xs:List V) (us:List Value) (Q:VK),Inv X pins σ H s→Vals xs us→r xs H Q →
    wpAny (model X.prog X.w) X.A (call f us) (EP X pins σ Q) X.xe s
def TruR (X:Cx) (r:V→Hp→(Bool→Hp→Prop)→Prop):Prop :=
  ∀ (pins:List (Addr × Obj)) (s:Shared) (σ:St) (H:Hp) (x:V) (v:Value) (Q:Bool→Hp→Prop),Inv X pins σ H s→RelV x v→r x H Q →
    wpAny (model X.prog X.w) X.A (truthy v) (TP X pins σ Q) X.xe s
def tOp (r:R2) (ta tb:TE):TE:=fun σ H Q=>ta σ H fun x H1=>tb σ H1 fun y H2=>r x y H2 Q
def tUn (r:V→Hp→VK→Prop) (ta:TE):TE:=fun σ H Q=>ta σ H fun x H1=>r x H1 Q
def rI (C:Int→Int→Prop) (g:Int→Int→V):R2:=fun x y H Q=>∃ i j,x = .int i∧y = .int j∧C i j∧Q (g i j) H
def rI0 (g:Int→Int→V):R2:=fun x y H Q=>∃ i j,x = .int i∧y = .int j∧Q (g i j) H
def rU (g:Int→V):V→Hp→VK→Prop:=fun x H Q=>∃ i,x = .int i∧Q (g i) H
section
variable {X:Cx} {a b c:Expr} {ta tb tc:TE} {pos:Pos}
theorem binT (ha:PE X a ta) (hb:PE X b tb) {pins:List (Addr × Obj)} {s:Shared} {σ:St} {H:Hp} {R:V→V→Hp→Prop} (I:Inv X pins σ H s)
    (h:ta σ H fun x H1=>tb σ H1 fun y H2=>R x y H2) {Q:Value→Shared→Prop} {f:Value→Value→Sem Value}
    (hf:∀ v u s2 x y H2,Inv X pins σ H2 s2→RelV x v→RelV y u→R x y H2→wpAny (model X.prog X.w) X.A (f v u) Q X.xe s2) :
    wpAny (model X.prog X.w) X.A (eval a X.env) (fun v s₁=>wpAny (model X.prog X.w) X.A (eval b X.env) (fun u s₂=>wpAny (model X.prog X.w) X.A (f v u) Q X.xe s₂) X.xe s₁) X.xe s:=by
  refine thn (ha pins s σ H _ I h) fun v s1 ⟨x,H1,I1,r1,q1⟩=>?_
  refine thn (hb pins s1 σ H1 _ I1 q1) fun u s2 ⟨y,H2,I2,r2,q2⟩=>?_
  exact hf v u s2 x y H2 I2 r1 r2 q2
theorem pe_op {op:Operator} {r:R2} (ho:OpR X (binaryOp op) r) (ha:PE X a ta) (hb:PE X b tb):PE X (.BinOp a op b pos) (tOp r ta tb):=by
  intro pins s σ H Q I h
  exact wpAny_BinOp (binT ha hb I h fun v u s2 x y H2 I2 rx ry q=>ho pins s2 σ H2 x y v u Q I2 rx ry q)
theorem pe_un {op:UnaryOp} {r:V→Hp→VK→Prop} (ho:UnR X (unaryOp op) r) (ha:PE X a ta):PE X (.UnaryOp op a pos) (tUn r ta):=by
  intro pins s σ H Q I h
  exact UnaryOp_ (thn (ha pins s σ H _ I h) fun v s1 ⟨x,H1,I1,r1,q1⟩=>ho pins s1 σ H1 x v Q I1 r1 q1)
theorem opI {f:Value→Value→Sem Value} {C:Int→Int→Prop} {g:Int→Int→Int}
    (rule:∀ (i j:Int) (t u:Tok) (s:Shared) (Q:Value→Shared→Prop) (E:Value→Shared→Prop),C i j→Q (.int (g i j) s.toks) { s with toks:=s.toks + 1 }→wpAny (model X.prog X.w) X.A (f (.int i t) (.int j u)) Q E s) :
    OpR X f (rI C fun i j=>.int (g i j)):=by
  intro pins s σ H x y v u Q I rx ry h
  obtain ⟨i,j,rfl,rfl,hc,q⟩:=h
  obtain ⟨t,rfl⟩:=rx
  obtain ⟨t',rfl⟩:=ry
  exact rule i j t t' s _ _ hc ⟨.int (g i j),H,I.tok _,⟨_,rfl⟩,q⟩
theorem opI0 {f:Value→Value→Sem Value} {g:Int→Int→Int}
    (rule:∀ (i j:Int) (t u:Tok) (s:Shared) (Q:Value→Shared→Prop) (E:Value→Shared→Prop),Q (.int (g i j) s.toks) { s with toks:=s.toks + 1 }→wpAny (model X.prog X.w) X.A (f (.int i t) (.int j u)) Q E s) :
    OpR X f (rI0 fun i j=>.int (g i j)):=by
  intro pins s σ H x y v u Q I rx ry h
  obtain ⟨i,j,rfl,rfl,q⟩:=h
  obtain ⟨t,rfl⟩:=rx
  obtain ⟨t',rfl⟩:=ry
  exact rule i j t t' s _ _ ⟨.int (g i j),H,I.tok _,⟨_,rfl⟩,q⟩
theorem opB0 {f:Value→Value→Sem Value} {g:Int→Int→Bool}
    (rule:∀ (i j:Int) (t u:Tok) (s:Shared) (Q:Value→Shared→Prop) (E:Value→Shared→Prop),Q (.bool (g i j)) s→wpAny (model X.prog X.w) X.A (f (.int i t) (.int j u)) Q E s) :
    OpR X f (rI0 fun i j=>.bl (g i j)):=by
  intro pins s σ H x y v u Q I rx ry h
  obtain ⟨i,j,rfl,rfl,q⟩:=h
  obtain ⟨t,rfl⟩:=rx
  obtain ⟨t',rfl⟩:=ry
  exact rule i j t t' s _ _ ⟨.bl (g i j),H,I,rfl,q⟩
def CDiv (i j:Int):Prop:=0 < j∧j < 1073741824
def CPow (i j:Int):Prop:=0 ≤ j∧j ≤ 1000000∧i.natAbs < 2 ^ 64
def CMul (i j:Int):Prop:=(-(2 ^ 64) < i∧i < 2 ^ 64)∨(-(2 ^ 64) < j∧j < 2 ^ 64)
theorem CMul.ok {i j:Int} (h:CMul i j):IntMulOk i j:=by
  rcases h with ⟨h1,h2⟩ | ⟨h1,h2⟩
  · exact .of_left (intBits_le_64 h1 h2)
  · exact .of_right (intBits_le_64 h1 h2)
theorem op_add:OpR X (binaryOp .Add) (rI0 fun i j=>.int (i + j)):=opI0 fun _ _ _ _ _ _ _ q=>add_int q
theorem op_sub:OpR X (binaryOp .Sub) (rI0 fun i j=>.int (i - j)):=opI0 fun _ _ _ _ _ _ _ q=>sub_int q
theorem op_mul:OpR X (binaryOp .Mult) (rI CMul fun i j=>.int (i * j)):=opI fun _ _ _ _ _ _ _ hc q=>mul_int q hc.ok
theorem op_fdiv:OpR X (binaryOp .FloorDiv) (rI CDiv fun i j=>.int (i / j)):=opI fun i j _ _ _ _ _ hc q=>by
  have h1:(0:Int) < j:=hc.1
  have h2:j < 1073741824:=hc.2
  exact floordiv_int (by omega) (by rw [Int.fdiv_eq_ediv_of_nonneg i (by omega)]; exact q) (.inl (PyProof.noPylong_small (by omega)))
theorem op_mod:OpR X (binaryOp .Mod) (rI (fun _ j=>0 < j) fun i j=>.int (i % j)):=opI fun i j _ _ _ _ _ hc q=>by
  have h1:(0:Int) < j:=hc
  exact mod_int' (by omega) (by rw [Int.fmod_eq_emod_of_nonneg i (by omega)]; exact q)
theorem op_pow:OpR X (binaryOp .Pow) (rI CPow fun i j=>.int (i ^ j.toNat)):=opI fun _ _ _ _ _ _ _ hc q=>pow_int_small hc.1 hc.2.1 hc.2.2 q
theorem unI {f:Value→Sem Value} {g:Int→Int}
    (rule:∀ (i:Int) (t:Tok) (s:Shared) (Q:Value→Shared→Prop) (E:Value→Shared→Prop),Q (.int (g i) s.toks) { s with toks:=s.toks + 1 }→wpAny (model X.prog X.w) X.A (f (.int i t)) Q E s) :
    UnR X f (rU fun i=>.int (g i)):=by
  intro pins s σ H x v Q I rx h
  obtain ⟨i,rfl,q⟩:=h
  obtain ⟨t,rfl⟩:=rx
  exact rule i t s _ _ ⟨.int (g i),H,I.tok _,⟨_,rfl⟩,q⟩
theorem un_neg:UnR X (unaryOp .USub) (rU fun i=>.int (-i)):=unI fun _ _ _ _ _ q=>neg_int q
end
def scal:V→V→Bool
  | .non,.non=>true | .non,.int _=>true | .int _,.non=>true | .non,.bl _=>true | .bl _,.non=>true | .non,.str _=>true | .str _,.non=>true
  | .int _,.int _=>true | .bl _,.bl _=>true | .str _,.str _=>true | .byt _,.byt _=>true
  | .int _,.str _=>true | .str _,.int _=>true | .bl _,.str _=>true | .str _,.bl _=>true
  | _,_=>false
def rEq:R2:=fun x y H Q=>scal x y = true∧Q (.bl (decide (x = y))) H
def rNe:R2:=fun x y H Q=>scal x y = true∧Q (.bl (!decide (x = y))) H
theorem dec_int {i j:Int}:decide (V.int i = V.int j) = (i == j):=by
  rw [Bool.eq_iff_iff]
  simp
theorem dec_bl {i j:Bool}:decide (V.bl i = V.bl j) = (i == j):=by
  rw [Bool.eq_iff_iff]
  simp
theorem dec_str {i j:Str}:decide (V.str i = V.str j) = (i == j):=by
  rw [Bool.eq_iff_iff]
  simp
theorem dec_byt {i j:Array UInt8}:decide (V.byt i = V.byt j) = (i.toList == j.toList):=by
  rw [Bool.eq_iff_iff]
  cases i
  cases j
  simp
section
variable {X:Cx} {a b c:Expr} {ta tb tc:TE} {pos:Pos}
theorem fin_bl {pins:List (Addr × Obj)} {σ:St} {H:Hp} {s:Shared} {Q:VK} {k k':Bool} (I:Inv X pins σ H s) (q:Q (.bl k) H) (e:k = k'):EP X pins σ Q (.bool k') s:=by
  subst e
  exact ⟨.bl k,H,I,rfl,q⟩
theorem op_eq:OpR X (compareOp .Eq) rEq:=by
  intro pins s σ H x y v u Q I rx ry h
  obtain ⟨hs,q⟩:=h
  cases x with
  | non =>
    cases rx
    cases y with
    | non=>cases ry; exact PySem.EqNone.eq_none_none (fin_bl I q (by simp))
    | bl j=>cases ry; exact PySem.EqNone.eq_none_bool (fin_bl I q (by simp))
    | int j=>obtain ⟨t',rfl⟩:=ry; exact PySem.EqNone.eq_none_int (fin_bl I q (by simp))
    | str j=>obtain ⟨t',rfl⟩:=ry; exact PySem.EqNone.eq_none_str (fin_bl I q (by simp))
    | _=>exact absurd (show false = true from hs) Bool.false_ne_true
  | bl i =>
    cases rx
    cases y with
    | non=>cases ry; exact PySem.EqNone.eq_bool_none (fin_bl I q (by simp))
    | bl j=>cases ry; exact eq_bool (fin_bl I q dec_bl)
    | str j=>obtain ⟨t',rfl⟩:=ry; exact PySem.EqMixed.eq_bool_str (fin_bl I q (by simp))
    | _=>exact absurd (show false = true from hs) Bool.false_ne_true
  | int i =>
    obtain ⟨t,rfl⟩:=rx
    cases y with
    | non=>cases ry; exact PySem.EqNone.eq_int_none (fin_bl I q (by simp))
    | int j=>obtain ⟨t',rfl⟩:=ry; exact eq_int (fin_bl I q dec_int)
    | str j=>obtain ⟨t',rfl⟩:=ry; exact PySem.EqMixed.eq_int_str (fin_bl I q (by simp))
    | _=>exact absurd (show false = true from hs) Bool.false_ne_true
  | str i =>
    obtain ⟨t,rfl⟩:=rx
    cases y with
    | non=>cases ry; exact PySem.EqNone.eq_str_none (fin_bl I q (by simp))
    | bl j=>cases ry; exact PySem.EqMixed.eq_str_bool (fin_bl I q (by simp))
    | int j=>obtain ⟨t',rfl⟩:=ry; exact PySem.EqMixed.eq_str_int (fin_bl I q (by simp))
    | str j=>obtain ⟨t',rfl⟩:=ry; exact eq_str (fin_bl I q dec_str)
    | _=>exact absurd (show false = true from hs) Bool.false_ne_true
  | byt i =>
    obtain ⟨t,rfl⟩:=rx
    cases y with
    | byt j=>obtain ⟨t',rfl⟩:=ry; exact PySem.W.eq_bytes (fin_bl I q dec_byt)
    | _=>exact absurd (show false = true from hs) Bool.false_ne_true
  | _=>cases y <;> exact absurd (show false = true from hs) Bool.false_ne_true
theorem op_ne:OpR X (compareOp .NotEq) rNe:=by
  intro pins s σ H x y v u Q I rx ry h
  obtain ⟨hs,q⟩:=h
  cases x with
  | non =>
    cases rx
    cases y with
    | non=>cases ry; exact PySem.EqNone.ne_none_none (fin_bl I q (by simp))
    | bl j=>cases ry; exact PySem.EqNone.ne_none_bool (fin_bl I q (by simp))
    | int j=>obtain ⟨t',rfl⟩:=ry; exact PySem.EqNone.ne_none_int (fin_bl I q (by simp))
    | str j=>obtain ⟨t',rfl⟩:=ry; exact PySem.EqNone.ne_none_str (fin_bl I q (by simp))
    | _=>exact absurd (show false = true from hs) Bool.false_ne_true
  | bl i =>
    cases rx
    cases y with
    | non=>cases ry; exact PySem.EqNone.ne_bool_none (fin_bl I q (by simp))
    | bl j=>cases ry; exact ne_bool (fin_bl I q (congrArg not dec_bl))
    | str j=>obtain ⟨t',rfl⟩:=ry; exact PySem.EqMixed.ne_bool_str (fin_bl I q (by simp))
    | _=>exact absurd (show false = true from hs) Bool.false_ne_true
  | int i =>
    obtain ⟨t,rfl⟩:=rx
    cases y with
    | non=>cases ry; exact PySem.EqNone.ne_int_none (fin_bl I q (by simp))
    | int j=>obtain ⟨t',rfl⟩:=ry; exact ne_int (fin_bl I q (congrArg not dec_int))
    | str j=>obtain ⟨t',rfl⟩:=ry; exact PySem.EqMixed.ne_int_str (fin_bl I q (by simp))
    | _=>exact absurd (show false = true from hs) Bool.false_ne_true
  | str i =>
    obtain ⟨t,rfl⟩:=rx
    cases y with
    | non=>cases ry; exact PySem.EqNone.ne_str_none (fin_bl I q (by simp))
    | bl j=>cases ry; exact PySem.EqMixed.ne_str_bool (fin_bl I q (by simp))
    | int j=>obtain ⟨t',rfl⟩:=ry; exact PySem.EqMixed.ne_str_int (fin_bl I q (by simp))
    | str j=>obtain ⟨t',rfl⟩:=ry; exact ne_str (fin_bl I q (congrArg not dec_str))
    | _=>exact absurd (show false = true from hs) Bool.false_ne_true
  | byt i =>
    obtain ⟨t,rfl⟩:=rx
    cases y with
    | byt j=>obtain ⟨t',rfl⟩:=ry; exact PySem.W.ne_bytes (fin_bl I q (congrArg not dec_byt))
    | _=>exact absurd (show false = true from hs) Bool.false_ne_true
  | _=>cases y <;> exact absurd (show false = true from hs) Bool.false_ne_true
theorem op_lt:OpR X (compareOp .Lt) (rI0 fun i j=>.bl (decide (i < j))):=opB0 fun _ _ _ _ _ _ _ q=>lt_int q
theorem op_le:OpR X (compareOp .LtE) (rI0 fun i j=>.bl (decide (i ≤ j))):=opB0 fun _ _ _ _ _ _ _ q=>le_int q
theorem op_gt:OpR X (compareOp .Gt) (rI0 fun i j=>.bl (decide (j < i))):=opB0 fun _ _ _ _ _ _ _ q=>gt_int q
theorem op_ge:OpR X (compareOp .GtE) (rI0 fun i j=>.bl (decide (j ≤ i))):=opB0 fun _ _ _ _ _ _ _ q=>ge_int q
theorem nomark (b:Expr) {op:CmpOp} (h:op ≠ .In:=by decide) (h2:op ≠ .NotIn:=by decide):behindInMarks op b = false:=by
  have e1:(op == CmpOp.In) = false:=by cases op <;> first | rfl | exact absurd rfl h
  have e2:(op == CmpOp.NotIn) = false:=by cases op <;> first | rfl | exact absurd rfl h2
  cases b <;> simp [behindInMarks,e1,e2]
theorem pe_cmpR {op:CmpOp} {r:R2} (ho:OpR X (compareOp op) r) (ha:PE X a ta) (hb:PE X b tb) (hm:behindInMarks op b = false):PE X (.Compare a [op] [b] pos) (tOp r ta tb):=by
  intro pins s σ H Q I h
  exact wpAny_Compare1 (binT ha hb I h fun v u s2 x y H2 I2 rx ry q=>ho pins s2 σ H2 x y v u Q I2 rx ry q) hm
def tTest (t:TE):TT:=fun σ H Q=>t σ H fun x H'=>∃ k,x = .bl k∧Q k H'
theorem pt_cmpR {op:CmpOp} {r:R2} (ho:OpR X (compareOp op) r) (ha:PE X a ta) (hb:PE X b tb) (hm:behindInMarks op b = false):PT X (.Compare a [op] [b] pos) (tTest (tOp r ta tb)):=by
  intro pins s σ H Q I h
  refine wpAny_isTrue_Compare1 (thn (ha pins s σ H _ I h) fun v s1 ⟨x,H1,I1,r1,q1⟩=>thn (hb pins s1 σ H1 _ I1 q1) fun u s2 ⟨y,H2,I2,r2,q2⟩ =>
    thn (ho pins s2 σ H2 x y v u _ I2 r1 r2 q2) fun c s3 ⟨z,H3,I3,r3,k,e,q3⟩=>?_) hm
  subst e
  cases r3
  exact wpAny_truthy_bool ⟨H3,I3,q3⟩
def tChain (r r':R2) (ta tb tc:TE):TE:=fun σ H Q=>ta σ H fun x H1=>tb σ H1 fun y H2=>r x y H2 fun z H3=>∃ k,z = .bl k ∧
  (if k = true then tc σ H3 fun w' H4=>r' y w' H4 Q else Q (.bl false) H3)
theorem pe_chain {op op':CmpOp} {r r':R2} (ho:OpR X (compareOp op) r) (ho':OpR X (compareOp op') r') (ha:PE X a ta) (hb:PE X b tb) (hc:PE X c tc)
    (hm:lastMarks [op,op'] [b,c] = false:=by with_unfolding_all rfl):PE X (.Compare a [op,op'] [b,c] pos) (tChain r r' ta tb tc):=by
  intro pins s σ H Q I h
  refine Compare_chain (thn (ha pins s σ H _ I h) fun v s1 ⟨x,H1,I1,r1,q1⟩=>chain_link (thn (hb pins s1 σ H1 _ I1 q1) fun u s2 ⟨y,H2,I2,r2,q2⟩ =>
    thn (ho pins s2 σ H2 x y v u _ I2 r1 r2 q2) fun d s3 ⟨z,H3,I3,r3,k,e,q3⟩=>?_)) hm
  subst e
  cases r3
  refine wpAny_truthy_bool ?_
  cases k with
  | false=>exact ite_ff ⟨.bl false,H3,I3,rfl,q3⟩
  | true=>exact ite_tt (chain_last (thn (hc pins s3 σ H3 _ I3 q3) fun w' s4 ⟨z',H4,I4,r4,q4⟩=>ho' pins s4 σ H4 y z' u w' Q I4 r2 r4 q4))
theorem pt_chain {op op':CmpOp} {r r':R2} (ho:OpR X (compareOp op) r) (ho':OpR X (compareOp op') r') (ha:PE X a ta) (hb:PE X b tb) (hc:PE X c tc)
    (hm:lastMarks [op,op'] [b,c] = false:=by with_unfolding_all rfl):PT X (.Compare a [op,op'] [b,c] pos) (tTest (tChain r r' ta tb tc)):=by
  intro pins s σ H Q I h
  refine isTrue_chain (thn (ha pins s σ H _ I h) fun v s1 ⟨x,H1,I1,r1,q1⟩=>test_link (thn (hb pins s1 σ H1 _ I1 q1) fun u s2 ⟨y,H2,I2,r2,q2⟩ =>
    thn (ho pins s2 σ H2 x y v u _ I2 r1 r2 q2) fun d s3 ⟨z,H3,I3,r3,k,e,q3⟩=>?_)) hm
  subst e
  cases r3
  refine wpAny_truthy_bool ?_
  cases k with
  | false =>
    obtain ⟨k',e',q'⟩:=q3
    cases e'
    exact ite_ff ⟨H3,I3,q'⟩
  | true =>
    refine ite_tt (test_last (thn (hc pins s3 σ H3 _ I3 q3) fun w' s4 ⟨z',H4,I4,r4,q4⟩=>thn (ho' pins s4 σ H4 y z' u w' _ I4 r2 r4 q4) fun d' s5 ⟨z2,H5,I5,r5,k2,e2,q5⟩=>?_))
    subst e2
    cases r5
    exact wpAny_truthy_bool ⟨H5,I5,q5⟩
def TruV (K:PySem.W.Frag) (x:V) (H:Hp) (k:Bool):Prop :=
  match x with
  | .non=>k = false
  | .bl b=>k = b
  | .int i=>k = (i != 0)
  | .str y=>y.length ≤ sizeLine∧k = ((y.length:Int) != 0)
  | .byt y=>y.size ≤ sizeLine∧k = ((y.size:Int) != 0)
  | .ref p=>(∃ xs,SqL K H p xs∧k = !xs.isEmpty)∨(∃ xs,SqT K H p xs∧k = !xs.isEmpty)∨∃ kvs,H p = some (.dK kvs)∧k = !kvs.isEmpty
  | _=>False
theorem isEmpty_kv {κ:Type} {kvs:List (κ × V)} {vs:List (κ × Value)} (r:KV kvs vs):(!vs.isEmpty) = !kvs.isEmpty:=by
  cases r <;> rfl
theorem isEmpty_of {xs:List V} {its:List Value} (r:Vals xs its):(!its.toArray.isEmpty) = !xs.isEmpty:=by
  cases r <;> simp
theorem line63:(sizeLine:Nat) < 2 ^ 63:=by rw [sizeLine_eq]; decide
theorem tru_ok:TruR X (fun x H Q=>∃ k,TruV X.K x H k∧Q k H):=by
  intro pins s σ H x v Q I rx h
  obtain ⟨k,e,q⟩:=h
  have hl:=line63
  have hs:sizeLine = 16777216:=sizeLine_eq
  cases x with
  | non =>
    cases rx
    have e':k = false:=e
    subst e'
    exact truthy_none ⟨H,I,q⟩
  | bl b =>
    cases rx
    have e':k = b:=e
    subst e'
    exact wpAny_truthy_bool ⟨H,I,q⟩
  | int i =>
    obtain ⟨t,rfl⟩:=rx
    have e':k = (i != 0):=e
    subst e'
    exact PySem.P.truthy_int ⟨H,I,q⟩
  | str y =>
    obtain ⟨t,rfl⟩:=rx
    obtain ⟨hy,e'⟩:y.length ≤ sizeLine∧k = ((y.length:Int) != 0):=e
    subst e'
    exact PySem.P.truthy_str (by omega) ⟨H,I.tok _,q⟩
  | byt y =>
    obtain ⟨t,rfl⟩:=rx
    obtain ⟨hy,e'⟩:y.size ≤ sizeLine∧k = ((y.size:Int) != 0):=e
    subst e'
    exact PySem.W.truthy_bytes (by omega) ⟨H,I.tok _,q⟩
  | ref p =>
    cases rx
    have e':(∃ xs,SqL X.K H p xs∧k = !xs.isEmpty)∨(∃ xs,SqT X.K H p xs∧k = !xs.isEmpty)∨∃ kvs,H p = some (.dK kvs)∧k = !kvs.isEmpty:=e
    rcases e' with ⟨xs,hx,e'⟩ | ⟨xs,hx,e'⟩ | ⟨kvs,hx,e'⟩
    · subst e'
      obtain ⟨its,r,pl,hz⟩:=I.list hx
      have hlen:=r.length
      exact wpAny_truthy_list pl.isList (by simp only [List.size_toArray]; omega) ⟨H,I.tok _,by rw [isEmpty_of r]; exact q⟩
    · subst e'
      obtain ⟨its,r,pl,hz⟩:=I.tuple hx
      have hlen:=r.length
      exact truthy_tuple pl (by simp only [List.size_toArray]; omega) ⟨H,I.tok _,by rw [isEmpty_of r]; exact q⟩
    · subst e'
      obtain ⟨hz,hS,vs,r,m⟩:kvs.length ≤ sizeLine∧(p == sysModules) = false∧∃ vs,KV kvs vs∧s.heap.DictOf (mixKind X.prog X.w) p vs:=I.hok p _ hx
      have hlen:kvs.length = vs.length:=Paired.length r
      exact wpAny_truthy_dict hS m (by omega) ⟨H,I.tok _,by rw [isEmpty_kv r]; exact q⟩
  | _=>exact (show False from e).elim
theorem pt_truth (ha:PE X a ta) (he:∀ whole,isTrue a X.env whole = (do let v ← whole; standAt a.pos; holding [v] (truthy v))) :
    PT X a (fun σ H Q=>ta σ H fun x H'=>∃ k,TruV X.K x H' k∧Q k H'):=by
  intro pins s σ H Q I h
  exact isTrue_plain (thn (ha pins s σ H _ I h) fun v s1 ⟨x,H1,I1,r1,q1⟩=>tru_ok pins s1 σ H1 x v Q I1 r1 q1) (he _)
theorem vals1 {x:V} {us:List Value} (r:Vals [x] us):∃ u,us = [u]∧RelV x u:=by
  cases r with
  | cons r1 r2=>cases r2; exact ⟨_,rfl,r1⟩
theorem vals2 {x y:V} {us:List Value} (r:Vals [x,y] us):∃ u w',us = [u,w']∧RelV x u∧RelV y w':=by
  cases r with
  | cons r1 r2 =>
    cases r2 with
    | cons r3 r4=>cases r4; exact ⟨_,_,rfl,r1,r3⟩
end
end L2
namespace L2
open PySem PySem.Spec PyProof.Rows
structure ObjM (h:Heap) (x dx C:Addr) (mA:Str→Option Value):Prop where
  obj:h.get? x = some (PySem.W.instObj C dx)
  ns:h.Ns1 dx mA
  ne:dx ≠ x
theorem lookIn_ns {h:Heap} {dx:Addr} {mA:Str→Option Value} (n:h.Ns1 dx mA):∃ od,h.get? dx = some od∧∀ name,PySem.W.lookIn name od = some (mA name):=by
  obtain ⟨o,es,ep,ho,hd,hk,_,hm⟩:=n
  refine ⟨o,ho,fun name=>?_⟩
  have e:=hm name
  unfold nsFind findBy at e
  rw [← Array.find?_toList] at e
  unfold PySem.W.lookIn
  rw [hd]
  dsimp only
  split
  · rename_i y q
    rw [q] at e
    exact congrArg some e
  · rename_i q
    rw [q] at e
    have a:es.toList.any (·.refKey) = false:=by
      rw [List.any_eq_false]
      intro y hy
      obtain ⟨z,t,hkey⟩:=hk y (Array.mem_toList_iff.mp hy)
      simp [DictEntry.refKey,hkey]
    have a':¬ es.toList.any (·.refKey) = true:=by rw [a]; exact Bool.false_ne_true
    rw [if_neg a']
    exact congrArg some e
theorem ObjM.look {h:Heap} {x dx C:Addr} {mA:Str→Option Value} (I:ObjM h x dx C mA):∃ od,PySem.W.InstAt h x (PySem.W.instObj C dx) C (some od)∧∀ name,PySem.W.lookIn name od = some (mA name) :=
  let ⟨od,ho,hl⟩:=lookIn_ns I.ns
  ⟨od,⟨I.obj,rfl,rfl,ho⟩,hl⟩
section
variable {prog:Program} {w:World} {A:Around} {E:Value→Shared→Prop} {s:Shared} {K:PySem.W.Frag} {x dx C f:Addr} {mA:Str→Option Value} {name:Str} {v:Value}
theorem get_map {expr:Bool} {Q:Value→Shared→Prop} (X:K.In s.heap) (I:ObjM s.heap x dx C mA) (hg:PySem.W.plainGet K C name = true) (hh:PySem.W.hasDictIn K C = true)
    (ha:PySem.W.findIn K (.ref C) name = some none) (hv:mA name = some v) (hv':PySem.W.handedIn v = true) (h:Q v { s with toks:=s.toks + 1 }) :
    wpAny (model prog w) A (getAttr (.ref x) name expr) Q E s:=by
  obtain ⟨od,J,hl⟩:=I.look
  exact PySem.W.get_value X J (PySem.W.plainGet_of hg).1 (PySem.W.findObj_own hh ha rfl (by rw [hl,hv])) hv' h
theorem get_meth {pl:Sem Bool} {Q:Value × List Value→Shared→Prop} (X:K.In s.heap) (I:ObjM s.heap x dx C mA) (hg:PySem.W.plainGet K C name = true)
    (hf:PySem.W.findIn K (.ref C) name = some (some (.ref f))) (ht:PySem.W.isFn K (.ref f) = true) (hv:mA name = none) (h:Q (.ref f,[.ref x]) s) :
    wpAny (model prog w) A (getMethod (.ref x) name pl) Q E s:=by
  obtain ⟨od,J,hl⟩:=I.look
  exact PySem.W.method_fn X J (PySem.W.plainGet_of hg).1 (PySem.W.plainGet_of hg).2 hf (beq_iff_eq.mp ht) (by show (PySem.W.lookIn name od).map (·.isSome) = some false; rw [hl,hv]; rfl) h
theorem set_map {ns:List Str} {Q:Unit→Shared→Prop} (X:K.In s.heap) (I:ObjM s.heap x dx C mA)
    (hs:PySem.W.findIn K (.ref C) "__setattr__" = some (some (.builtin "object.__setattr__"))) (hp:PySem.W.plainOver K C = true) (ht:PySem.W.takerIn K C name = some none) (hh:PySem.W.hasDictIn K C = true)
    (hw:PySem.Within mA ns) (hsz:ns.length ≤ sizeLine)
    (h:∀ h',ObjM h' x dx C (fun y=>if y = name then some v else mA y)→Heap.SameBut dx s.heap h'→Q () { s with heap:=h',toks:=s.toks + 2 }) :
    wpAny (model prog w) A (setAttr (.ref x) name v) Q E s:=by
  obtain ⟨od,J,hl⟩:=I.look
  refine PySem.W.set_plain X J hs (PySem.W.osa_open (s:={ s with toks:=s.toks + 1 }) (r:=none) X J hp ht fun b=>?_)
  obtain ⟨cd,hc,hd'⟩:=PySem.W.any_some hh
  have hx:s.heap.get? x = some ⟨.ref C,some dx,.plain,#[]⟩:=I.obj
  refine wpAny_bind (wpAny_pure (wpAny_bind (wpAny_bind (wpAny_loadPart hx (wpAny_bind (PySem.W.Looks.here (s:={ s with toks:=s.toks + 1 }) (PySem.W.looks_clsIn X hc) ?_))))))
  rw [hd']
  refine wpAny_pure (a:=some dx) (wpAny_bind (wpAny_pure (wpAny_bind ?_)))
  refine wpAny_nsSet1 (s:={ s with toks:=s.toks + 1 }) I.ns fun h' hn2 hs2=>?_
  obtain ⟨oD,esD,epD,hoD,hdD,hcD⟩:=hn2.count (PySem.Within.cons name v hw)
  refine wpAny_bind (wpAny_lookBehind hoD (by rw [hdD]; exact pastItsLine_dict (Nat.le_trans hcD (by rw [List.length_cons]; omega))) ?_)
  exact wpAny_pure (h _ ⟨(hs2.2 _ (Ne.symm I.ne)).trans I.obj,hn2,I.ne⟩ hs2)
theorem make_map {R:Result→Shared→Prop} {vs:List Value} {kw:List (Str × Value)} (X:K.In s.heap) (hm:PySem.W.makesIn K C = true)
    (hi:PySem.W.findIn K (.ref C) "__init__" = some (some (.ref f))) (hf:PySem.W.typeIn K (.ref f) = some (.type "function"))
    (h:codeAny (model prog w) (A.under (.builtin "type.__call__" ⟨.ref C :: vs,kw⟩)) (.call (.ref f) ⟨.ref (s.heap.objs.size + 1) :: vs,kw⟩) (PySem.W.InitBack (s.heap.objs.size + 1) R)
      { s with heap:=(s.heap.push PySem.W.emptyDict).push (PySem.W.instObj C s.heap.objs.size) }) :
    codeAny (model prog w) A (.call (.ref C) ⟨vs,kw⟩) R s:=by
  obtain ⟨hh,g,d,t,os⟩:=s
  exact PySem.W.make_core (PySem.W.makes_of X hm) (PySem.W.looks_findIn X hi) (fun self=>PySem.W.bind_fn X self hf) (.inl rfl) h
end
def putF (f:Str) (v:V):List (Str × V)→List (Str × V)
  | []=>[(f,v)]
  | (g,x) :: r=>if g = f then (g,v) :: r else (g,x) :: putF f v r
theorem lookup_putF (f g:Str) (v:V):∀ fs:List (Str × V),(putF f v fs).lookup g = if g = f then some v else fs.lookup g
  | []=>by
    show List.lookup g [(f,v)] = _
    by_cases h:g = f
    · have hb:(g == f) = true:=beq_iff_eq.mpr h
      simp only [List.lookup,hb,if_pos h]
    · have hb:(g == f) = false:=beq_eq_false_iff_ne.mpr h
      simp only [List.lookup,hb,if_neg h]
  | (k,x) :: r=>by
    have ih:=lookup_putF f g v r
    rw [show putF f v ((k,x) :: r) = (if k = f then (k,v) :: r else (k,x) :: putF f v r) from rfl]
    by_cases hk:k = f
    · rw [if_pos hk]
      by_cases h:g = k
      · have hb:(g == k) = true:=beq_iff_eq.mpr h
        simp only [List.lookup,hb,if_pos (h.trans hk)]
      · have hb:(g == k) = false:=beq_eq_false_iff_ne.mpr h
        simp only [List.lookup,hb,if_neg (fun e:g = f=>h (e.trans hk.symm))]
    · rw [if_neg hk]
      by_cases h:g = k
      · have hb:(g == k) = true:=beq_iff_eq.mpr h
        simp only [List.lookup,hb,if_neg (fun e:g = f=>hk (h.symm.trans e))]
      · have hb:(g == k) = false:=beq_eq_false_iff_ne.mpr h
        simp only [List.lookup,hb]
        exact ih
theorem keys_putF (f:Str) (v:V):∀ fs:List (Str × V),f ∈ (putF f v fs).map (·.1)∧∀ g,g ∈ fs.map (·.1)→g ∈ (putF f v fs).map (·.1)
  | []=>⟨by simp [putF],fun g h=>by simp at h⟩
  | (k,x) :: r=>by
    obtain ⟨i1,i2⟩:=keys_putF f v r
    rw [show putF f v ((k,x) :: r) = (if k = f then (k,v) :: r else (k,x) :: putF f v r) from rfl]
    by_cases hk:k = f
    · rw [if_pos hk]
      subst hk
      exact ⟨by simp,fun g h=>by simpa using h⟩
    · rw [if_neg hk]
      refine ⟨?_,fun g h=>?_⟩
      · rw [List.map_cons]
        exact List.mem_cons_of_mem _ i1
      · rw [List.map_cons] at h ⊢
        rcases List.mem_cons.mp h with e | e
        · exact List.mem_cons.mpr (.inl e)
        · exact List.mem_cons_of_mem _ (i2 g e)
theorem length_putF (f:Str) (v:V):∀ fs:List (Str × V),(putF f v fs).length ≤ fs.length + 1
  | []=>by simp [putF]
  | (k,x) :: r=>by
    have ih:=length_putF f v r
    rw [show putF f v ((k,x) :: r) = (if k = f then (k,v) :: r else (k,x) :: putF f v r) from rfl]
    by_cases hk:k = f
    · rw [if_pos hk,List.length_cons,List.length_cons]; omega
    · rw [if_neg hk,List.length_cons,List.length_cons]; omega
theorem RelO.some_of {v:V} {o:Option Value} (r:RelO (some v) o):∃ u,o = some u∧RelV v u:=by
  cases o with
  | none=>exact (show False from r).elim
  | some u=>exact ⟨u,rfl,r⟩
theorem RelO.none_of {o:Option Value} (r:RelO none o):o = none:=by
  cases o with
  | none=>rfl
  | some u=>exact (show False from r).elim
theorem handed_of {v:V} {u:Value} (r:RelV v u):PySem.W.handedIn u = true:=by
  cases v with
  | non=>cases (show u = Value.none from r); rfl
  | bl b=>cases (show u = Value.bool b from r); rfl
  | int i=>obtain ⟨t,e⟩:=(show ∃ t,u = Value.int i t from r); cases e; rfl
  | str x=>obtain ⟨t,e⟩:=(show ∃ t,u = Value.str x t from r); cases e; rfl
  | byt b=>obtain ⟨t,e⟩:=(show ∃ t,u = Value.bytes b t from r); cases e; rfl
  | flt b=>obtain ⟨t,e⟩:=(show ∃ t,u = Value.float b t from r); cases e; rfl
  | ref a=>cases (show u = Value.ref a from r); rfl
  | ty n=>cases (show u = Value.type n from r); rfl
section
variable {P:Program} {w:World} {H H':Hp} {h h':Heap} {a C dx:Addr} {fs fs':List (Str × V)}
theorem ins_get (hok:HOk P w H h) (e:H a = some (.ins C dx fs)):∃ mA,ObjM h a dx C mA∧(∀ f,RelO (fs.lookup f) (mA f))∧PySem.Within mA (fs.map (·.1))∧fs.length ≤ 1000∧H dx = some (.own a):=by
  obtain ⟨d,z,ne,ob,mA,n,r,q⟩:=(show ObjOk P w H h a (.ins C dx fs) from hok a _ e)
  exact ⟨mA,⟨ob,n,ne⟩,r,q,z,d⟩
end
structure Cls (K:PySem.W.Frag) (C:Addr):Prop where
  pg:PySem.W.plainGet K C Str.empty = true
  hd:PySem.W.hasDictIn K C = true
  po:PySem.W.plainOver K C = true
  sa:PySem.W.findIn K (.ref C) "__setattr__" = some (some (.builtin "object.__setattr__"))
theorem Cls.get {K:PySem.W.Frag} {C:Addr} (c:Cls K C) (f:Str):PySem.W.plainGet K C f = true:=c.pg
def NoAttr (K:PySem.W.Frag) (C:Addr) (f:Str):Prop:=PySem.W.findIn K (.ref C) f = some none
theorem NoAttr.taker {K:PySem.W.Frag} {C:Addr} {f:Str} (n:NoAttr K C f):PySem.W.takerIn K C f = some none:=by
  unfold PySem.W.takerIn
  rw [show PySem.W.findIn K (.ref C) f = some none from n]
  rfl
structure Meth (K:PySem.W.Frag) (C:Addr) (m:Str) (f:Addr):Prop where
  at_:PySem.W.findIn K (.ref C) m = some (some (.ref f))
  fn:PySem.W.isFn K (.ref f) = true
  kp:PySem.W.keepIn K (.ref f) = true
section
variable {X:Cx} {pins:List (Addr × Obj)} {σ:St} {H:Hp} {s:Shared} {a C dx:Addr} {fs:List (Str × V)} {f:Str} {v:V} {A:Around} {E:Value→Shared→Prop}
theorem getattr_ok {b:Bool} {Q:Value→Shared→Prop} (I:Inv X pins σ H s) (e:H a = some (.ins C dx fs)) (c:Cls X.K C) (n:NoAttr X.K C f) (l:fs.lookup f = some v)
    (h:∀ u s',Inv X pins σ H s'→RelV v u→Q u s'):wpAny (model X.prog X.w) A (getAttr (.ref a) f b) Q E s:=by
  obtain ⟨mA,O,r,_,_,_⟩:=ins_get I.hok e
  obtain ⟨u,hu,ru⟩:=RelO.some_of (v:=v) (o:=mA f) (by rw [← l]; exact r f)
  exact get_map I.kIn O (c.get f) c.hd n hu (handed_of ru) (h u _ (I.tok _) ru)
theorem getmeth_ok {m:Str} {g:Addr} {pl:Sem Bool} {Q:Value × List Value→Shared→Prop} (I:Inv X pins σ H s) (e:H a = some (.ins C dx fs)) (c:Cls X.K C) (k:Meth X.K C m g) (l:fs.lookup m = none)
    (h:Q (.ref g,[.ref a]) s):wpAny (model X.prog X.w) A (getMethod (.ref a) m pl) Q E s:=by
  obtain ⟨mA,O,r,_,_,_⟩:=ins_get I.hok e
  have hn:mA m = none:=RelO.none_of (by rw [← l]; exact r m)
  exact get_meth I.kIn O (c.get m) k.at_ k.fn hn h
theorem setattr_ok {y:V} {u:Value} {Q:Unit→Shared→Prop} (I:Inv X pins σ H s) (e:H a = some (.ins C dx fs)) (c:Cls X.K C) (n:NoAttr X.K C f) (hl:fs.length < 1000) (ry:RelV y u)
    (h:∀ s',Inv X pins σ (upd H a (.ins C dx (putF f y fs))) s'→Q () s'):wpAny (model X.prog X.w) A (setAttr (.ref a) f u) Q E s:=by
  obtain ⟨mA,O,r,wi,_,ho⟩:=ins_get I.hok e
  have hz:(fs.map (·.1)).length ≤ sizeLine:=by rw [List.length_map,sizeLine_eq]; omega
  refine set_map I.kIn O c.sa c.po n.taker c.hd wi hz fun h' O' sb=>h _ ?_
  have hd:∃ o,h'.get? dx = some o:=let ⟨o,_,_,e',_⟩:=O'.ns; ⟨o,e'⟩
  refine I.write (x:=a) (e:=dx) (by rw [e]; exact True.intro) (.inr ho) (fun b q hb z=>(sb.2 b hb).trans z) hd ?_
  refine ⟨by rw [upd_ne O.ne]; exact ho,?_,O.ne,O'.obj,_,O'.ns,fun g=>?_,fun g hg=>?_⟩
  · have:=length_putF f y fs; omega
  · show RelO ((putF f y fs).lookup g) (if g = f then some u else mA g)
    rw [lookup_putF]
    by_cases q:g = f
    · rw [if_pos q,if_pos q]; exact ry
    · rw [if_neg q,if_neg q]; exact r g
  · by_cases q:g = f
    · rw [q]; exact (keys_putF f y fs).1
    · refine (keys_putF f y fs).2 g (wi g fun z=>hg ?_)
      show (if g = f then some u else mA g) = none
      rw [if_neg q]; exact z
theorem Inv.made (I:Inv X pins σ H s):Inv X pins σ (upd (upd H s.heap.objs.size (.own (s.heap.objs.size + 1))) (s.heap.objs.size + 1) (.ins C s.heap.objs.size []))
    { s with heap:=(s.heap.push PySem.W.emptyDict).push (PySem.W.instObj C s.heap.objs.size) }:=by
  have e1:(s.heap.push PySem.W.emptyDict).get? s.heap.objs.size = some PySem.W.emptyDict:=Heap.get?_push_size s.heap rfl
  have e2:((s.heap.push PySem.W.emptyDict).push (PySem.W.instObj C s.heap.objs.size)).get? (s.heap.objs.size + 1) = some (PySem.W.instObj C s.heap.objs.size):=by
    have:=Heap.get?_push_size (s.heap.push PySem.W.emptyDict) (o:=PySem.W.instObj C s.heap.objs.size) rfl
    rwa [Heap.size_push] at this
  have e3:(s.heap.push PySem.W.emptyDict).Ns s.heap.objs.size (fun _=>none):=⟨PySem.W.emptyDict,#[],_,e1,rfl,(fun e he=>absurd he (by simp)),fun _=>rfl⟩
  have I1:=I.laid (a:=s.heap.objs.size) (o:=.own (s.heap.objs.size + 1)) (h':=s.heap.push PySem.W.emptyDict) (t':=s.toks) (fun b u q=>Heap.get?_push_of_some _ q) (Nat.le_refl _) ⟨_,e1⟩
  refine I1.laid (a:=s.heap.objs.size + 1) (o:=.ins C s.heap.objs.size []) (t':=s.toks) (fun b u q=>Heap.get?_push_of_some _ q) (Nat.le_of_eq (Heap.size_push _ _)) ?_
  have ne:s.heap.objs.size ≠ s.heap.objs.size + 1:=Nat.ne_of_lt (Nat.lt_succ_self _)
  refine ⟨by rw [upd_ne ne,upd_same],Nat.zero_le _,ne,e2,fun _=>none,(Heap.Ns1.of_empty e3).at fun o q=>Heap.get?_push_of_some _ q,fun _=>True.intro,fun y hy=>absurd rfl hy⟩
theorem attr_of {prog:Program} {w:World} {env:Env} {e:Expr} {f:Str} {pos:Pos} {s:Shared} {Q:Value→Shared→Prop} (hb:attributeBase e f env (eval e env) = eval e env)
    (h:wpAny (model prog w) A (eval e env) (fun o s₁=>wpAny (model prog w) A (getAttr o f true) Q E s₁) E s):wpAny (model prog w) A (eval (.Attribute e f pos) env) Q E s :=
  Attribute_any_ h (by rw [arm_eval_Attribute,hb])
end
def tFld (K:PySem.W.Frag) (ta:TE) (f:Str):TE:=fun σ H Q=>ta σ H fun x H1=>∃ a C dx fs v,x = .ref a∧H1 a = some (.ins C dx fs)∧Cls K C∧NoAttr K C f∧fs.lookup f = some v∧Q v H1
def sFld (K:PySem.W.Frag) (ta tv:TE) (f:Str):TS:=fun D σ H=>tv σ H fun y H1=>ta σ H1 fun x H2=>∃ a C dx fs,x = .ref a∧H2 a = some (.ins C dx fs)∧Cls K C∧NoAttr K C f∧fs.length < 1000 ∧
  D.nx σ (upd H2 a (.ins C dx (putF f y fs)))
section
variable {X:Cx} {o e value:Expr} {f:Str} {pos pos' tpos:Pos} {ta tv:TE}
theorem pe_fld (he:PE X e ta) (hb:attributeBase e f X.env (eval e X.env) = eval e X.env):PE X (.Attribute e f pos) (tFld X.K ta f):=by
  intro pins s σ H Q I h
  refine attr_of hb (thn (he pins s σ H _ I h) fun u s1 ⟨x,H1,I1,rx,a,C,dx,fs,v,ex,ea,c,n,l,q⟩=>?_)
  subst ex
  obtain rfl:u = Value.ref a:=rx
  exact getattr_ok I1 ea c n l fun u' s2 I2 ru=>⟨v,H1,I2,ru,q⟩
theorem ps_fld (ha:PE X o ta) (hv:PE X value tv) (hs:swapsWith value (some (.Attribute o f pos')) pos.line X.env = pure false):PS X (.Assign [.Attribute o f pos'] value pos) (sFld X.K ta tv f):=by
  intro pins s σ H D I h
  refine plainObj_wpAny_Assign_Attribute (thn (hv pins s σ H _ I h) fun u s1 ⟨y,H1,I1,ry,q⟩=>thn (ha pins s1 σ H1 _ I1 q) fun ov s2 ⟨x,H2,I2,rx,a,C,dx,fs,ex,ea,c,n,l,q2⟩=>?_) hs
  subst ex
  obtain rfl:ov = Value.ref a:=rx
  exact setattr_ok I2 ea c n l ry fun s3 I3=>⟨σ,_,I3,q2⟩
end
section
variable {X:Cx} {pins:List (Addr × Obj)} {σ:St} {H:Hp} {s:Shared} {A:Around} {E:Value→Shared→Prop} {Q:Value→Shared→Prop} {c:Value} {b:Bool}
end
end L2
namespace L2
open PySem PySem.Spec PyProof.Rows
structure Room (k:Nat) (A:Around):Prop where
  hd:A.handled = none
  dp:A.depth + 3 * k + 5 < recursionLimit
  un:A.units + 16 * k + 200 < cLine
theorem Room.mono {j k:Nat} {A:Around} (r:Room k A) (h:j ≤ k):Room j A:=⟨r.hd,by have:=r.dp; omega,by have:=r.un; omega⟩
theorem Room.deeper {k:Nat} {A:Around} (r:Room (k + 1) A) (env:Env):Room k (A.deeper env) :=
  ⟨r.hd,by have:=r.dp; show A.depth + 1 + 3 * k + 5 < _; omega,by have:=r.un; show A.units + 3 + 16 * k + 200 < _; omega⟩
theorem make_depth {A:Around} {C:Addr} {us:List Value} {kw:List (Str × Value)}:(A.under (.builtin "type.__call__" ⟨.ref C :: us,kw⟩)).depth = A.depth + 1:=by
  first | rfl | simp [Around.under,Code.weight,Code.isCreation,Code.isGuard,Code.isCaller,Code.frames,Code.isFrame,guardIds]
theorem make_units {A:Around} {C:Addr} {us:List Value} {kw:List (Str × Value)}:(A.under (.builtin "type.__call__" ⟨.ref C :: us,kw⟩)).units = A.units + 1:=by
  first | rfl | simp [Around.under,Code.cUnits,Code.frames,Code.isFrame]
theorem Room.make {k:Nat} {A:Around} (r:Room (k + 1) A) (C:Addr) (us:List Value) (kw:List (Str × Value)):Room k (A.under (.builtin "type.__call__" ⟨.ref C :: us,kw⟩)) :=
  ⟨r.hd,by have:=r.dp; rw [make_depth]; omega,by have:=r.un; rw [make_units]; omega⟩
theorem Room.depth {k:Nat} {A:Around} (r:Room k A):A.depth < recursionLimit:=by have:=r.dp; omega
def tNil:TA:=fun _ H Q=>Q [] H
def tCons (ta:TE) (tr:TA):TA:=fun σ H Q=>ta σ H fun x H1=>tr σ H1 fun xs H2=>Q (x :: xs) H2
section
variable {X:Cx} {e:Expr} {es:List Expr} {te:TE} {t:TA} {pos:Pos}
theorem pa_nil:PA X [] tNil:=fun _ _ _ _ H Q I h=>Calls.spliced_nil ⟨[],H,I,.nil,h⟩
theorem pa_cons (ha:PE X e te) (hr:PA X es t) (hs:starEach (e :: es) X.env = (false,eval e X.env) :: starEach es X.env:=by rfl):PA X (e :: es) (tCons te t):=by
  intro pos pins s σ H Q I h
  rw [hs]
  show wpAny _ _ (spliced ((false,eval e X.env) :: backTo pos (starEach es X.env))) _ _ s
  refine Calls.spliced_cons (thn (ha pins s σ H _ I h) fun u s1 ⟨x,H1,I1,r1,q1⟩=>?_)
  exact thn (hr pos pins s1 σ H1 _ I1 q1) fun us s2 ⟨xs,H2,I2,r2,q2⟩=>⟨x :: xs,H2,I2,.cons r1 r2,q2⟩
def tTup (t:TA):TE:=fun σ H Q=>t σ H fun xs H1=>xs.length ≤ sizeLine∧∀ p,H1 p = none→Q (.ref p) (upd H1 p (.tup xs))
def tLst (t:TA):TE:=fun σ H Q=>t σ H fun xs H1=>xs.length ≤ sizeLine∧∀ p,H1 p = none→Q (.ref p) (upd H1 p (.lst xs))
theorem pe_tup {x1} (h:PA X es t):PE X (.Tuple es x1 pos) (tTup t):=by
  intro pins s σ H Q I hq
  refine wpAny_Tuple_spliced (thn (h pos pins s σ H _ I hq) fun us s1 ⟨xs,H1,I1,r,z,q⟩=>⟨by rw [← r.length]; exact z,?_⟩)
  have hf:H1 s1.heap.objs.size = none:=I1.hok.fresh (Nat.le_refl _)
  refine ⟨.ref s1.heap.objs.size,upd H1 s1.heap.objs.size (.tup xs),I1.laid (t':=s1.toks) (fun b u e=>Heap.get?_push_of_some _ e) (Nat.le_refl _) ?_,rfl,q _ hf⟩
  exact ⟨z,us,r,⟨_,Heap.get?_push_size _ rfl,rfl,_,rfl⟩⟩
theorem pe_lst (h:PA X es t):PE X (.List es pos) (tLst t):=by
  intro pins s σ H Q I hq
  refine wpAny_List_spliced (thn (h pos pins s σ H _ I hq) fun us s1 ⟨xs,H1,I1,r,z,q⟩=>⟨by rw [← r.length]; exact z,?_⟩)
  have hf:H1 s1.heap.objs.size = none:=I1.hok.fresh (Nat.le_refl _)
  refine ⟨.ref s1.heap.objs.size,upd H1 s1.heap.objs.size (.lst xs),I1.laid (t':=s1.toks) (fun b u e=>Heap.get?_push_of_some _ e) (Nat.le_refl _) ?_,rfl,q _ hf⟩
  exact ⟨z,us,0,r,Heap.get?_push_size _ rfl⟩
end
abbrev Sp:=List V→Hp→VK→XK→Prop
abbrev CXT:=List Env→Hp→Shared→XK→Value→Shared→Prop
structure Env0 (P:Program) (w:World) (K:PySem.W.Frag) (mg:Str→Option Value) (base:Heap) (A:Around) (outer:List Env) (s:Shared) (H:Hp):Prop where
  frames:A.frames = some outer
  mod:Mod K mg base
  bs:∀ b o,base.get? b = some o→s.heap.get? b = some o∧H b = none
  bsz:base.objs.size ≤ s.heap.objs.size
  funs:s.heap.FunFrames base outer
  frf:∀ b ∈ frs outer,H b = none
  hok:HOk P w H s.heap
  bare:AllBare s.gens
def CE (outer:List Env) (P:Program) (w:World) (H:Hp) (s:Shared) (Q:VK) (u:Value) (s':Shared):Prop :=
  ∃ v H',s'.os = s.os∧AllBare s'.gens∧Un (frs outer) [] H H' s.heap s'.heap∧HOk P w H' s'.heap∧RelV v u∧Q v H'
def CR (CX:CXT) (outer:List Env) (P:Program) (w:World) (H:Hp) (s:Shared) (Q:VK) (E:XK) (r:Result) (s':Shared):Prop :=
  match r with
  | .ok (.ret u)=>CE outer P w H s Q u s'
  | .ok _=>False
  | .error e=>CX outer H s E e s'
structure FnOk (P:Program) (w:World) (K:PySem.W.Frag) (mg:Str→Option Value) (base:Heap) (CX:CXT) (k:Nat) (f:Addr) (fd:FuncData) (ps:List Str) (sp:Sp):Prop where
  len:∀ vs H Q E,sp vs H Q E→vs.length = ps.length
  run:∀ (A:Around) (outer:List Env) (s:Shared) (H:Hp) (args:Args) (us:List Value) (vs:List V) (Q:VK) (E:XK),Room k A→Env0 P w K mg base A outer s H→BindsTo s fd args (ps.zip us)→Vals vs us→sp vs H Q E →
    codeAny (model P w) A (.call (.ref f) args) (CR CX outer P w H s Q E) s
theorem FnOk.mono {P:Program} {w:World} {K:PySem.W.Frag} {mg:Str→Option Value} {base:Heap} {CX:CXT} {j k:Nat} {f:Addr} {fd:FuncData} {ps:List Str} {sp:Sp} (F:FnOk P w K mg base CX j f fd ps sp) (h:j ≤ k) :
    FnOk P w K mg base CX k f fd ps sp:=⟨F.len,fun A outer s H args us vs Q E hr=>F.run A outer s H args us vs Q E (hr.mono h)⟩
theorem Env0.make {P:Program} {w:World} {K:PySem.W.Frag} {mg:Str→Option Value} {base:Heap} {A:Around} {outer:List Env} {s:Shared} {H:Hp} (e:Env0 P w K mg base A outer s H) (C:Addr) (us:List Value) (kw:List (Str × Value)) :
    Env0 P w K mg base (A.under (.builtin "type.__call__" ⟨.ref C :: us,kw⟩)) outer s H:=⟨by first | exact e.frames | (simpa [Around.under,Code.envs,Code.isFrame,pushEnvs] using e.frames),e.mod,e.bs,e.bsz,e.funs,e.frf,e.hok,e.bare⟩
section
variable {X:Cx} {pins:List (Addr × Obj)} {σ:St} {H:Hp} {s s':Shared}
theorem Inv.env0 (I:Inv X pins σ H s):Env0 X.prog X.w X.K X.mg X.base X.A X.stack s H :=
  ⟨I.ok.frames,I.ok.mod,I.bs,Nat.le_trans I.ok.bsz I.sz,I.stack,I.stkFree,I.hok,I.bare⟩
theorem Inv.after {Q:VK} {u:Value} (I:Inv X pins σ H s) (h:CE X.stack X.prog X.w H s Q u s'):EP X pins σ Q u s':=by
  obtain ⟨v,H',os,bare,un,hok,r,q⟩:=h
  obtain ⟨hh,g,d,t,os'⟩:=s'
  obtain rfl:os' = s.os:=os
  exact ⟨v,H',I.call (h':=hh) (g':=g) (d':=d) (t':=t) (ch:=[]) un hok bare (fun b z=>absurd z (by simp)),r,q⟩
end
def tCall (sp:Sp) (dvs:List V) (E:XK) (t:TA):TE:=fun σ H Q=>t σ H fun vs H1=>sp (vs ++ dvs) H1 Q E
def tMeth (C:Addr) (m:Str) (sp:Sp) (dvs:List V) (E:XK) (ta:TE) (t:TA):TE:=fun σ H Q=>ta σ H fun x H1=>∃ a dx fs,x = .ref a∧H1 a = some (.ins C dx fs)∧fs.lookup m = none ∧
  t σ H1 fun vs H2=>sp (x :: (vs ++ dvs)) H2 Q E
def tMake (C:Addr) (sp:Sp) (dvs:List V) (E:XK) (t:TA):TE:=fun σ H Q=>t σ H fun vs H1=>∀ x dx,H1 x = none→H1 dx = none→dx ≠ x →
  sp (.ref x :: (vs ++ dvs)) (upd (upd H1 dx (.own x)) x (.ins C dx [])) (fun v H2=>v = .non∧Q (.ref x) H2) E
def Binds (K:PySem.W.Frag) (fd:FuncData) (ps:List Str) (ds:List Value):Prop :=
  ∀ (s:Shared) (us:List Value),K.In s.heap→(us ++ ds).length = ps.length→BindsTo s fd ⟨us,[]⟩ (ps.zip (us ++ ds))
theorem Binds.all {K:PySem.W.Frag} {fd:FuncData} {ps:List Str} (h:∀ us:List Value,us.length = ps.length→bindArgs fd ⟨us,[]⟩ = pure (ps.zip us)):Binds K fd ps []:=fun s us _ hl=>by
  rw [List.append_nil] at hl ⊢
  exact .of_eq (h us hl)
def Passes (CX:CXT) (X:Cx) (E:XK):Prop:=∀ (pins:List (Addr × Obj)) (σ:St) (H:Hp) (s:Shared) (e:Value) (s':Shared),Inv X pins σ H s→CX X.stack H s E e s'→X.xe e s'
section
variable {X:Cx} {CX:CXT} {k:Nat} {f C:Addr} {fd:FuncData} {ps:List Str} {sp:Sp} {dvs:List V} {ds:List Value} {E:XK} {x m:Str} {p pos apos:Pos} {e o:Expr} {es:List Expr} {ta:TE} {t:TA}
theorem run_fn {pins:List (Addr × Obj)} {σ:St} {H:Hp} {s:Shared} {Q:VK} {us:List Value} {vs:List V} (F:FnOk X.prog X.w X.K X.mg X.base CX k f fd ps sp) (hr:Room k X.A) (hb:Binds X.K fd ps ds) (hd:Vals dvs ds) (hx:Passes CX X E)
    (I:Inv X pins σ H s) (r:Vals vs us) (h:sp (vs ++ dvs) H Q E):wpAny (model X.prog X.w) X.A (call (.ref f) us) (EP X pins σ Q) X.xe s:=by
  have r2:Vals (vs ++ dvs) (us ++ ds):=r.append hd
  have hl:(us ++ ds).length = ps.length:=by rw [← r2.length]; exact F.len _ _ _ _ h
  refine wpAny_call (codeAny_mono (F.run X.A X.stack s H ⟨us,[]⟩ (us ++ ds) (vs ++ dvs) Q E hr I.env0 (hb s us I.kIn hl) r2 h) fun r s' hq=>?_)
  cases r with
  | error e=>exact hx pins σ H s e s' I hq
  | ok fl =>
    cases fl with
    | ret u=>exact I.after hq
    | next=>exact False.elim hq
    | brk=>exact False.elim hq
    | cont=>exact False.elim hq
theorem pe_call (F:FnOk X.prog X.w X.K X.mg X.base CX k f fd ps sp) (hr:Room k X.A) (hg:Gl X x) (hm:X.mg x = some (.ref f)) (hk:PySem.W.keepIn X.K (.ref f) = true) (hb:Binds X.K fd ps ds) (hd:Vals dvs ds) (hx:Passes CX X E)
    (ha:PA X (e :: es) t) (hdb:(x == ("__debug__":Str)) = false:=by decide) (he:starEach (e :: es) X.env = (false,eval e X.env) :: starEach es X.env:=by rfl) (hpl:(backTo pos (starEach es X.env)).any (·.1) = false:=by rfl) :
    PE X (.Call (.Name x p) (e :: es) [] pos) (tCall sp dvs E t):=by
  intro pins s σ H Q I h
  refine wpAny_Call_Name_kw (ld_glob I hg hm ?_ hdb)
  refine PySem.W.callWith_K (h₀:=X.base) I.ok.mod.kin hk (thn (ha pos pins s σ H _ I h) fun us s1 ⟨vs,H1,I1,r,q⟩=>⟨I1.kIn,?_⟩) he hpl
  exact run_fn F hr hb hd hx I1 r q
theorem pe_meth {pl:Sem Bool} (he:PE X o ta) (c:Cls X.K C) (hm:Meth X.K C m f) (F:FnOk X.prog X.w X.K X.mg X.base CX k f fd ps sp) (hr:Room k X.A) (hb:Binds X.K fd ps ds) (hd:Vals dvs ds) (hx:Passes CX X E) (ha:PA X (e :: es) t)
    (hst:starEach (e :: es) X.env = (false,eval e X.env) :: starEach es X.env:=by rfl) (hpl:(backTo pos (starEach es X.env)).any (·.1) = false:=by rfl)
    (ht:eval (.Call (.Attribute o m apos) (e :: es) [] pos) X.env = (do
      let ov ← eval o X.env
      standAt apos.atName
      let (f,first) ← holding [ov] (getMethod ov m pl)
      callWith pos f first (backTo pos (starEach (e :: es) X.env)) (backToKw pos (keywordEach [] X.env))):=by rfl) :
    PE X (.Call (.Attribute o m apos) (e :: es) [] pos) (tMeth C m sp dvs E ta t):=by
  intro pins s σ H Q I h
  refine PySem.W.methodCall_KW (pl:=pl) (thn (he pins s σ H _ I h) fun u s1 ⟨x,H1,I1,rx,a,dx,fs,ex,ea,l,q⟩=>?_) ht
  subst ex
  obtain rfl:u = Value.ref a:=rx
  refine getmeth_ok I1 ea c hm l ?_
  refine PySem.W.callWith_K (first:=[.ref a]) (h₀:=X.base) I.ok.mod.kin hm.kp (thn (ha pos pins s1 σ H1 _ I1 q) fun us s2 ⟨vs,H2,I2,r,q2⟩=>⟨I2.kIn,?_⟩) hst hpl
  exact run_fn (us:=.ref a :: us) (vs:=.ref a :: vs) F hr hb hd hx I2 (.cons rfl r) q2
theorem pe_meth0 {pl:Sem Bool} (he:PE X o ta) (c:Cls X.K C) (hm:Meth X.K C m f) (F:FnOk X.prog X.w X.K X.mg X.base CX k f fd ps sp) (hr:Room k X.A) (hb:Binds X.K fd ps ds) (hd:Vals dvs ds) (hx:Passes CX X E)
    (ht:eval (.Call (.Attribute o m apos) [] [] pos) X.env = (do
      let ov ← eval o X.env
      standAt apos.atName
      let (f,first) ← holding [ov] (getMethod ov m pl)
      callWith pos f first (backTo pos (starEach [] X.env)) (backToKw pos (keywordEach [] X.env))):=by rfl) :
    PE X (.Call (.Attribute o m apos) [] [] pos) (tMeth C m sp dvs E ta tNil):=by
  intro pins s σ H Q I h
  refine PySem.W.methodCall_KW (pl:=pl) (thn (he pins s σ H _ I h) fun u s1 ⟨x,H1,I1,rx,a,dx,fs,ex,ea,l,q⟩=>?_) ht
  subst ex
  obtain rfl:u = Value.ref a:=rx
  refine getmeth_ok I1 ea c hm l ?_
  exact PySem.W.callWith_K0 (first:=[.ref a]) I1.kIn hm.kp (run_fn (us:=[.ref a]) (vs:=[.ref a]) F hr hb hd hx I1 (.cons rfl .nil) q)
structure Mk (K:PySem.W.Frag) (C f:Addr):Prop where
  makes:PySem.W.makesIn K C = true
  init:PySem.W.findIn K (.ref C) "__init__" = some (some (.ref f))
  fn:PySem.W.isFn K (.ref f) = true
  kp:PySem.W.keepIn K (.ref C) = true
theorem run_make {pins:List (Addr × Obj)} {σ:St} {H:Hp} {s:Shared} {Q:VK} {us:List Value} {vs:List V} (M:Mk X.K C f) (F:FnOk X.prog X.w X.K X.mg X.base CX k f fd ps sp) (hr:Room (k + 1) X.A) (hb:Binds X.K fd ps ds) (hd:Vals dvs ds)
    (hx:Passes CX X E) (I:Inv X pins σ H s) (r:Vals vs us)
    (h:∀ x dx,H x = none→H dx = none→dx ≠ x→sp (.ref x :: (vs ++ dvs)) (upd (upd H dx (.own x)) x (.ins C dx [])) (fun v H2=>v = .non∧Q (.ref x) H2) E) :
    wpAny (model X.prog X.w) X.A (call (.ref C) us) (EP X pins σ Q) X.xe s:=by
  have hq:=h (s.heap.objs.size + 1) s.heap.objs.size (I.hok.fresh (Nat.le_succ _)) (I.hok.fresh (Nat.le_refl _)) (Nat.ne_of_lt (Nat.lt_succ_self _))
  have I2:=Inv.made (C:=C) I
  have r2:Vals (V.ref (s.heap.objs.size + 1) :: (vs ++ dvs)) (Value.ref (s.heap.objs.size + 1) :: (us ++ ds)):=.cons rfl (r.append hd)
  have hl:(Value.ref (s.heap.objs.size + 1) :: us ++ ds).length = ps.length:=by
    have e:=r2.length
    rw [F.len _ _ _ _ hq] at e
    exact e.symm
  refine wpAny_call (make_map (f:=f) I.kIn M.makes M.init (beq_iff_eq.mp M.fn) (codeAny_mono (F.run _ X.stack _ _ ⟨Value.ref (s.heap.objs.size + 1) :: us,[]⟩ (Value.ref (s.heap.objs.size + 1) :: (us ++ ds)) _ _ E (hr.make C us [])
    (I2.env0.make C us []) (hb _ (Value.ref (s.heap.objs.size + 1) :: us) I2.kIn hl) r2 hq) fun r s' hq'=>?_))
  cases r with
  | error e=>exact hx pins σ _ _ e s' I2 hq'
  | ok fl =>
    cases fl with
    | ret u =>
      obtain ⟨v,H',I3,rv,ev,q3⟩:=I2.after hq'
      subst ev
      exact ⟨rv,⟨V.ref (s.heap.objs.size + 1),H',I3,rfl,q3⟩⟩
    | next=>exact False.elim hq'
    | brk=>exact False.elim hq'
    | cont=>exact False.elim hq'
theorem pe_make (M:Mk X.K C f) (F:FnOk X.prog X.w X.K X.mg X.base CX k f fd ps sp) (hr:Room (k + 1) X.A) (hg:Gl X x) (hm:X.mg x = some (.ref C)) (hb:Binds X.K fd ps ds) (hd:Vals dvs ds) (hx:Passes CX X E)
    (ha:PA X (e :: es) t) (hdb:(x == ("__debug__":Str)) = false:=by decide) (he:starEach (e :: es) X.env = (false,eval e X.env) :: starEach es X.env:=by rfl) (hpl:(backTo pos (starEach es X.env)).any (·.1) = false:=by rfl) :
    PE X (.Call (.Name x p) (e :: es) [] pos) (tMake C sp dvs E t):=by
  intro pins s σ H Q I h
  refine wpAny_Call_Name_kw (ld_glob I hg hm ?_ hdb)
  refine PySem.W.callWith_K (h₀:=X.base) I.ok.mod.kin M.kp (thn (ha pos pins s σ H _ I h) fun us s1 ⟨vs,H1,I1,r,q⟩=>⟨I1.kIn,?_⟩) he hpl
  exact run_make M F hr hb hd hx I1 r q
end
def PK (X:Cx) (kws:List Keyword) (t:TA):Prop :=
  ∀ (pos:Pos) (pins:List (Addr × Obj)) (s:Shared) (σ:St) (H:Hp) (Q:List V→Hp→Prop),Inv X pins σ H s→t σ H Q→wpAny (model X.prog X.w) X.A (evalAll ((backToKw pos (keywordEach kws X.env)).map (·.2))) (AP X pins σ Q) X.xe s
section
variable {X:Cx} {CX:CXT} {k:Nat} {f C:Addr} {fd:FuncData} {ps ks:List Str} {sp:Sp} {E:XK} {x m:Str} {p pos apos kpos:Pos} {e o:Expr} {es:List Expr} {kws:List Keyword} {te ta:TE} {t tk:TA} {nm:Option Str}
theorem pk_nil:PK X [] tNil:=fun _ _ _ _ H Q I h=>wpAny_evalAll_nil ⟨[],H,I,.nil,h⟩
theorem pk_cons (ha:PE X e te) (hr:PK X kws t):PK X (⟨nm,e,kpos⟩ :: kws) (tCons te t):=by
  intro pos pins s σ H Q I h
  show wpAny _ _ (evalAll ((do let v ← eval e X.env; standAt pos; pure v) :: (backToKw pos (keywordEach kws X.env)).map (·.2))) _ _ s
  refine wpAny_evalAll_cons (wpAny_bind (thn (ha pins s σ H _ I h) fun u s1 ⟨x,H1,I1,r1,q1⟩=>wpAny_bind (wpAny_standAt (wpAny_pure ?_))))
  exact thn (hr pos pins s1 σ H1 _ I1 q1) fun us s2 ⟨xs,H2,I2,r2,q2⟩=>⟨x :: xs,H2,I2,.cons r1 r2,q2⟩
structure KBinds (K:PySem.W.Frag) (fd:FuncData) (ps ks:List Str) (g:List Value→List Value→List Value) (gV:List V→List V→List V):Prop where
  to:∀ (s:Shared) (us ws:List Value),K.In s.heap→(g us ws).length = ps.length→BindsTo s fd ⟨us,ks.zip ws⟩ (ps.zip (g us ws))
  rel:∀ {vs:List V} {us:List Value} {zs:List V} {ws:List Value},Vals vs us→Vals zs ws→Vals (gV vs zs) (g us ws)
variable {g:List Value→List Value→List Value} {gV:List V→List V→List V}
end
structure FnScope (N P:List Str) (sc:Scope):Prop where
  kind:sc.kind = .function
  co:sc.isCoroutine = false
  gen:sc.isGenerator = false
  nd:N.Nodup
  pre:N.take P.length = P
  par:∀ x ∈ P,sc.names.lookup x = some .local∨sc.names.lookup x = some .cell
  nofree:∀ y ∈ sc.names,y.2 ≠ .free
theorem bindL_out {kindOf:Str→Option NameKind} {x:Str}:∀ {binds:List (Str × Value)} {m:Str→Option Value},(∀ v,(x,v) ∉ binds)→bindL kindOf binds m x = m x
  | [],_,_=>rfl
  | (n,v) :: r,m,h=>by
    unfold bindL
    rw [bindL_out fun w hw=>h w (List.mem_cons_of_mem _ hw)]
    split
    · have:x ≠ n:=by rintro rfl; exact h v List.mem_cons_self
      simp [this]
    · rfl
theorem bindC_out {kindOf:Str→Option NameKind} {x:Str}:∀ {binds:List (Str × Value)} {m:Str→Option Value},(∀ v,(x,v) ∉ binds)→bindC kindOf binds m x = m x
  | [],_,_=>rfl
  | (n,v) :: r,m,h=>by
    unfold bindC
    rw [bindC_out fun w hw=>h w (List.mem_cons_of_mem _ hw)]
    split
    · rfl
    · have:x ≠ n:=by rintro rfl; exact h v List.mem_cons_self
      simp [this]
theorem bindL_get {kindOf:Str→Option NameKind} {x:Str} {v:Value}:∀ {P:List Str} {vs:List Value} {i:Nat} {m:Str→Option Value},P.Nodup→P[i]? = some x→vs[i]? = some v→kindOf x = some .local →
    bindL kindOf (P.zip vs) m x = some v
  | [],_,_,_,_,h,_,_=>by simp at h
  | _ :: _,[],_,_,_,_,h,_=>by simp at h
  | p :: P,w :: vs,0,m,nd,h1,h2,hk=>by
    simp at h1 h2; subst h1; subst h2
    show bindL kindOf ((p,w) :: P.zip vs) m p = _
    unfold bindL
    rw [bindL_out fun v hv=>(List.nodup_cons.mp nd).1 (List.of_mem_zip hv).1,if_pos hk]
    simp
  | p :: P,w :: vs,i + 1,m,nd,h1,h2,hk=>by
    show bindL kindOf ((p,w) :: P.zip vs) m x = _
    unfold bindL
    exact bindL_get (i:=i) (List.nodup_cons.mp nd).2 (by simpa using h1) (by simpa using h2) hk
theorem bindC_get {kindOf:Str→Option NameKind} {x:Str} {v:Value}:∀ {P:List Str} {vs:List Value} {i:Nat} {m:Str→Option Value},P.Nodup→P[i]? = some x→vs[i]? = some v→kindOf x ≠ some .local →
    bindC kindOf (P.zip vs) m x = some v
  | [],_,_,_,_,h,_,_=>by simp at h
  | _ :: _,[],_,_,_,_,h,_=>by simp at h
  | p :: P,w :: vs,0,m,nd,h1,h2,hk=>by
    simp at h1 h2; subst h1; subst h2
    show bindC kindOf ((p,w) :: P.zip vs) m p = _
    unfold bindC
    rw [bindC_out fun v hv=>(List.nodup_cons.mp nd).1 (List.of_mem_zip hv).1,if_neg hk]
    simp
  | p :: P,w :: vs,i + 1,m,nd,h1,h2,hk=>by
    show bindC kindOf ((p,w) :: P.zip vs) m x = _
    unfold bindC
    exact bindC_get (i:=i) (List.nodup_cons.mp nd).2 (by simpa using h1) (by simpa using h2) hk
def start (N:List Str) (vs:List V):St:=vs.map some ++ List.replicate (N.length - vs.length) none
def cxOf (CX:CXT) (P:Program) (w:World) (K:PySem.W.Frag) (mg:Str→Option Value) (base:Heap) (N:List Str) (qual:Str) (scope:Scope) (f:Addr) (cd:Value) (A:Around) (outer:List Env) (s:Shared) (H:Hp) (E:XK):Cx where
  prog:=P
  w:=w
  K:=K
  mg:=mg
  base:=base
  A:=A.deeper (envOfC qual scope s.heap.objs.size f cd)
  N:=N
  s₀:=s
  H₀:=H
  env:=envOfC qual scope s.heap.objs.size f cd
  outer:=outer
  stack:=envOfC qual scope s.heap.objs.size f cd :: outer
  ex:=[]
  calm:=true
  fn:=fun _=>true
  pn:=[]
  xe:=fun e s'=>wpAny (model P w) (A.deeper (envOfC qual scope s.heap.objs.size f cd)) (leaving (envOfC qual scope s.heap.objs.size f cd) e) (fun _ s''=>CX outer H s E e s'') (fun e' s''=>CX outer H s E e' s'') s'
theorem cell_has {sc:Scope} {n:Nat} {x:Str} (h:sc.names.lookup x = some .cell):∃ c,(cellsFrom n sc.names []).lookup x = some c:=by
  have q:=PySem.W.cellsFrom_some sc.names n [] (.inl h)
  exact Option.isSome_iff_exists.mp q
theorem inv_start {CX:CXT} {P:Program} {w:World} {K:PySem.W.Frag} {mg:Str→Option Value} {base:Heap} {N ps:List Str} {qual:Str} {scope:Scope} {f:Addr} {cd:Value} {A:Around} {outer:List Env} {s s1:Shared} {H:Hp} {E:XK} {us:List Value} {vs:List V}
    (S:FnScope N ps scope) (hd:A.handled = none) (e0:Env0 P w K mg base A outer s H) (hl:vs.length = ps.length) (r:Vals vs us)
    (x:InCallC s s.heap.objs.size (bindL (envOfC qual scope s.heap.objs.size f cd).kindOf (ps.zip us) fun _=>none) (cellsFrom (s.heap.objs.size + 1) scope.names []) (bindC (envOfC qual scope s.heap.objs.size f cd).kindOf (ps.zip us) fun _=>none) s1) :
    Inv (cxOf CX P w K mg base N qual scope f cd A outer s H E) [] (start N vs) H s1:=by
  have hpl:ps.length ≤ N.length:=by have:=congrArg List.length S.pre; rw [List.length_take] at this; omega
  obtain ⟨h1,tk,rfl,hk⟩:=x.done
  have noA:∀ b:Addr,b ∉ (cxOf CX P w K mg base N qual scope f cd A outer s H E).ex:=fun b z=>absurd (show b ∈ ([]:List Addr) from z) (by simp)
  refine ⟨⟨e0.mod,S.kind,rfl,rfl,Nat.le_refl _,fun y z c h1 h2=>?_,fun y hy=>?_,fun y c _ h=>?_,fun _=>hd,Around.frames_deeper e0.frames,.inr ⟨rfl,rfl⟩,fun b z=>absurd z (noA b),e0.bs,e0.bsz,fun b _ _=>noA b,fun b z=>absurd z (noA b),e0.funs,e0.frf⟩,
    rfl,e0.bare,Un.kept hk,⟨_,x.toInCall.ns,fun i y v h1 h2 h3=>?_⟩,fun y c h=>⟨_,x.cell y c h⟩,e0.hok.fresh (Nat.le_refl _),fun y c h=>?_,fun p hp=>absurd (show p ∈ ([]:List (Addr × Obj)) from hp) (by simp),e0.hok.kept hk,?_⟩
  · exact name_of_addr x.apart (PySem.mem_of_lookup h1) (PySem.mem_of_lookup h2)
  · have hy:scope.names.lookup y = some .cell∨scope.names.lookup y = some .free:=hy
    rcases hy with hy | hy
    · exact cell_has hy
    · exact absurd rfl (S.nofree _ (PySem.mem_of_lookup hy))
  · exact Nat.le_of_lt (x.above y c (PySem.mem_of_lookup h))
  · have hi:i < vs.length:=by
      unfold start at h2
      by_cases hi:i < vs.length
      · exact hi
      · rw [List.getElem?_append_right (by simpa using hi)] at h2
        rw [List.getElem?_replicate] at h2
        split at h2 <;> cases h2
    have ha:vs[i]? = some v:=by
      unfold start at h2
      rw [List.getElem?_append_left (by simpa using hi),List.getElem?_map] at h2
      cases e:vs[i]? with
      | none=>rw [e] at h2; cases h2
      | some a=>rw [e] at h2; cases h2; rfl
    obtain ⟨u,hu,rv⟩:=r.get ha
    have hp:ps[i]? = some y:=by
      rw [← S.pre,List.getElem?_take_of_lt (by omega)]; exact h1
    have ndP:ps.Nodup:=by rw [← S.pre]; exact S.nd.sublist (List.take_sublist _ _)
    refine ⟨u,rv,?_⟩
    rcases S.par y (List.mem_of_getElem? hp) with k | k
    · exact .inl ⟨k,bindL_get ndP hp hu k⟩
    · obtain ⟨c,e⟩:=cell_has (n:=s.heap.objs.size + 1) k
      refine .inr ⟨.inl k,c,e,?_⟩
      have q:=x.cell y c e
      rw [bindC_get ndP hp hu (by show scope.names.lookup y ≠ _; rw [k]; decide)] at q
      exact q
  · exact e0.hok.fresh (Nat.le_of_lt (x.above y c (PySem.mem_of_lookup h)))
  · unfold start
    show _ = N.length
    rw [List.length_append,List.length_map,List.length_replicate]
    omega
theorem fn_of {CX:CXT} {P:Program} {w:World} {K:PySem.W.Frag} {mg:Str→Option Value} {base:Heap} {k:Nat} {f:Addr} {name qual:Str} {params:Arguments} {body:List Stmt} {scope:Scope} {dV kV doc pm cdv ct oc:Value} {an od:Option Addr}
    {osl:Array (Option Value)} {N ps:List Str} {sp:Sp} (lk:K.lookup f = some ⟨oc,od,.func (PySem.W.fnOf name qual params body scope dV kV doc pm an cdv ct),osl⟩) (hcd:PySem.W.codeIn K cdv qual = true) (S:FnScope N ps scope)
    (len:∀ vs H Q E,sp vs H Q E→vs.length = ps.length)
    (hbody:∀ (A:Around) (outer:List Env) (s:Shared) (H:Hp) (vs:List V) (Q:VK) (E:XK),Room k (A.deeper (envOfC qual scope s.heap.objs.size f cdv))→sp vs H Q E →
      ∃ t,PSs (cxOf CX P w K mg base N qual scope f cdv A outer s H E) body t∧t { nx:=fun _ H'=>Q .non H',rt:=Q } (start N vs) H) :
    FnOk P w K mg base CX (k + 1) f (PySem.W.fnOf name qual params body scope dV kV doc pm an cdv ct) ps sp:=by
  refine ⟨len,fun A outer s H args us vs Q E hr e0 hb r hsp=>?_⟩
  have hl:=len _ _ _ _ hsp
  have KX:K.In s.heap:=e0.mod.kin.keeps fun b o e=>(e0.bs b o e).1
  have lim:s.heap.NoLimit:=e0.mod.nolimit.keeps fun b o e=>(e0.bs b o e).1
  have hkind:∀ y ∈ ps.zip us,scope.names.lookup y.1 = some .local∨(scope.names.lookup y.1 = some .cell∧((cellsFrom (s.heap.objs.size + 1) scope.names []).lookup y.1).isSome = true):=fun ⟨n,v⟩ hy=>by
    rcases S.par n (List.of_mem_zip hy).1 with q | q
    · exact .inl q
    · exact .inr ⟨q,PySem.W.cellsFrom_some _ _ _ (.inl q)⟩
  refine codeAny_call_function hr.depth (KX _ _ lk) rfl S.co S.gen rfl (PySem.W.codeRec_of KX hcd) (hb _ _ _ _ ?_)
  refine wpAny_newFunctionEnv_cells S.kind hkind fun env he s1 x=>?_
  subst he
  refine ⟨lim.keeps x.toInCall.keep,codeAny_func ?_⟩
  obtain ⟨t,ht,hq⟩:=hbody A outer s H vs Q E (hr.deeper _) hsp
  have I:Inv (cxOf CX P w K mg base N qual scope f cdv A outer s H E) [] (start N vs) H s1:=inv_start S hr.hd e0 hl r x
  refine wpAny_mono (ht [] s1 (start N vs) H _ I hq) (fun fl s' hs=>?_) fun e s' hs=>hs
  have fin:∀ {σ':St} {H':Hp} {v:V} {u:Value},Inv (cxOf CX P w K mg base N qual scope f cdv A outer s H E) [] σ' H' s'→RelV v u→Q v H'→CE outer P w H s Q u s' :=
    fun {σ' H' v u} J rv q=>⟨v,H',J.os,J.bare,J.base,J.hok,rv,q⟩
  cases fl with
  | ret u =>
    obtain ⟨v,σ',H',J,rv,q⟩:=hs
    exact fin J rv q
  | next =>
    obtain ⟨σ',H',J,q⟩:=hs
    exact fin (v:=V.non) (u:=Value.none) J rfl q
  | brk =>
    obtain ⟨_,_,_,q⟩:=hs
    exact False.elim q
  | cont =>
    obtain ⟨_,_,_,q⟩:=hs
    exact False.elim q
end L2
namespace L2
open PySem PySem.Spec PyProof.Rows
section
variable {X:Cx} {x:Str} {p pos:Pos} {e:Expr} {es:List Expr} {t:TA} {id T:String} {r:List V→Hp→VK→Prop}
def tCB (r:List V→Hp→VK→Prop) (t:TA):TE:=fun σ H Q=>t σ H fun vs H1=>r vs H1 Q
theorem pe_callB (hc:CallR X (.builtin id) r) (hg:Gl X x) (hm:X.mg x = none) (hv:bootBuiltins x = some (.builtin id)) (ha:PA X (e :: es) t) (hn:x ≠ "__name__":=by decide) (hdb:(x == ("__debug__":Str)) = false:=by decide)
    (he:starEach (e :: es) X.env = (false,eval e X.env) :: starEach es X.env:=by rfl) (hpl:(backTo pos (starEach es X.env)).any (·.1) = false:=by rfl):PE X (.Call (.Name x p) (e :: es) [] pos) (tCB r t):=by
  intro pins s σ H Q I h
  refine wpAny_Call_Name_kw (ld_blt I hg hm hv ?_ hn hdb)
  exact PyProof.Rows.callWith_builtin1 (thn (ha pos pins s σ H _ I h) fun us s1 ⟨vs,H1,I1,r1,q1⟩=>hc pins s1 σ H1 vs us Q I1 r1 q1) he hpl
theorem pe_callTy (hc:CallR X (.type T) r) (hg:Gl X x) (hm:X.mg x = none) (hv:bootBuiltins x = some (.type T)) (ha:PA X (e :: es) t) (hn:x ≠ "__name__":=by decide) (hdb:(x == ("__debug__":Str)) = false:=by decide)
    (he:starEach (e :: es) X.env = (false,eval e X.env) :: starEach es X.env:=by rfl) (hpl:(backTo pos (starEach es X.env)).any (·.1) = false:=by rfl):PE X (.Call (.Name x p) (e :: es) [] pos) (tCB r t):=by
  intro pins s σ H Q I h
  refine wpAny_Call_Name_kw (ld_blt I hg hm hv ?_ hn hdb)
  exact PyProof.Rows.callWith_type1 (thn (ha pos pins s σ H _ I h) fun us s1 ⟨vs,H1,I1,r1,q1⟩=>hc pins s1 σ H1 vs us Q I1 r1 q1) he hpl
end
end L2
namespace HT
open PySem PyProof.Rows
section
open PySem.SeqAt
open PySem.AutoSeq1 (wpAny_loadPart')
open PySem.MeetsSeq PySem.MeetsSeq2 PySem.MeetsSeq3
end
section
variable {prog:Program} {w:World} {A:Around} {E:Value→Shared→Prop} {s:Shared}
def sIx (n d:Nat):Option Int→Nat
  | none=>d
  | some v=>if v < 0 then (v + (n:Int)).toNat else min v.toNat n
theorem sIx_nat (n d k:Nat):sIx n d (some (k:Int)) = min k n:=by
  show (if (k:Int) < 0 then ((k:Int) + (n:Int)).toNat else min (k:Int).toNat n) = min k n
  rw [if_neg (by omega),Int.toNat_natCast]
end
end HT
namespace L2
open PySem PySem.Spec PyProof.Rows
abbrev TO:=St→Hp→(Option Int→Hp→Prop)→Prop
def PO (X:Cx) (e:Option Expr) (t:TO):Prop :=
  ∀ (pins:List (Addr × Obj)) (s:Shared) (σ:St) (H:Hp) (Q:Option Int→Hp→Prop),Inv X pins σ H s→t σ H Q →
    wpAny (model X.prog X.w) X.A (evalPart e X.env) (fun u s'=>∃ o H',Inv X pins σ H' s'∧IsPart u o∧Q o H') X.xe s
def tPart (t:TE):TO:=fun σ H Q=>t σ H fun x H1=>∃ i,x = .int i∧Q (some i) H1
section
variable {X:Cx} {e:Expr} {te:TE} {lo hi:Option Expr} {tl th:TO} {pos p2:Pos}
theorem po_some (h:PE X e te):PO X (some e) (tPart te):=by
  intro pins s σ H Q I hw
  rw [evalPart_some]
  refine thn (h pins s σ H _ I hw) fun u s1 ⟨x,H1,I1,r1,q1⟩=>?_
  obtain ⟨i,rfl,q⟩:=q1
  obtain ⟨t,rfl⟩:=r1
  exact ⟨some i,H1,I1,.int i t,q⟩
def SlR (X:Cx) (r:V→Option Int→Option Int→Hp→VK→Prop):Prop :=
  ∀ (pins:List (Addr × Obj)) (s:Shared) (σ:St) (H:Hp) (x:V) (v vl vu:Value) (lo hi:Option Int) (sl:Addr) (Q:VK),Inv X pins σ H s→RelV x v→s.heap.IsSliceOf sl vl vu .none→IsPart vl lo→IsPart vu hi→r x lo hi H Q →
    ∃ T id,typeLookup (.type T) "__getitem__" = pure (some (.builtin id))∧s.TypeIs v T∧wpAny (model X.prog X.w) X.A (getItem v (.ref sl)) (EP X pins σ Q) X.xe s
def tSl (r:V→Option Int→Option Int→Hp→VK→Prop) (te:TE) (tl th:TO):TE:=fun σ H Q=>te σ H fun x H1=>tl σ H1 fun l H2=>th σ H2 fun u H3=>r x l u H3 Q
theorem pe_slice {r:V→Option Int→Option Int→Hp→VK→Prop} (hr:SlR X r) (he:PE X e te) (hl:PO X lo tl) (hu:PO X hi th):PE X (.Subscript e (.Slice lo hi none p2) pos) (tSl r te tl th):=by
  intro pins s σ H Q I h
  refine Subscript_ (thn (he pins s σ H _ I h) fun v s1 ⟨x,H1,I1,r1,q1⟩=>?_)
  refine wpAny_Slice (thn (hl pins s1 σ H1 _ I1 q1) fun vl s2 ⟨l,H2,I2,pl,q2⟩=>thn (hu pins s2 σ H2 _ I2 q2) fun vu s3 ⟨u,H3,I3,pu,q3⟩=>?_)
  rw [evalPart_none]
  refine wpAny_pure ?_
  have I4:Inv X pins σ H3 { s3 with heap:=s3.heap.push { cls:=.type "slice",data:=.fields #[vl,vu,.none] } }:=I3.kept (t':=s3.toks) fun b ob q=>Heap.get?_push_of_some _ q
  obtain ⟨T,id,hT,ht,hg⟩:=hr pins { s3 with heap:=s3.heap.push { cls:=.type "slice",data:=.fields #[vl,vu,.none] } } σ H3 x v vl vu l u s3.heap.objs.size Q I4 r1 (Heap.IsSliceOf.new ..) pl pu q3
  show wpAny (model X.prog X.w) X.A (subscriptTail e (.Slice lo hi none p2) v (.ref s3.heap.objs.size)) (EP X pins σ Q) X.xe { s3 with heap:=s3.heap.push { cls:=.type "slice",data:=.fields #[vl,vu,.none] } }
  exact tail_any (ops:=[.ref s3.heap.objs.size,v]) ht hT hg (by with_unfolding_all rfl)
def cutV (xs:List V) (lo hi:Option Int):List V:=(xs.drop (HT.sIx xs.length 0 lo)).take (HT.sIx xs.length xs.length hi - HT.sIx xs.length 0 lo)
theorem cutV_length (xs:List V) (lo hi:Option Int):(cutV xs lo hi).length ≤ xs.length:=by
  unfold cutV
  rw [List.length_take,List.length_drop]
  omega
end
end L2
namespace L2
open PySem PySem.Spec PyProof.Rows
def ixN (n:Nat) (i:Int):Option Nat:=if 0 ≤ i then (if i < n then some i.toNat else none) else if -(n:Int) ≤ i then some (i + n).toNat else none
def atI {α:Type} (xs:List α) (i:Int):Option α:=(ixN xs.length i).bind fun j=>xs[j]?
theorem ixN_seq {n:Nat} {i:Int} {j:Nat} (h:ixN n i = some j):seqIndex? i n = some j∧j < n∧-(n:Int) ≤ i∧i < n:=by
  unfold ixN at h
  by_cases h0:0 ≤ i
  · rw [if_pos h0] at h
    by_cases h1:i < n
    · rw [if_pos h1] at h
      have e:i.toNat = j:=Option.some.inj h
      exact ⟨by rw [seqIndex_of h0 h1,e],by omega,by omega,h1⟩
    · rw [if_neg h1] at h; cases h
  · rw [if_neg h0] at h
    by_cases h1:-(n:Int) ≤ i
    · rw [if_pos h1] at h
      have e:(i + n).toNat = j:=Option.some.inj h
      exact ⟨by rw [seqIndex_neg (by omega) h1,e],by omega,h1,by omega⟩
    · rw [if_neg h1] at h; cases h
theorem atI_get {α:Type} {xs:List α} {i:Int} {v:α} (h:atI xs i = some v):∃ j,seqIndex? i xs.length = some j∧xs[j]? = some v∧j < xs.length∧-(xs.length:Int) ≤ i∧i < xs.length:=by
  unfold atI at h
  cases e:ixN xs.length i with
  | none=>rw [e] at h; cases h
  | some j =>
    rw [e] at h
    obtain ⟨h1,h2,h3,h4⟩:=ixN_seq e
    exact ⟨j,h1,h,h2,h3,h4⟩
theorem atI_nat {α:Type} {xs:List α} {j:Nat} {v:α} (h:xs[j]? = some v):atI xs (j:Int) = some v:=by
  have hj:j < xs.length:=(List.getElem?_eq_some_iff.mp h).1
  have e:ixN xs.length (j:Int) = some j:=by
    unfold ixN
    rw [if_pos (by omega),if_pos (by omega)]; simp
  unfold atI; rw [e]; exact h
def PlainIx (b:Expr):Prop:=∀ o i,subscripted b false o i = operate [o,i] (getItem o i)
def IxR (X:Cx) (r:R2):Prop :=
  ∀ (value slice:Expr) (pins:List (Addr × Obj)) (s:Shared) (σ:St) (H:Hp) (x y:V) (v u:Value) (Q:VK),Inv X pins σ H s→RelV x v→RelV y u→r x y H Q →
    subscripted slice false v u = operate [v,u] (getItem v u)→wpAny (model X.prog X.w) X.A (subscriptTail value slice v u) (EP X pins σ Q) X.xe s
def MtR (X:Cx) (id:String) (r:V→List V→Hp→VK→Prop):Prop :=
  ∀ (pins:List (Addr × Obj)) (s:Shared) (σ:St) (H:Hp) (x:V) (xs:List V) (v:Value) (us:List Value) (Q:VK),Inv X pins σ H s→RelV x v→Vals xs us→r x xs H Q →
    wpAny (model X.prog X.w) X.A (call (.builtin id) (v :: us)) (EP X pins σ Q) X.xe s
section
variable {X:Cx} {a b:Expr} {ta tb:TE} {pos:Pos}
theorem pe_ix {r:R2} (hr:IxR X r) (ha:PE X a ta) (hb:PE X b tb) (hs:PlainIx b):PE X (.Subscript a b pos) (tOp r ta tb):=by
  intro pins s σ H Q I h
  exact Subscript_ (binT ha hb I h fun v u s2 x y H2 I2 rx ry q=>hr a b pins s2 σ H2 x y v u Q I2 rx ry q (hs _ _))
def rIxL (K:PySem.W.Frag):R2:=fun x y H Q=>∃ p xs i v,x = .ref p∧y = .int i∧SqL K H p xs∧atI xs i = some v∧Q v H
def rIxT (K:PySem.W.Frag):R2:=fun x y H Q=>∃ p xs i v,x = .ref p∧y = .int i∧SqT K H p xs∧atI xs i = some v∧Q v H
theorem ix_list:IxR X (rIxL X.K):=by
  intro value slice pins s σ H x y v u Q I rx ry h hs
  obtain ⟨p,xs,i,z,rfl,rfl,hq,he,q⟩:=h
  cases rx
  obtain ⟨t,rfl⟩:=ry
  obtain ⟨its,r,pl,hz⟩:=I.list hq
  obtain ⟨j,h1,h2,h3,h4,h5⟩:=atI_get he
  obtain ⟨w,ew,rw'⟩:=r.get h2
  have hl:=r.length
  have hn:=line63
  have fin:EP X pins σ Q w s:=⟨z,H,I,rw',q⟩
  by_cases h0:0 ≤ i
  · have hj:i.toNat = j:=by
      rw [seqIndex_of h0 h5] at h1
      exact Option.some.inj h1
    exact item_listR pl.isList h0 (by omega) (by rw [hj]; simpa using ew) fin hs
  · have hj:(i + (its.toArray.size:Int)).toNat = j:=by
      rw [seqIndex_neg (by omega) h4] at h1
      rw [List.size_toArray,← hl]
      exact Option.some.inj h1
    exact subscriptTail_builtinR (x:=w) pl.isList.typeIs slot_list_getitem.lookup
      (wpAny_getItem_list_neg (Q:=fun r s'=>r = w∧EP X pins σ Q r s') pl.isList (by omega) (by rw [List.size_toArray] <;> omega) (by omega) (by rw [hj]; simpa using ew) ⟨rfl,fin⟩) hs
theorem ix_tup:IxR X (rIxT X.K):=by
  intro value slice pins s σ H x y v u Q I rx ry h hs
  obtain ⟨p,xs,i,z,rfl,rfl,hq,he,q⟩:=h
  cases rx
  obtain ⟨t,rfl⟩:=ry
  obtain ⟨its,r,pl,hz⟩:=I.tuple hq
  obtain ⟨j,h1,h2,h3,h4,h5⟩:=atI_get he
  obtain ⟨w,ew,rw'⟩:=r.get h2
  have hl:=r.length
  have hn:=line63
  have fin:EP X pins σ Q w s:=⟨z,H,I,rw',q⟩
  exact subscriptTail_builtinR (x:=w) pl.typeIs slot_tuple_getitem.lookup
    (getItem_tuple (j:=j) (Q:=fun r s'=>r = w∧EP X pins σ Q r s') pl (by omega) (by omega) (by rw [List.size_toArray,← hl]; exact h1) (by simpa using ew) ⟨rfl,fin⟩) hs
theorem mapSeq_set (its:List Value) (n j:Nat) (u:Value):Obj.mapSeq (·.setIfInBounds j u) { cls:=.type "list",data:=.seq its.toArray n } = { cls:=.type "list",data:=.seq (its.set j u).toArray n }:=by
  simp [Obj.mapSeq]
theorem Inv.lst {pins:List (Addr × Obj)} {σ:St} {H:Hp} {s:Shared} {p:Addr} {xs:List V} (I:Inv X pins σ H s) (h:H p = some (.lst xs)) :
    ∃ (its:List Value) (n:Nat),Vals xs its∧s.heap.get? p = some { cls:=.type "list",data:=.seq its.toArray n }∧xs.length ≤ sizeLine:=by
  obtain ⟨z,its,n,r,e⟩:=I.hok p _ h
  exact ⟨its,n,r,e,z⟩
theorem Inv.lstUpd {pins:List (Addr × Obj)} {σ:St} {H:Hp} {s:Shared} {p:Addr} {xs ys:List V} {its its':List Value} {n n':Nat} {f:Obj→Obj} (I:Inv X pins σ H s) (h:H p = some (.lst xs))
    (ho:s.heap.get? p = some { cls:=.type "list",data:=.seq its.toArray n }) (hf:f { cls:=.type "list",data:=.seq its.toArray n } = { cls:=.type "list",data:=.seq its'.toArray n' }) (r:Vals ys its') (hz:ys.length ≤ sizeLine) (t:Nat) :
    Inv X pins σ (upd H p (.lst ys)) { s with heap:=s.heap.update p f,toks:=t }:=by
  have e:(s.heap.update p f).get? p = some { cls:=.type "list",data:=.seq its'.toArray n' }:=by
    rw [Heap.get?_update_self f ho (by rw [hf] <;> rfl),hf]
  refine I.write (x:=p) (e:=p) (by rw [h]; trivial) (.inl rfl) (fun b u hb q=>(Heap.get?_update_other _ _ (Ne.symm hb)).trans q) ⟨_,e⟩ ?_
  exact ⟨hz,its',n',r,e⟩
def rSetL:V→V→V→Hp→(Hp→Prop)→Prop:=fun o i v H Q=>∃ p xs k j,o = .ref p∧i = .int k∧H p = some (.lst xs)∧ixN xs.length k = some j∧Q (upd H p (.lst (xs.set j v)))
theorem set_list:PSet X rSetL:=by
  intro pins s σ H o i v ov iv u Q I ro ri rv h
  obtain ⟨p,xs,k,j,rfl,rfl,hp,hj,q⟩:=h
  cases ro
  obtain ⟨t,rfl⟩:=ri
  obtain ⟨its,n,r,ho,hz⟩:=I.lst hp
  obtain ⟨h1,h2,h3,h4⟩:=ixN_seq hj
  have hl:=r.length
  have hn:=line63
  have I':Inv X pins σ (upd H p (.lst (xs.set j v))) { s with heap:=s.heap.update p (Obj.mapSeq (·.setIfInBounds j u)) } :=
    I.lstUpd hp ho (mapSeq_set its n j u) (r.set rv j) (by rw [List.length_set]; exact hz) s.toks
  by_cases h0:0 ≤ k
  · have hk:k.toNat = j:=by
      rw [seqIndex_of h0 h4] at h1
      exact Option.some.inj h1
    exact PySem.W.ki_setAt ho h0 (by omega) (by rw [List.size_toArray,← hl]; exact h4) (by rw [hk]; exact ⟨_,I',q⟩)
  · have hk:(k + (its.toArray.size:Int)).toNat = j:=by
      rw [seqIndex_neg (by omega) h3] at h1
      rw [List.size_toArray,← hl]
      exact Option.some.inj h1
    exact PySem.W.ki_setBack ho (by omega) (by rw [List.size_toArray,← hl]; exact h3) (by omega) (by rw [hk]; exact ⟨_,I',q⟩)
theorem slice_bounds (lo hi:Option Int) (n:Nat):(sliceBounds lo hi none n).1 = ((HT.sIx n 0 lo:Nat):Int)∧(sliceBounds lo hi none n).2.1 = ((HT.sIx n n hi:Nat):Int)∧(sliceBounds lo hi none n).2.2 = 1:=by
  refine ⟨?_,?_,rfl⟩
  · cases lo with
    | none=>simp [sliceBounds,HT.sIx]
    | some i =>
      simp only [sliceBounds,HT.sIx,Option.getD_none,show (1:Int) > 0 by decide,if_true]
      by_cases h:i < 0
      · simp only [h,if_true] <;> omega
      · simp only [h,if_false] <;> omega
  · cases hi with
    | none=>simp [sliceBounds,HT.sIx]
    | some i =>
      simp only [sliceBounds,HT.sIx,Option.getD_none,show (1:Int) > 0 by decide,if_true]
      by_cases h:i < 0
      · simp only [h,if_true] <;> omega
      · simp only [h,if_false] <;> omega
theorem slicePick_cut (its:List Value) (lo hi:Option Int):slicePick its.toArray lo hi none = ((its.drop (HT.sIx its.length 0 lo)).take (HT.sIx its.length its.length hi - HT.sIx its.length 0 lo)).toArray:=by
  obtain ⟨h1,h2,h3⟩:=slice_bounds lo hi its.toArray.size
  unfold slicePick
  rw [h1,h2,h3]
  simp only [sliceRange_one,pick_run,List.size_toArray] <;> rfl
def rSlL (K:PySem.W.Frag):V→Option Int→Option Int→Hp→VK→Prop:=fun x lo hi H Q=>∃ a xs,x = .ref a∧SqL K H a xs∧∀ p,H p = none→Q (.ref p) (upd H p (.lst (cutV xs lo hi)))
theorem sl_list:SlR X (rSlL X.K):=by
  intro pins s σ H x v vl vu lo hi sl Q I rx hs pl pu h
  obtain ⟨a,xs,rfl,hx,q⟩:=h
  cases rx
  obtain ⟨its,r,ht,hz⟩:=I.list hx
  have hlen:=r.length
  refine ⟨"list",_,slot_list_getitem.lookup,ht.isList.typeIs,?_⟩
  refine wpAny_getItem_list_slice ht.isList hs pl pu .none (by simp) ?_ (by rw [List.size_toArray] <;> omega)
  rw [slicePick_cut,← hlen]
  refine ⟨.ref s.heap.objs.size,_,I.laid (t':=s.toks) (o:=.lst (cutV xs lo hi)) (fun b ob q=>Heap.get?_push_of_some _ q) (Nat.le_refl _) ?_,rfl,q _ (I.hok.fresh (Nat.le_refl _))⟩
  exact ⟨Nat.le_trans (cutV_length xs lo hi) hz,_,0,(r.drop (HT.sIx xs.length 0 lo)).take (HT.sIx xs.length xs.length hi - HT.sIx xs.length 0 lo),Heap.get?_push_size _ rfl⟩
def flatV:V→Bool
  | .non=>true
  | .bl _=>true
  | .int _=>true
  | .str _=>true
  | _=>false
def eqV:V→V→Bool
  | .non,.non=>true
  | .bl a,.bl b=>a == b
  | .bl a,.int b=>(if a then 1 else 0) == b
  | .int a,.bl b=>a == (if b then 1 else 0)
  | .int a,.int b=>a == b
  | .str a,.str b=>a == b
  | _,_=>false
theorem eqAt_V {A:Around} {s:Shared} {y x:V} {u v:Value} (ry:RelV y u) (rx:RelV x v) (fy:flatV y = true) (fx:flatV x = true):SeqAt.EqAt A s u v (eqV y x):=by
  cases y with
  | non =>
    cases ry
    cases x with
    | non=>cases rx; exact SeqAt.EqAt.same _
    | bl b=>cases rx; exact SeqAt.EqAt.none_bool b
    | int b=>obtain ⟨t,rfl⟩:=rx; exact SeqAt.EqAt.none_int b t
    | str b=>obtain ⟨t,rfl⟩:=rx; exact SeqAt.EqAt.none_str b t
    | _=>exact absurd (show false = true from fx) Bool.false_ne_true
  | bl a =>
    cases ry
    cases x with
    | non=>cases rx; exact SeqAt.EqAt.bool_none a
    | bl b=>cases rx; exact SeqAt.EqAt.bool_bool a b
    | int b=>obtain ⟨t,rfl⟩:=rx; exact SeqAt.EqAt.bool_int a b t
    | str b=>obtain ⟨t,rfl⟩:=rx; exact SeqAt.EqAt.bool_str a b t
    | _=>exact absurd (show false = true from fx) Bool.false_ne_true
  | int a =>
    obtain ⟨t',rfl⟩:=ry
    cases x with
    | non=>cases rx; exact SeqAt.EqAt.int_none a t'
    | bl b=>cases rx; exact SeqAt.EqAt.int_bool a t' b
    | int b=>obtain ⟨t,rfl⟩:=rx; exact SeqAt.EqAt.int_int a t' b t
    | str b=>obtain ⟨t,rfl⟩:=rx; exact SeqAt.EqAt.int_str a t' b t
    | _=>exact absurd (show false = true from fx) Bool.false_ne_true
  | str a =>
    obtain ⟨t',rfl⟩:=ry
    cases x with
    | non=>cases rx; exact SeqAt.EqAt.str_none a t'
    | bl b=>cases rx; exact SeqAt.EqAt.str_bool a t' b
    | int b=>obtain ⟨t,rfl⟩:=rx; exact SeqAt.EqAt.str_int a t' b t
    | str b=>obtain ⟨t,rfl⟩:=rx; exact SeqAt.EqAt.str_str a t' b t
    | _=>exact absurd (show false = true from fx) Bool.false_ne_true
  | _=>exact absurd (show false = true from fy) Bool.false_ne_true
def eqU (x:V) (u:Value):Bool:=match u with
  | .none=>eqV .non x
  | .bool b=>eqV (.bl b) x
  | .int i _=>eqV (.int i) x
  | .str z _=>eqV (.str z) x
  | _=>false
theorem eqU_of {x y:V} {u:Value} (r:RelV y u) (f:flatV y = true):eqU x u = eqV y x:=by
  cases y with
  | non=>cases r; rfl
  | bl b=>cases r; rfl
  | int i=>obtain ⟨t,rfl⟩:=r; rfl
  | str z=>obtain ⟨t,rfl⟩:=r; rfl
  | _=>exact absurd (show false = true from f) Bool.false_ne_true
theorem any_eqU {x:V}:∀ {xs:List V} {us:List Value},Vals xs us→xs.all flatV = true→us.any (eqU x) = xs.any fun y=>eqV y x
  | _,_,.nil,_=>rfl
  | y :: xs,u :: us,.cons r t,f=>by
    rw [List.all_cons,Bool.and_eq_true] at f
    rw [List.any_cons,List.any_cons,eqU_of r f.1,any_eqU t f.2]
theorem mem_eqAt {A:Around} {s:Shared} {x:V} {v:Value} (rx:RelV x v) (fx:flatV x = true):∀ {xs:List V} {us:List Value},Vals xs us→xs.all flatV = true→∀ u ∈ us,SeqAt.EqAt A s u v (eqU x u)
  | _,_,.nil,_=>fun u hu=>by cases hu
  | y :: xs,u :: us,.cons r t,f=>fun u' hu=>by
    rw [List.all_cons,Bool.and_eq_true] at f
    rcases List.mem_cons.mp hu with rfl | hu
    · rw [eqU_of r f.1]; exact eqAt_V r rx f.1 fx
    · exact mem_eqAt rx fx t f.2 u' hu
def inV (x:V) (xs:List V):Bool:=xs.any fun y=>eqV y x
def rIn (K:PySem.W.Frag) (neg:Bool):R2:=fun x y H Q=>∃ p xs,y = .ref p∧(SqL K H p xs∨SqT K H p xs)∧flatV x = true∧xs.all flatV = true∧Q (.bl (if neg then !inV x xs else inV x xs)) H
theorem op_in_seq:OpR X (compareOp .In) (rIn X.K false):=by
  intro pins s σ H x y v u Q I rx ry h
  obtain ⟨p,xs,rfl,hq,fx,fs,q⟩:=h
  cases ry
  rcases hq with hq | hq
  · obtain ⟨its,r,pl,hz⟩:=I.list hq
    refine SeqAt.in_listAt (eqU x) pl.isList (fun w hw=>mem_eqAt rx fx r fs w (by simpa using hw)) ⟨.bl _,H,I,rfl,?_⟩
    rw [show its.toArray.any (eqU x) = its.any (eqU x) by simp,any_eqU r fs]
    exact q
  · obtain ⟨its,r,pl,hz⟩:=I.tuple hq
    refine SeqAt.in_tupleAt (eqU x) pl (fun w hw=>mem_eqAt rx fx r fs w (by simpa using hw)) ⟨.bl _,H,I,rfl,?_⟩
    rw [show its.toArray.any (eqU x) = its.any (eqU x) by simp,any_eqU r fs]
    exact q
theorem call_len_seq:CallR X (.builtin "len") (fun xs H Q=>∃ p ys,xs = [.ref p]∧(SqL X.K H p ys∨SqT X.K H p ys)∧Q (.int ys.length) H):=by
  intro pins s σ H xs us Q I r h
  obtain ⟨p,ys,rfl,hq,q⟩:=h
  obtain ⟨u,rfl,rx⟩:=vals1 r
  cases rx
  have hn:=line63
  rcases hq with hq | hq
  · obtain ⟨its,r',pl,hz⟩:=I.list hq
    have hlen:=r'.length
    exact Calls.call_len_list pl.isList (by simp only [List.size_toArray] <;> omega) ⟨.int ys.length,H,I.tok _,⟨s.toks + 1,by rw [List.size_toArray,hlen]⟩,q⟩
  · obtain ⟨its,r',pl,hz⟩:=I.tuple hq
    have hlen:=r'.length
    exact len_tuple pl (by simp only [List.size_toArray] <;> omega) ⟨.int ys.length,H,I.tok _,⟨s.toks + 1,by rw [List.size_toArray,hlen]⟩,q⟩
theorem call_list_of:CallR X (.type "list") (fun xs H Q=>∃ p ys,xs = [.ref p]∧(SqL X.K H p ys∨SqT X.K H p ys)∧∀ l,H l = none→Q (.ref l) (upd H l (.lst ys))):=by
  intro pins s σ H xs us Q I r h
  obtain ⟨p,ys,rfl,hq,q⟩:=h
  obtain ⟨u,rfl,rx⟩:=vals1 r
  cases rx
  have fin:∀ (its:List Value),Vals ys its→ys.length ≤ sizeLine→∀ (h':Heap) (c':Nat),(∀ b o',s.heap.get? b = some o'→h'.get? b = some o') →
      h'.get? s.heap.objs.size = some { cls:=.type "list",dict:=none,data:=.seq its.toArray c',slots:=#[] }→EP X pins σ Q (.ref s.heap.objs.size) { s with heap:=h' }:=fun its r' hz h' c' kp e =>
    ⟨.ref s.heap.objs.size,_,I.laid (t':=s.toks) kp (Nat.le_refl _) (show ObjOk X.prog X.w _ h' _ (.lst ys) from ⟨hz,its,c',r',e⟩),rfl,q _ (I.hok.fresh (Nat.le_refl _))⟩
  rcases hq with hq | hq
  · obtain ⟨its,r',pl,hz⟩:=I.list hq
    have hlen:=r'.length
    obtain ⟨o,ho,hc,n,hd⟩:=pl.isList
    exact call_list_seq p (.inl rfl) ho hc hd (fun h' c' kp e=>fin its r' hz h' c' kp e) (by simp only [List.size_toArray] <;> omega)
  · obtain ⟨its,r',pl,hz⟩:=I.tuple hq
    have hlen:=r'.length
    obtain ⟨o,ho,hc,n,hd⟩:=pl
    exact call_list_seq p (.inr rfl) ho hc hd (fun h' c' kp e=>fin its r' hz h' c' kp e) (by simp only [List.size_toArray] <;> omega)
theorem call_tuple_of:CallR X (.type "tuple") (fun xs H Q=>∃ p ys,xs = [.ref p]∧((SqL X.K H p ys∧∀ l,H l = none→Q (.ref l) (upd H l (.tup ys)))∨(SqT X.K H p ys∧Q (.ref p) H))):=by
  intro pins s σ H xs us Q I r h
  obtain ⟨p,ys,rfl,h⟩:=h
  obtain ⟨u,rfl,rx⟩:=vals1 r
  cases rx
  rcases h with ⟨hq,q⟩ | ⟨hq,q⟩
  · obtain ⟨its,r',pl,hz⟩:=I.list hq
    have hlen:=r'.length
    refine call_tuple_list pl.isList (fun h' kp=>?_) (by simp only [List.size_toArray] <;> omega)
    have I1:Inv X pins σ H { s with heap:=h' }:=I.kept (t':=s.toks) kp
    have I2:Inv X pins σ (upd H h'.objs.size (.tup ys)) { s with heap:=h'.push { cls:=.type "tuple",data:=.seq its.toArray } } :=
      I1.laid (t':=s.toks) (fun b o e=>Heap.get?_push_of_some _ e) (Nat.le_refl _) (show ObjOk X.prog X.w _ _ _ (.tup ys) from ⟨hz,its,r',IsTup.new _ _⟩)
    exact ⟨.ref h'.objs.size,_,I2,rfl,q _ (I1.hok.fresh (Nat.le_refl _))⟩
  · obtain ⟨its,r',pl,hz⟩:=I.tuple hq
    exact call_tuple_same pl ⟨.ref p,H,I,rfl,q⟩
def tyV (K:PySem.W.Frag) (T:String) (x:V) (H:Hp):Prop:=match x with
  | .str _=>T = "str"
  | .int _=>T = "int"
  | .ref p=>(T = "list"∧∃ xs,SqL K H p xs)∨(T = "tuple"∧∃ o,K.lookup p = some o∧o.cls = .type "tuple"∧o.dict = none) ∨
      (T = "dict"∧((∃ kvs,H p = some (.dK kvs))∨∃ kvs,H p = some (.dT kvs)))∨(T = "set"∧∃ S n,H p = some (.set S n))
  | _=>False
theorem tyV_is {pins:List (Addr × Obj)} {σ:St} {H:Hp} {s:Shared} {T:String} {x:V} {v:Value} (I:Inv X pins σ H s) (r:RelV x v) (ty:tyV X.K T x H) :
    s.TypeIs v T∧∀ a,v = .ref a→∃ ob,s.heap.get? a = some ob∧ob.dict = none:=by
  cases x with
  | str z =>
    obtain ⟨t,rfl⟩:=r
    cases (show T = "str" from ty)
    exact ⟨typeIs_str s z t,fun _ e=>nomatch e⟩
  | int i =>
    obtain ⟨t,rfl⟩:=r
    cases (show T = "int" from ty)
    exact ⟨typeIs_int s i t,fun _ e=>nomatch e⟩
  | ref p =>
    cases r
    rcases ty with ⟨rfl,xs,hq⟩ | ⟨rfl,o,hk,hc,hd⟩ | ⟨rfl,hk⟩ | ⟨rfl,S,n,hk⟩
    · obtain ⟨its,_,pl,_⟩:=I.list hq
      refine ⟨pl.isList.typeIs,fun a e=>?_⟩
      cases e
      obtain ⟨o,n,e,c,hd,_⟩:=pl
      exact ⟨o,e,hd⟩
    · refine ⟨⟨o,I.kIn p o hk,hc⟩,fun a e=>?_⟩
      cases e
      exact ⟨o,I.kIn _ o hk,hd⟩
    · have z:∃ o,s.heap.get? p = some o∧o.ExactDict:=by
        rcases hk with ⟨kvs,hk⟩ | ⟨kvs,hk⟩
        · obtain ⟨_,_,_,_,o,_,_,e,ex,_⟩:=I.hok p _ hk
          exact ⟨o,e,ex⟩
        · obtain ⟨_,_,_,_,o,_,_,e,ex,_⟩:=I.hok p _ hk
          exact ⟨o,e,ex⟩
      obtain ⟨o,e,ex⟩:=z
      refine ⟨⟨o,e,ex.1⟩,fun a e2=>?_⟩
      cases e2
      exact ⟨o,e,ex.2.1⟩
    · obtain ⟨o,_,_,_,e,ex,_⟩:=I.hok p _ hk
      refine ⟨⟨o,e,ex.1⟩,fun a e2=>?_⟩
      cases e2
      exact ⟨o,e,ex.2.1⟩
  | _=>exact False.elim ty
def tBM0 (K:PySem.W.Frag) (T:String) (r:V→List V→Hp→VK→Prop) (to:TE):TE:=fun σ H Q=>to σ H fun x H1=>tyV K T x H1∧r x [] H1 Q
def tBM (K:PySem.W.Frag) (T:String) (r:V→List V→Hp→VK→Prop) (to:TE) (t:TA):TE:=fun σ H Q=>to σ H fun x H1=>tyV K T x H1∧t σ H1 fun xs H2=>r x xs H2 Q
variable {o e:Expr} {es:List Expr} {to:TE} {t:TA} {name:Str} {apos cpos:Pos} {T id:String} {r:V→List V→Hp→VK→Prop}
theorem pe_bm0 (pa:PlainAttrs T) (slot:Slot T name id) (hty:typeOf (.builtin id) = pure (.type "method_descriptor")) (hm:MtR X id r) (ho:PE X o to)
    (hbase:attributeBase o name X.env (eval o X.env) = eval o X.env:=by rfl) (hline:(apos.endLine == cpos.line) = true:=by rfl):PE X (.Call (.Attribute o name apos) [] [] cpos) (tBM0 X.K T r to):=by
  intro pins s σ H Q I h
  refine wpAny_Call_method0_late hbase hline (thn (ho pins s σ H _ I h) fun v s1 ⟨x,H1,I1,r1,ty,q1⟩=>?_)
  obtain ⟨h1,h2⟩:=tyV_is I1 r1 ty
  exact ⟨T,id,pa,slot,hty,h1,h2,Calls.callWith_builtin rfl (PySem.evalArgs_none (hm pins s1 σ H1 x [] v [] Q I1 r1 .nil q1))⟩
theorem pe_bm (pa:PlainAttrs T) (slot:Slot T name id) (hty:typeOf (.builtin id) = pure (.type "method_descriptor")) (hm:MtR X id r) (ho:PE X o to) (ha:PA X (e :: es) t)
    (hbase:attributeBase o name X.env (eval o X.env) = eval o X.env:=by rfl)
    (hfew:((backTo cpos (starEach (e :: es) X.env)).all (fun x=>!x.1) && (backToKw cpos (keywordEach [] X.env)).all (fun x=>x.1.isSome)
      && decide ((e :: es).length + ([]:List Keyword).length + (if ([]:List Keyword).isEmpty then 0 else 1) < 30)) = true:=by rfl)
    (hline:(apos.endLine == cpos.line) = true:=by rfl) (hs:starEach (e :: es) X.env = (false,eval e X.env) :: starEach es X.env:=by rfl) (hplain:(backTo cpos (starEach es X.env)).any (·.1) = false:=by rfl) :
    PE X (.Call (.Attribute o name apos) (e :: es) [] cpos) (tBM X.K T r to t):=by
  intro pins s σ H Q I h
  refine wpAny_Call_method_late hbase hfew hline rfl (thn (ho pins s σ H _ I h) fun v s1 ⟨x,H1,I1,r1,ty,q1⟩=>?_)
  obtain ⟨h1,h2⟩:=tyV_is I1 r1 ty
  refine ⟨T,id,pa,slot,hty,h1,h2,?_⟩
  have hA:=ha cpos pins s1 σ H1 _ I1 q1
  rw [hs] at hA ⊢
  refine Calls.callWith_builtin (by show (false || (backTo cpos (starEach es X.env)).any (·.1)) = false; rw [hplain] <;> rfl) (Calls.evalArgs_plain ?_)
  exact thn hA fun us s2 ⟨vs,H2,I2,r2,q2⟩=>hm pins s2 σ H2 x vs v us Q I2 r1 r2 q2
end
end L2
namespace L2
open PySem PySem.Spec PyProof.Rows
def MtM (X:Cx) (id:String) (r:V→List V→Hp→VK→Prop):Prop :=
  ∀ (pins:List (Addr × Obj)) (s:Shared) (σ:St) (H:Hp) (x:V) (xs:List V) (v:Value) (us:List Value) (Q:VK),Inv X pins σ H s→RelV x v→Vals xs us→r x xs H Q →
    wpAny (model X.prog X.w) X.A (call (.builtin id) (v :: us)) (EP X pins σ Q) X.xe s
theorem Vals.one:∀ {x:V} {us:List Value},Vals [x] us→∃ u,us = [u]∧RelV x u
  | _,_,.cons r .nil=>⟨_,rfl,r⟩
theorem Vals.zero:∀ {us:List Value},Vals [] us→us = []
  | _,.nil=>rfl
theorem Vals.dropLast {xs:List V} {us:List Value} (h:Vals xs us):Vals xs.dropLast us.dropLast:=by
  induction h with
  | nil=>exact .nil
  | cons r t ih =>
    cases t with
    | nil=>exact .nil
    | cons q t'=>exact .cons r ih
theorem Vals.rep {xs:List V} {us:List Value} (h:Vals xs us):∀ k:Nat,Vals (List.replicate k xs).flatten (List.replicate k us).flatten
  | 0=>.nil
  | k + 1=>by
    rw [List.replicate_succ,List.replicate_succ,List.flatten_cons,List.flatten_cons]
    exact Vals.append h (Vals.rep h k)
theorem erase_last {α:Type} (l:List α):l.eraseIdx (l.length - 1) = l.dropLast:=by
  induction l with
  | nil=>rfl
  | cons a r ih =>
    cases r with
    | nil=>rfl
    | cons b r =>
      have e:(a :: b :: r).length - 1 = ((b :: r).length - 1) + 1:=by
        have h1:(a :: b :: r).length = r.length + 2:=rfl
        have h2:(b :: r).length = r.length + 1:=rfl
        omega
      rw [e,List.eraseIdx_cons_succ,ih]
      all_goals rfl
theorem foldl_rep (its:List Value):∀ (k:Nat) (acc:List Value),
    List.foldl (fun x1 x2=>x1 ++ x2) acc.toArray (List.replicate k its.toArray) = (acc ++ (List.replicate k its).flatten).toArray
  | 0,acc=>by simp
  | k + 1,acc=>by
    have e:acc.toArray ++ its.toArray = (acc ++ its).toArray:=by simp
    have e2:(acc ++ its) ++ (List.replicate k its).flatten = acc ++ (List.replicate (k + 1) its).flatten:=by
      rw [List.replicate_succ,List.flatten_cons,List.append_assoc]
    rw [← e2,← foldl_rep its k (acc ++ its),← e,List.replicate_succ,List.foldl_cons]
section
variable {X:Cx} {pins:List (Addr × Obj)} {σ:St} {H:Hp} {s:Shared} {l b:Addr} {xs ys zs:List V}
theorem Inv.lset {its its':List Value} {n:Nat} {f:Array Value→Array Value} {t':Nat} (I:Inv X pins σ H s) (hH:H l = some (.lst xs))
    (e:s.heap.get? l = some { cls:=.type "list",data:=.seq its.toArray n }) (hf:f its.toArray = its'.toArray) (hv:Vals ys its') (hz:ys.length ≤ sizeLine) :
    Inv X pins σ (upd H l (.lst ys)) { s with heap:=s.heap.update l (Obj.mapSeq f),toks:=t' }:=by
  have q:=PySem.IsL.update e f
  rw [hf] at q
  refine I.write (x:=l) (e:=l) (by rw [hH]; exact trivial) (.inl rfl) (fun b' u hb hu=>(Heap.get?_update_other s.heap (Obj.mapSeq f) (Ne.symm hb)).trans hu) ⟨_,q⟩ ?_
  exact ⟨hz,its',_,hv,q⟩
theorem Inv.lnew {its:List Value} {t':Nat} (I:Inv X pins σ H s) (hv:Vals ys its) (hz:ys.length ≤ sizeLine) :
    Inv X pins σ (upd H s.heap.objs.size (.lst ys)) { s with heap:=s.heap.push { cls:=.type "list",data:=.seq its.toArray },toks:=t' } :=
  I.laid (fun _ _ q=>Heap.get?_push_of_some _ q) (Nat.le_refl _) ⟨hz,its,0,hv,Heap.get?_push_size _ rfl⟩
theorem Inv.fresh (I:Inv X pins σ H s):H s.heap.objs.size = none:=I.hok.fresh (Nat.le_refl _)
theorem Inv.lstM (I:Inv X pins σ H s) (hH:H l = some (.lst xs)):xs.length ≤ sizeLine∧∃ (its:List Value) (n:Nat),Vals xs its∧xs.length = its.length∧s.heap.get? l = some { cls:=.type "list",data:=.seq its.toArray n }:=by
  obtain ⟨z,its,n,r,e⟩:=I.hok l _ hH
  exact ⟨z,its,n,r,r.length,e⟩
theorem notLongL {n:Nat} (h:n ≤ sizeLine):Builtin.List.listTooLong n = false:=by
  unfold Builtin.List.listTooLong
  exact decide_eq_false (by omega)
end
section
variable {X:Cx}
def rAppend:V→List V→Hp→VK→Prop:=fun x vs H Q=>∃ l xs y,x = .ref l∧vs = [y]∧H l = some (.lst xs)∧xs.length < sizeLine∧Q .non (upd H l (.lst (xs ++ [y])))
theorem mt_append:MtM X "list.append" rAppend:=by
  intro pins s σ H x vs v us Q I rx rv h
  obtain ⟨l,xs,y,rfl,rfl,hH,hz,q⟩:=h
  cases rx
  obtain ⟨u,rfl,ru⟩:=rv.one
  obtain ⟨z,its,n,r,hl,e⟩:=I.lstM hH
  refine call_meets F.slot_list_append ⟨_,e,rfl⟩ F.entry_list_append (F.args_list_append_2 _ _) (PySem.list_append l its.toArray n u (by rw [List.size_toArray]; omega)) ⟨e,?_⟩
  refine ⟨.non,_,I.lset (its':=its ++ [u]) hH e (by simp) (r.append (.cons ru .nil)) ?_,rfl,q⟩
  rw [List.length_append,List.length_singleton]
  omega
def rExtend:V→List V→Hp→VK→Prop:=fun x vs H Q=>∃ l b xs zs,x = .ref l∧vs = [.ref b]∧H l = some (.lst xs)∧H b = some (.lst zs)∧xs.length + zs.length ≤ sizeLine∧Q .non (upd H l (.lst (xs ++ zs)))
theorem mt_extend:MtM X "list.extend" rExtend:=by
  intro pins s σ H x vs v us Q I rx rv h
  obtain ⟨l,b,xs,zs,rfl,rfl,hH,hB,hz,q⟩:=h
  cases rx
  obtain ⟨u,rfl,ru⟩:=rv.one
  cases ru
  obtain ⟨z,its,n,r,hl,e⟩:=I.lstM hH
  obtain ⟨z2,its2,n2,r2,hl2,e2⟩:=I.lstM hB
  have hsz:its.toArray.size + its2.toArray.size ≤ sizeLine:=by rw [List.size_toArray,List.size_toArray]; omega
  have hlong:¬ (!its.toArray.isEmpty && Builtin.List.listTooLong (its.toArray.size + its2.toArray.size)) = true:=by
    rw [notLongL hsz,Bool.and_false]
    exact Bool.false_ne_true
  refine call_meets F.slot_list_extend ⟨_,e,rfl⟩ F.entry_list_extend (F.args_list_extend_2 _ _)
    (AutoSeq1.list_extend_list_list_0 l its.toArray n b its2.toArray n2 hlong (by rw [List.size_toArray]; omega) (by omega)) ⟨e,e2,?_⟩
  refine ⟨.non,_,I.lset (its':=its ++ its2) hH e (by simp) (r.append r2) ?_,rfl,q⟩
  rw [List.length_append]
  omega
def rPop:V→List V→Hp→VK→Prop:=fun x vs H Q=>∃ l xs y,x = .ref l∧vs = []∧H l = some (.lst xs)∧xs[xs.length - 1]? = some y∧Q y (upd H l (.lst xs.dropLast))
theorem mt_pop:MtM X "list.pop" rPop:=by
  intro pins s σ H x vs v us Q I rx rv h
  obtain ⟨l,xs,y,rfl,rfl,hH,hy,q⟩:=h
  cases rx
  have hus:=rv.zero
  subst hus
  obtain ⟨z,its,n,r,hl,e⟩:=I.lstM hH
  obtain ⟨u,hu,ru⟩:=r.get hy
  have hy':its.toArray[its.toArray.size - 1]? = some u:=by
    show its.toArray[its.length - 1]? = some u
    rw [← Array.getElem?_toList,← hl]
    exact hu
  refine call_meets F.slot_list_pop ⟨_,e,rfl⟩ F.entry_list_pop (F.args_list_pop_1 _) (MeetsSeq.list_pop_last l its.toArray n u hy' (by rw [List.size_toArray]; omega)) ⟨e,?_⟩
  refine ⟨y,_,I.lset (its':=its.dropLast) hH e ?_ r.dropLast ?_,ru,q⟩
  · show its.toArray.eraseIdxIfInBounds (its.toArray.size - 1) = its.dropLast.toArray
    rw [List.size_toArray,List.eraseIdxIfInBounds_toArray,erase_last]
  · rw [List.length_dropLast]
    omega
def rRep:R2:=fun x y H Q=>∃ l k xs,x = .ref l∧y = .int k∧H l = some (.lst xs)∧-(2 ^ 63) ≤ k∧k < 2 ^ 63∧xs.length * k.toNat ≤ sizeLine ∧
  ∀ p,H p = none→Q (.ref p) (upd H p (.lst (List.replicate k.toNat xs).flatten))
theorem len_rep {α:Type} (xs:List α) (k:Nat):(List.replicate k xs).flatten.length = k * xs.length:=by
  induction k with
  | zero=>simp
  | succ k ih=>rw [List.replicate_succ,List.flatten_cons,List.length_append,ih,Nat.succ_mul,Nat.add_comm]
theorem op_rep:OpR X (binaryOp .Mult) rRep:=by
  intro pins s σ H x y v u Q I rx ry h
  obtain ⟨l,k,xs,rfl,rfl,hH,h1,h2,hz,q⟩:=h
  cases rx
  obtain ⟨t,rfl⟩:=ry
  obtain ⟨z,its,n,r,hl,e⟩:=I.lstM hH
  have hlen:its.toArray.size * k.toNat ≤ sizeLine:=by rw [List.size_toArray,← hl]; exact hz
  have hcap:¬ its.toArray.size * k.toNat > (2 ^ 63 - 1) / 8:=by
    have:(sizeLine:Nat) ≤ (2 ^ 63 - 1) / 8:=by decide
    omega
  have hfit:¬ (!Builtin.List.listFitsIndex k) = true:=by
    rw [fitsIndex_both h1 h2]
    exact Bool.false_ne_true
  have hlong:¬ Builtin.List.listTooLong (its.toArray.size * k.toNat) = true:=by
    rw [notLongL hlen]
    exact Bool.false_ne_true
  have hnew:List.foldl (fun x1 x2=>x1 ++ x2) #[] (List.replicate (if its.toArray.isEmpty = true then 0 else k.toNat) its.toArray) = (List.replicate k.toNat its).flatten.toArray:=by
    have f0:∀ m:Nat,List.foldl (fun x1 x2=>x1 ++ x2) #[] (List.replicate m its.toArray) = (List.replicate m its).flatten.toArray:=fun m=>by
      have:=foldl_rep its m []
      rw [List.nil_append] at this
      exact this
    rw [f0]
    cases its with
    | nil=>simp
    | cons a r'=>rw [if_neg (by simp)]
  refine wpAny_binaryOp_repeat_ref (T:="list") (U:="int") (by decide) ⟨_,e,rfl⟩ (fun s'=>typeIs_int s' k t) noFill_list_mul F.fills_int_mul F.slot_int_rmul repeat_list F.slot_int_index.lookup
    (call_meets F.slot_int_rmul (typeIs_int s k t) F.entry_int_rmul (F.args_int_rmul_2 _ _) (int___rmul___int_list k t l its.toArray n)
      ⟨e,rfl,⟨_,e,rfl⟩,call_meets F.slot_list_mul ⟨_,e,rfl⟩ F.entry_list_mul (F.args_list_mul_2 _ _) (AutoListH.list___mul___list_int_3 l its.toArray n k t hfit hcap hlong) ⟨e,?_⟩⟩)
  rw [hnew]
  exact ⟨.ref _,_,I.lnew (t':=s.toks) (r.rep k.toNat) (by rw [len_rep,Nat.mul_comm]; exact hz),rfl,q _ I.fresh⟩
end
section
variable {prog:Program} {w:World} {A:Around} {E:Value→Shared→Prop} {s:Shared}
set_option maxRecDepth 100000 in
end
section
variable {X:Cx}
end
end L2
namespace L2
open PySem PySem.Spec PyProof.Rows
section
variable {κ:Type} [DecidableEq κ]
end
section
variable {P:Program} {w:World} {H:Hp} {h:Heap} {a:Addr}
end
section
variable {X:Cx} {pins:List (Addr × Obj)} {σ:St} {H:Hp} {s:Shared} {a:Addr} {y v:V} {u r:Value} {o:Option V} {A:Around} {E:Value→Shared→Prop}
end
section
variable {X:Cx} {pins:List (Addr × Obj)} {σ:St} {H:Hp} {s:Shared} {a:Addr} {kvs:List (Key × V)} {k:Key} {u:Value} {A:Around} {E:Value→Shared→Prop}
end
section
variable {X:Cx} {o i e value:Expr} {pos pos' tpos:Pos} {td ty tv:TE}
end
section
variable {X:Cx} {pos:Pos}
end
structure M2 (X:Cx) (o:Expr) (m:Str) (apos:Pos) (e f:Expr) (cpos:Pos):Prop where
  base:attributeBase o m X.env (eval o X.env) = eval o X.env
  few:((backTo cpos (starEach [e,f] X.env)).all (fun x=>!x.1) && (backToKw cpos (keywordEach [] X.env)).all (fun x=>x.1.isSome)
    && decide (([e,f]:List Expr).length + ([]:List Keyword).length + (if ([]:List Keyword).isEmpty then 0 else 1) < 30)) = true
  line:(apos.endLine == cpos.line) = true
  trees:backTo cpos (starEach [e,f] X.env) = [(false,eval e X.env),(false,eval f X.env)]
section
variable {X:Cx} {pins:List (Addr × Obj)} {σ:St} {H:Hp} {s:Shared} {a:Addr} {y d:V} {u r:Value} {o:Option V} {A:Around} {E:Value→Shared→Prop}
end
section
variable {X:Cx} {o e f:Expr} {apos cpos:Pos} {td ty tx:TE}
end
section
variable {X:Cx} {pins:List (Addr × Obj)} {σ:St} {H:Hp} {s:Shared} {a:Addr} {kvs:List (Key × V)} {A:Around} {E:Value→Shared→Prop}
end
section
variable {X:Cx} {pins:List (Addr × Obj)} {σ:St} {H:Hp} {s:Shared} {a:Addr} {y:V} {u:Value} {A:Around} {E:Value→Shared→Prop}
end
end L2
namespace Att
open PySem PySem.W PySem.Calls PyProof.Rows
theorem ints_of_wellAll {P:Params} {h:Heap}:∀ (ns:List Int) (vs:List Value),WellAll P h vs (ns.map WData.int)→IntsAre vs ns:=by
  intro ns
  induction ns with
  | nil =>
    intro vs w
    rw [List.map_nil] at w
    cases w
    exact .nil
  | cons n ns ih =>
    intro vs w
    rw [List.map_cons] at w
    cases w with
    | cons a b =>
      cases a
      exact .cons _ _ (ih _ b)
theorem script_of {l:OpenLaw} {n:Nat} (hn:l.most = some n) {P:Params} {h:Heap} {args:List WData} {vals:List Value}
    (hpre:l.row.toRowW.claim.pre args = true) (hwl:WellAll P h vals args) :
    ∃ a vs ns,vals = [Value.ref a]∧args = [WData.list (ns.map WData.int)]∧h.get? a = some { cls:=.type "list",data:=.seq vs.toArray }∧IntsAre vs ns∧ns.length ≤ n:=by
  have hsh:WShape.hasAll [] args [.list .int] = true:=(pre_splitW hpre).1
  have hc:l.pre.holds [] { args:=args } = true:=(pre_splitW hpre).2
  obtain ⟨d,r,rfl,h1,h2⟩:=hasAllW_cons hsh
  obtain rfl:=hasAllW_nil h2
  obtain ⟨xs,rfl,h3⟩:=hasW_list h1
  obtain ⟨ns,rfl⟩:=items_int h3
  have hlen:ns.length ≤ n:=by
    unfold OpenLaw.pre at hc
    have h4:(WTm.not (.lt (.lit (.int (n:Int))) (.len (.arg 0)))).holds [] { args:=[.list (ns.map .int)] } = true:=by
      have h4:=(holds_andW hc).1
      rw [hn] at h4
      exact h4
    have h5:=condW_of h4 (w_not (w_lt w_lit (w_len_list (w_arg rfl))))
    rw [List.length_map] at h5
    refine Nat.le_of_not_lt fun q=>?_
    have q':(n:Int) < ((ns.length:Nat):Int):=by omega
    first
      | (rw [decide_eq_true q'] at h5; exact absurd h5 (by decide))
      | (simp at h5; omega)
  cases hwl with
  | cons w1 w2 =>
    cases w2
    cases w1 with
    | list ho hall=>exact ⟨_,_,ns,rfl,rfl,ho,ints_of_wellAll ns _ hall,hlen⟩
theorem post_true (l:OpenLaw) (args:List WData):l.row.toRowW.claim.post args (.bool true) args = true :=
  postW_of (r:=l.row.toRowW) (X:=(true == true))
    (show WShape.has [] (.bool true) .bool = true by first | rfl | decide | simp [WShape.has,WShape.arms,WShape.armsAll])
    (show (WTm.eq .res (.lit (.bool true))).value [] { args:=args,res:=some (.bool true),after:=args } = some (.bool (true == true)) from w_eq_bool (w_res rfl) w_lit) rfl
theorem attach_call {l:OpenLaw} {n:Nat} {q:Program} {loose:List Str} {XP:(Str→Option Value)→Heap→Prop} {YP:World→Heap→Prop} {d:DefRec}
    (hn:l.most = some n) (hdf:d.params.defaults = [])
    (call:∀ (w:World) (s₀ s₁:Shared) (mg mb:Str→Option Value) (fa:Addr) (o:Obj) (pm cd doc:Value) (a:Addr) (vs:List Value) (ns:List Int),
      Ground q loose [] XP w s₀ mg mb s₁.heap→YP w s₁.heap →
      s₁.heap.get? fa = some o→o.data = .func (docDef d.name d.params d.body d.scope pm cd doc)→s₁.heap.CodeRec cd d.name→mg d.name = some (.ref fa) →
      s₁.heap.get? a = some { cls:=.type "list",data:=.seq vs.toArray }→IntsAre vs ns→ns.length ≤ n→s₁.gens = #[] →
      codeAny (model l.prog w) callerA (.call (.ref fa) ⟨[.ref a],[]⟩) (fun r s'=>r = .ok (.ret (.bool true))∧OldK s₁.heap s'.heap∧s'.os = s₁.os∧AllBare s'.gens) s₁) :
    WalkO q loose XP YP l.row.toRowW d [] (fun f vs=>PySem.call f vs):=by
  intro w s₀ s₁ mg mb G Y fa o pm cd doc dV kV ho hd hcd hD hmg hg args vals as hpre hlay hrd hwl hlo
  obtain rfl:dV = .none:=Dflts.none hD hdf
  obtain rfl:kV = .none:=Dflts.noKw hD
  obtain ⟨a,vs,ns,rfl,rfl,hobj,hints,hlen⟩:=script_of hn hpre hwl
  refine enter_call (codeAny_mono (call w s₀ s₁ mg mb fa o pm cd doc a vs ns G Y ho (fd_plain hd) hcd hmg hobj hints hlen hg) fun r s' hq=>?_)
  obtain ⟨rfl,h2,h3,h4⟩:=hq
  exact ⟨.inl ⟨.bool true,.bool true,[],rfl,fun _=>rfl,.bool true,post_true l _,fun _=>⟨List.Pairwise.nil,fun _ hm=>(nomatch hm)⟩⟩,h2,h3,h4⟩
section
variable {prog:Program} {w:World} {A:Around} {E:Value→Shared→Prop} {s:Shared} {K:Frag}
end
end Att
namespace L2
open PySem PySem.Spec PyProof.Rows
theorem vals_ints:∀ {vs:List Value} {ns:List Int},IntsAre vs ns→Vals (ns.map V.int) vs
  | _,_,.nil=>.nil
  | _,_,.cons n t h=>.cons ⟨t,rfl⟩ (vals_ints h)
def Only (H:Hp):Prop:=∀ b,H b = none∨∃ o xs,H b = some (.frz o (.lst xs))
theorem law_call {P:Program} {w:World} {K:PySem.W.Frag} {mg mb:Str→Option Value} {CX:CXT} {k:Nat} {fa a:Addr} {fd:FuncData} {x:Str} {sp:Sp} {s₁:Shared} {vs:List Value} {ns:List Int}
    (KX:K.In s₁.heap) (hns:s₁.heap.Ns mainGlobals mg) (hb:s₁.heap.Ns builtinsNs mb) (hbb:∀ x:Str,x ≠ "__name__"→mb x = bootBuiltins x) (hlim:s₁.heap.NoLimit) (hg:s₁.gens = #[])
    (ha:s₁.heap.get? a = some { cls:=.type "list",data:=.seq vs.toArray }) (hi:IntsAre vs ns) (hl:ns.length ≤ sizeLine) (hr:Room k callerA)
    (F:∀ base:Heap,K.In base→base.Ns mainGlobals mg→FnOk P w K mg base CX k fa fd [x] sp) (hbind:∀ (s:Shared) (u:Value),BindsTo s fd ⟨[u],[]⟩ [(x,u)])
    (hsp:∀ H:Hp,Only H→SqL K H a (ns.map V.int)→sp [.ref a] H (fun v _=>v = .bl true) fun _ _ _=>False)
    (hCX:∀ H e s',CX [] H s₁ (fun _ _ _=>False) e s'→False) :
    codeAny (model P w) callerA (.call (.ref fa) ⟨[.ref a],[]⟩) (fun r s'=>r = .ok (.ret (.bool true))∧OldK s₁.heap s'.heap∧s'.os = s₁.os∧AllBare s'.gens) s₁:=by
  have rv:=vals_ints hi
  have lenV:=hi.length
  have core:∀ H:Hp,Only H→SqL K H a (ns.map V.int)→HOk P w H s₁.heap→(∀ b,H b ≠ none→b = a)→(H a ≠ none→K.lookup a = none) →
      codeAny (model P w) callerA (.call (.ref fa) ⟨[.ref a],[]⟩) (fun r s'=>r = .ok (.ret (.bool true))∧OldK s₁.heap s'.heap∧s'.os = s₁.os∧AllBare s'.gens) s₁:=by
    intro H hO hS hok hA hK
    have base_of:∀ {b:Addr} {o:Obj},s₁.heap.get? b = some o→H b = none→(hidT s₁.heap H).get? b = some o:=fun e n=>hidT_get e n
    have noA:∀ {b:Addr} {o:Obj} {es:Array DictEntry} {ep:Nat},s₁.heap.get? b = some o→o.data = .dict es ep→H b = none:=fun {b o es ep} e d=>by
      cases q:H b with
      | none=>rfl
      | some u =>
        have e':b = a:=hA b (by rw [q]; simp)
        subst e'
        rw [ha] at e; cases e
        have d':Data.seq vs.toArray _ = Data.dict es ep:=d
        cases d'
    have nsK:∀ {b:Addr} {m:Str→Option Value},s₁.heap.Ns b m→(hidT s₁.heap H).Ns b m:=fun {b m} ⟨o,es,ep,e,d,r⟩=>⟨o,es,ep,base_of e (noA e d),d,r⟩
    have hKb:K.In (hidT s₁.heap H):=fun b o e=>base_of (KX b o e) (by
      cases q:H b with
      | none=>rfl
      | some u =>
        have e':b = a:=hA b (by rw [q]; simp)
        subst e'
        rw [hK (by rw [q]; simp)] at e; cases e)
    have hM:Mod K mg (hidT s₁.heap H):=⟨hKb,nsK hns,⟨mb,nsK hb,hbb⟩,let ⟨mc,h1,h2⟩:=hlim; ⟨mc,nsK h1,h2⟩⟩
    have e0:Env0 P w K mg (hidT s₁.heap H) callerA [] s₁ H:=⟨rfl,hM,fun b o e=>of_hidT e,Nat.le_of_eq (hidT_size _ _),trivial,fun b hb=>absurd (show b ∈ ([]:List Addr) from hb) (by simp),hok,.of_eq hg⟩
    refine codeAny_mono ((F _ hKb (nsK hns)).run callerA [] s₁ H ⟨[.ref a],[]⟩ [.ref a] [.ref a] _ _ hr e0 (hbind s₁ (.ref a)) (.cons rfl .nil) (hsp H hO hS)) fun r s' h=>?_
    cases r with
    | error e=>exact (hCX H e s' h).elim
    | ok fl =>
      cases fl with
      | next=>exact False.elim h
      | brk=>exact False.elim h
      | cont=>exact False.elim h
      | ret u =>
        obtain ⟨v,H',os,bare,un,hok',r',q⟩:=h
        have q':v = .bl true:=q
        subst q'
        obtain rfl:u = Value.bool true:=r'
        refine ⟨rfl,OldK.of_keep fun b o e=>?_,os,bare⟩
        cases q:H b with
        | none=>exact un.keep b o e q (by intro z; exact absurd (show b ∈ ([]:List Addr) from z) (by simp)) (by simp)
        | some u =>
          rcases hO b with z | ⟨ob,xs,z⟩
          · rw [q] at z; cases z
          · have z2:=un.frzs b ob _ z
            obtain ⟨e1,_⟩:=hok b _ z
            obtain ⟨e2,_⟩:=hok' b _ z2
            rw [e] at e1; cases e1
            exact e2
  cases hk:K.lookup a with
  | some o =>
    have e:=KX a o hk
    rw [ha] at e
    cases e
    refine core (fun _=>none) (fun _=>.inl rfl) (.inr ⟨_,vs.toArray,_,hk,rfl,rfl,rfl,by rw [List.size_toArray,lenV]; exact hl,by simpa using rv⟩) (fun b u z=>by have z':(none:Option HO) = some u:=z; cases z') (fun b z=>absurd rfl z) fun z=>absurd rfl z
  | none =>
    refine core (fun b=>if b = a then some (.frz { cls:=.type "list",data:=.seq vs.toArray } (.lst (ns.map V.int))) else none) (fun b=>?_) (.inl (.inr ⟨{ cls:=.type "list",data:=.seq vs.toArray },if_pos rfl⟩)) (fun b u z=>?_) (fun b z=>?_) fun _=>hk
    · by_cases hb:b = a
      · exact .inr ⟨_,_,if_pos hb⟩
      · exact .inl (if_neg hb)
    · by_cases hb:b = a
      · have z':=(if_pos hb).symm.trans z
        cases z'
        subst hb
        exact ⟨ha,by rw [List.length_map]; exact hl,vs,_,rv,ha⟩
      · have z':=(if_neg hb).symm.trans z
        cases z'
    · by_cases hb:b = a
      · exact hb
      · exact absurd (if_neg hb) z
end L2
namespace L2
open PySem PySem.Spec PyProof.Rows
theorem walk_of {l:PySem.W.OpenLaw} {n k:Nat} {q:Program} {loose:List Str} {XP:(Str→Option Value)→Heap→Prop} {YP:World→Heap→Prop} {d:DefRec} {K:Params→PySem.W.Frag} {CX:World→CXT} {sp:World→Sp} {x:Str}
    (hn:l.most = some n) (hn2:n ≤ sizeLine) (hdf:d.params.defaults = []) (hr:Room k callerA)
    (hY:∀ (w:World) (h:Heap),YP w h→(K w.params).In h)
    (F:∀ (w:World) (mg:Str→Option Value) (fa:Addr) (h:Heap),(K w.params).In h→h.Ns mainGlobals mg→mg d.name = some (.ref fa) →
      ∃ fd:FuncData,(∀ (s:Shared) (u:Value),BindsTo s fd ⟨[u],[]⟩ [(x,u)]) ∧
        ∀ base:Heap,(K w.params).In base→base.Ns mainGlobals mg→FnOk l.prog w (K w.params) mg base (CX w) k fa fd [x] (sp w))
    (hsp:∀ (w:World) (H:Hp) (a:Addr) (ns:List Int),ns.length ≤ n→Only H→SqL (K w.params) H a (ns.map V.int)→sp w [.ref a] H (fun v _=>v = .bl true) fun _ _ _=>False)
    (hCX:∀ (w:World) (H:Hp) (s:Shared) (e:Value) (s':Shared),CX w [] H s (fun _ _ _=>False) e s'→False) :
    PySem.W.WalkO q loose XP YP l.row.toRowW d [] (fun f vs=>PySem.call f vs):=by
  refine Att.attach_call hn hdf fun w s₀ s₁ mg mb fa o pm cd doc a vs ns G Y ho hd hcd hmg hobj hints hlen hg=>?_
  have KX:=hY w _ Y
  obtain ⟨fd,hb,hF⟩:=F w mg fa _ KX G.T.g hmg
  exact law_call KX G.T.g G.T.b G.T.builtins G.T.nolimit hg hobj hints (Nat.le_trans hlen hn2) hr hF hb (fun H hO hS=>hsp w H a ns hlen hO hS) fun H e s'=>hCX w H s₁ e s'
end L2
namespace L2
open PySem PySem.Spec PyProof.Rows
def defArgs (s:Stmt):Arguments:=match s with
  | .FunctionDef _ a _ _ _ _ _ _ _ _=>a
  | _=>{ posonlyargs:=[],args:=[],vararg:=none,kwonlyargs:=[],kw_defaults:=[],kwarg:=none,defaults:=[] }
def defBody (s:Stmt):List Stmt:=match s with
  | .FunctionDef _ _ b _ _ _ _ _ _ _=>b
  | _=>[]
def defScope (s:Stmt):Scope:=match s with
  | .FunctionDef _ _ _ _ _ _ sc _ _ _=>sc
  | _=>{ kind:=.function,names:=[],isGenerator:=false,isCoroutine:=false }
abbrev CX0:CXT:=fun _ _ _ _ _ _=>False
abbrev E0:XK:=fun _ _ _=>False
theorem pass0 {X:Cx}:Passes CX0 X E0:=fun _ _ _ _ _ _ _ h=>h.elim
structure Fun (K:PySem.W.Frag) (x qual:Str) (st:Stmt) (f:Addr) (fd:FuncData):Prop where
  ex:∃ (oc:Value) (od:Option Addr) (kV doc pm:Value) (an:Option Addr) (cdv ct:Value) (osl:Array (Option Value)),
    fd = PySem.W.fnOf x qual (defArgs st) (defBody st) (defScope st) .none kV doc pm an cdv ct∧K.lookup f = some ⟨oc,od,.func fd,osl⟩∧PySem.W.codeIn K cdv qual = true
  kp:PySem.W.keepIn K (.ref f) = true
section
variable {P:Program} {w:World} {K:PySem.W.Frag} {mg:Str→Option Value} {base:Heap}
theorem Fun.ok {x qual:Str} {st:Stmt} {f:Addr} {fd:FuncData} {N ps:List Str} {k:Nat} {sp:Sp} (F:Fun K x qual st f fd) (S:FnScope N ps (defScope st)) (len:∀ vs H Q E,sp vs H Q E→vs.length = ps.length)
    (hbody:∀ (cdv:Value) (A:Around) (outer:List Env) (s:Shared) (H:Hp) (vs:List V) (Q:VK) (E:XK),Room k (A.deeper (envOfC qual (defScope st) s.heap.objs.size f cdv))→sp vs H Q E →
      ∃ t,PSs (cxOf CX0 P w K mg base N qual (defScope st) f cdv A outer s H E).nox (defBody st) t∧t { nx:=fun _ H'=>Q .non H',rt:=Q } (start N vs) H):FnOk P w K mg base CX0 (k + 1) f fd ps sp:=by
  obtain ⟨oc,od,kV,doc,pm,an,cdv,ct,osl,rfl,lk,hcd⟩:=F.ex
  refine fn_of lk hcd S len fun A outer s H vs Q E hr hsp=>?_
  obtain ⟨t,h,q⟩:=hbody cdv A outer s H vs Q E hr hsp
  exact ⟨t,h.nox,q⟩
theorem Fun.binds {x qual:Str} {st:Stmt} {f:Addr} {fd:FuncData} {ps:List Str} (F:Fun K x qual st f fd)
    (h:∀ (kV doc pm:Value) (an:Option Addr) (cdv ct:Value) (us:List Value),us.length = ps.length→bindArgs (PySem.W.fnOf x qual (defArgs st) (defBody st) (defScope st) .none kV doc pm an cdv ct) ⟨us,[]⟩ = pure (ps.zip us)):Binds K fd ps []:=by
  obtain ⟨oc,od,kV,doc,pm,an,cdv,ct,osl,rfl,lk,hcd⟩:=F.ex
  exact .all (h kV doc pm an cdv ct)
theorem fun_mk {x qual:Str} {st:Stmt} {f:Addr} {oc:Value} {od an:Option Addr} {osl:Array (Option Value)} {kV doc pm cdv ct:Value} (l:K.lookup f = some ⟨oc,od,.func (PySem.W.fnOf x qual (defArgs st) (defBody st) (defScope st) .none kV doc pm an cdv ct),osl⟩)
    (c:PySem.W.codeIn K cdv qual = true) (k:PySem.W.keepIn K (.ref f) = true):Fun K x qual st f (PySem.W.fnOf x qual (defArgs st) (defBody st) (defScope st) .none kV doc pm an cdv ct):=⟨⟨oc,od,kV,doc,pm,an,cdv,ct,osl,rfl,l,c⟩,k⟩
end
theorem small1000 {n:Nat} (h:n ≤ 1000):n < sizeLine:=Nat.lt_of_le_of_lt h (by decide)
section
variable {X:Cx}
theorem pv (i:Nat) {x:Str} {pos:Pos} (hN:X.N[i]? = some x:=by rfl) (hv:Vis X.env.scope x:=by first | exact Or.inl rfl | exact Or.inr (Or.inl rfl) | exact Or.inr (Or.inr rfl)) (hd:(x == ("__debug__":Str)) = false:=by decide)
    (hcd:(x == ("__classdict__":Str)) = false:=by decide):PE X (.Name x pos) (tVar i):=pe_var hN hv hd hcd
end
theorem iteF {A B:Prop} (h:B):if false = true then A else B:=by
  rw [if_neg Bool.false_ne_true]
  exact h
theorem iteT {A B:Prop} (h:A):if true = true then A else B:=by
  rw [if_pos rfl]
  exact h
theorem ite2 {c A B:Prop} [Decidable c] (h1:c→A) (h2:¬ c→B):if c then A else B:=by
  by_cases h:c
  · rw [if_pos h]
    exact h1 h
  · rw [if_neg h]
    exact h2 h
def Same (H H':Hp):Prop:=∀ b o,H b = some o→H' b = some o
theorem Same.refl (H:Hp):Same H H:=fun _ _ h=>h
theorem Same.trans {H H1 H2:Hp} (a:Same H H1) (b:Same H1 H2):Same H H2:=fun c o h=>b c o (a c o h)
theorem Same.free {H H':Hp} (e:Same H H') {l:Addr} (h:H' l = Option.none):H l = Option.none:=by
  cases q:H l with
  | none=>rfl
  | some o =>
    rw [e l o q] at h
    cases h
theorem Same.seq {K:PySem.W.Frag} {H H':Hp} {a:Addr} {xs:List V} (e:Same H H') (h:SqL K H a xs):SqL K H' a xs:=by
  rcases h with (h | ⟨o,h⟩) | h
  · exact .inl (.inl (e _ _ h))
  · exact .inl (.inr ⟨o,e _ _ h⟩)
  · exact .inr h
section
variable {κ:Type} [DecidableEq κ]
end
end L2
end
section
namespace L2
open PySem PySem.Spec PyProof.Rows
def rk (env:Env) (x:Str) (k:NameKind):NameKind :=
  if (k == NameKind.free && env.scope.kind == .function && env.kindOf x == some .cell) = true then .cell else k
theorem relab_lookup (sc:Scope) (env:Env) (x:Str):(relabel sc env).names.lookup x = (sc.names.lookup x).map (rk env x):=by
  have all:∀ l:List (Str × NameKind),(l.map fun (n,k)=>if (k == NameKind.free && env.scope.kind == .function && env.kindOf n == some .cell) then (n,NameKind.cell) else (n,k)).lookup x = (l.lookup x).map (rk env x):=by
    intro l
    induction l with
    | nil=>rfl
    | cons p r ih =>
      obtain ⟨n,k⟩:=p
      rw [List.map_cons]
      cases hx:x == n with
      | true =>
        have e:x = n:=by simpa using hx
        subst e
        by_cases c:(k == NameKind.free && env.scope.kind == .function && env.kindOf x == some .cell) = true
        · simp [List.lookup_cons,rk,c]
        · simp [List.lookup_cons,rk,c]
      | false =>
        have e1:((n,k) :: r).lookup x = r.lookup x:=by rw [List.lookup_cons,hx]
        rw [e1,← ih]
        by_cases c:(k == NameKind.free && env.scope.kind == .function && env.kindOf n == some .cell) = true
        · show List.lookup x ((if (k == NameKind.free && env.scope.kind == .function && env.kindOf n == some .cell) = true then (n,NameKind.cell) else (n,k)) :: _) = _
          rw [if_pos c,List.lookup_cons,hx]
        · show List.lookup x ((if (k == NameKind.free && env.scope.kind == .function && env.kindOf n == some .cell) = true then (n,NameKind.cell) else (n,k)) :: _) = _
          rw [if_neg c,List.lookup_cons,hx]
  exact all sc.names
theorem rk_free {env:Env} {x:Str}:rk env x .free = .cell∨rk env x .free = .free:=by
  unfold rk
  split
  · exact .inl rfl
  · exact .inr rfl
theorem rk_not {env:Env} {x:Str} {k:NameKind} (h:k ≠ .free):rk env x k = k:=by
  unfold rk
  rw [if_neg]
  intro c
  have:(k == NameKind.free) = true:=by
    cases q:(k == NameKind.free) with
    | true=>rfl
    | false=>rw [q] at c; simp at c
  exact h (by simpa using this)
def isFr:Option NameKind→Bool
  | some .free=>true
  | _=>false
def isCF:Option NameKind→Bool
  | some .free=>true
  | some .cell=>true
  | _=>false
def isLo:Option NameKind→Bool
  | some .local=>true
  | _=>false
theorem isFr_eq {o:Option NameKind} (h:isFr o = true):o = some .free:=by
  cases o with
  | none=>cases h
  | some k=>cases k <;> first | rfl | cases h
theorem isCF_eq {o:Option NameKind} (h:isCF o = true):o = some .cell∨o = some .free:=by
  cases o with
  | none=>cases h
  | some k=>cases k <;> first | exact .inl rfl | exact .inr rfl | cases h
theorem isLo_eq {o:Option NameKind} (h:isLo o = true):o = some .local:=by
  cases o with
  | none=>cases h
  | some k=>cases k <;> first | rfl | cases h
def blkChk (N:List Str) (ok:Str→Option NameKind) (names:List (Str × NameKind)) (own:List Str) (fr:List Nat) (N':List Str):Bool :=
  decide (N' = own ++ fr.map fun j=>N.getD j "") && (fr.all fun j=>decide (j < N.length) && isFr (names.lookup (N.getD j ""))) &&
    names.all fun p=>match p.2 with
      | .free=>isCF (ok p.1)
      | .cell=>false
      | .local=>isLo (names.lookup p.1)
      | _=>true
structure Blk (N:List Str) (ok:Str→Option NameKind) (names:List (Str × NameKind)) (own:List Str) (fr:List Nat) (N':List Str):Prop where
  eN:N' = own ++ fr.map fun j=>N.getD j ""
  fr:∀ j ∈ fr,j < N.length∧names.lookup (N.getD j "") = some .free
  free:∀ p ∈ names,p.2 = .free→ok p.1 = some .cell∨ok p.1 = some .free
  cell:∀ p ∈ names,p.2 ≠ .cell
  loc:∀ p ∈ names,p.2 = .local→names.lookup p.1 = some .local
theorem blk_of {N:List Str} {ok:Str→Option NameKind} {names:List (Str × NameKind)} {own:List Str} {fr:List Nat} {N':List Str} (h:blkChk N ok names own fr N' = true):Blk N ok names own fr N':=by
  unfold blkChk at h
  rw [Bool.and_eq_true,Bool.and_eq_true] at h
  obtain ⟨⟨h1,h2⟩,h3⟩:=h
  have h3':=List.all_eq_true.mp h3
  refine ⟨of_decide_eq_true h1,fun j hj=>?_,fun p hp e=>?_,fun p hp e=>?_,fun p hp e=>?_⟩
  · have q:=List.all_eq_true.mp h2 j hj
    rw [Bool.and_eq_true] at q
    exact ⟨of_decide_eq_true q.1,isFr_eq q.2⟩
  · have q:=h3' p hp
    rw [e] at q
    exact isCF_eq q
  · have q:=h3' p hp
    rw [e] at q
    cases q
  · have q:=h3' p hp
    rw [e] at q
    exact isLo_eq q
def mkS (own:List Str) (fr:List Nat) (σ:St):St:=own.map (fun _=>none) ++ fr.map fun j=>(σ[j]?).getD none
theorem clos (sc:Scope) (env:Env) (h:∀ p ∈ sc.names,p.2 = .free→∃ c,env.cells.lookup p.1 = some c) :
    ∃ cl,closureFor sc env = pure cl∧(∀ x c,cl.lookup x = some c→env.cells.lookup x = some c)∧∀ p ∈ sc.names,p.2 = .free→cl.lookup p.1 = env.cells.lookup p.1:=by
  unfold closureFor
  have all:∀ (l:List (Str × NameKind)) (acc:List (Str × Addr)),(∀ p ∈ l,p.2 = .free→∃ c,env.cells.lookup p.1 = some c)→(∀ x c,acc.lookup x = some c→env.cells.lookup x = some c) →
      ∃ cl,(forIn l acc fun (p:Str × NameKind) (r:List (Str × Addr))=>(match p with
        | (name,kind)=>if (kind == NameKind.free) = true then (do let a ← cellOf env name; pure (ForInStep.yield ((name,a) :: r))) else pure (ForInStep.yield r):Sem (ForInStep (List (Str × Addr))))) = pure cl ∧
        (∀ x c,cl.lookup x = some c→env.cells.lookup x = some c)∧(∀ p ∈ l,p.2 = .free→cl.lookup p.1 = env.cells.lookup p.1)∧∀ x,acc.lookup x = env.cells.lookup x→cl.lookup x = env.cells.lookup x:=by
    intro l
    induction l with
    | nil=>intro acc _ ha; exact ⟨acc,rfl,ha,fun p hp=>(by simp at hp),fun x e=>e⟩
    | cons p r ih =>
      intro acc hl ha
      obtain ⟨n,k⟩:=p
      rw [List.forIn_cons]
      by_cases hk:k = .free
      · subst hk
        obtain ⟨c,hc⟩:=hl (n,.free) List.mem_cons_self rfl
        have hce:cellOf env n = pure c:=by unfold cellOf; rw [hc]
        obtain ⟨cl,e1,e2,e3,e4⟩:=ih ((n,c) :: acc) (fun p hp=>hl p (List.mem_cons_of_mem _ hp)) (fun x c' e=>by
          rw [List.lookup_cons] at e
          cases hx:x == n with
          | true =>
            rw [hx] at e
            have:x = n:=by simpa using hx
            subst this
            cases e
            exact hc
          | false=>rw [hx] at e; exact ha x c' e)
        refine ⟨cl,?_,e2,fun p hp e=>?_,fun x e=>e4 x ?_⟩
        · simp only [beq_self_eq_true,if_true,hce]
          exact e1
        · rcases List.mem_cons.mp hp with rfl | hp
          · exact e4 n (by rw [List.lookup_cons]; simp [hc])
          · exact e3 p hp e
        · rw [List.lookup_cons]
          cases hx:x == n with
          | true =>
            have:x = n:=by simpa using hx
            subst this
            simp [hc]
          | false=>exact e
      · have hb:(k == NameKind.free) = false:=by simpa using hk
        obtain ⟨cl,e1,e2,e3,e4⟩:=ih acc (fun p hp=>hl p (List.mem_cons_of_mem _ hp)) ha
        refine ⟨cl,?_,e2,fun p hp e=>?_,e4⟩
        · simp only [hb,Bool.false_eq_true,if_false]
          exact e1
        · rcases List.mem_cons.mp hp with rfl | hp
          · exact absurd e hk
          · exact e3 p hp e
  obtain ⟨cl,e1,e2,e3,_⟩:=all sc.names [] h (fun x c e=>by simp at e)
  refine ⟨cl,?_,e2,e3⟩
  have e1':=congrArg (fun t:Sem (List (Str × Addr))=>t >>= fun cs=>pure cs) e1
  first
    | exact e1'
    | (simp only [pure_bind] at e1'; exact e1')
    | (refine Eq.trans ?_ e1'; rfl)
    | (dsimp only at e1' ⊢; exact e1')
def Cx.blk (X:Cx) (sc:Scope) (cl:List (Str × Addr)) (C:Addr) (N:List Str) (s:Shared) (H:Hp) (fp:List Addr):Cx where
  prog:=X.prog
  w:=X.w
  K:=X.K
  mg:=X.mg
  base:=X.base
  A:=X.A
  N:=N
  s₀:=s
  H₀:=H
  env:=compEnvC sc cl C X.env
  outer:=X.stack
  stack:=X.stack
  ex:=fp
  fn:=fun _=>false
  calm:=X.calm
  pn:=[]
  xe:=fun _ _=>False
section
variable {X:Cx} {pins:List (Addr × Obj)} {σ:St} {H:Hp} {s:Shared} {sc:Scope} {cl:List (Str × Addr)} {own:List Str} {fr:List Nat} {N':List Str} {fp:List Addr}
theorem blk_start (I:Inv X pins σ H s) (B:Blk X.N X.env.kindOf sc.names own fr N') (hk:sc.kind = .function)
    (sub:∀ x c,cl.lookup x = some c→X.env.cells.lookup x = some c) (has:∀ p ∈ sc.names,p.2 = .free→cl.lookup p.1 = X.env.cells.lookup p.1)
    (f2:∀ b ∈ fp,FpOk X pins H b) (fo:∀ b ∈ fp,b < s.heap.objs.size) {h1:Heap} {tk:Nat} {C D:Addr} {n:Nat} (eD:D = s.heap.objs.size) (eC:s.heap.objs.size < C)
    (hns:h1.Ns C (fun _=>none)) (old:∀ b o,s.heap.get? b = some o→h1.get? b = some o) (hD:h1.get? D = some { cls:=.type "list",data:=.seq ([]:List Value).toArray n }) :
    Inv (X.blk sc cl C N' s H fp) [] (mkS own fr σ) (upd H D (.lst [])) { s with heap:=h1,toks:=tk }:=by
  have hcells:∀ x c,cl.lookup x = some c→c < s.heap.objs.size:=fun x c e=>by
    obtain ⟨v,q⟩:=I.cell x c (sub x c e)
    exact q.lt
  have hDn:H D = none:=I.hok.fresh (Nat.le_of_eq eD.symm)
  have kind:∀ x,(X.blk sc cl C N' s H fp).env.kindOf x = (sc.names.lookup x).map (rk X.env x):=fun x=>relab_lookup sc X.env x
  refine ⟨⟨I.ok.mod,hk,I.ok.glob,I.ok.blt,Nat.le_of_lt eC,fun x y c e1 e2=>I.ok.inj x y c (sub x c e1) (sub y c e2),fun x hx=>?_,(fun x c e=>nomatch (show false = true from e)),I.ok.hd,I.ok.frames,.inl rfl,fun b hb=>⟨?_,fun x c e=>?_⟩,I.bs,Nat.le_trans I.ok.bsz I.sz,fun b o e hb=>?_,fun b hb=>?_,I.stack,I.stkFree⟩,
    rfl,I.bare,Un.laid old (Nat.le_of_eq eD.symm) hDn,⟨_,hns,fun i x v e1 e2 e3=>?_⟩,fun x c e=>?_,?_,fun x c e=>?_,fun p hp=>?_,I.hok.laid old (Nat.le_of_eq eD.symm) ⟨Nat.zero_le _,[],n,.nil,hD⟩,?_⟩
  · have hx':(sc.names.lookup x).map (rk X.env x) = some .cell∨(sc.names.lookup x).map (rk X.env x) = some .free:=by
      rw [← kind x]; exact hx
    cases q:sc.names.lookup x with
    | none=>rw [q] at hx'; simp at hx'
    | some k =>
      have hm:=PySem.mem_of_lookup q
      by_cases hf:k = .free
      · subst hf
        show ∃ c,cl.lookup x = some c
        rw [has _ hm rfl]
        have z:=B.free _ hm rfl
        exact I.ok.has x z
      · rw [q] at hx'
        simp only [Option.map_some,rk_not hf] at hx'
        rcases hx' with z | z
        · exact absurd (Option.some.inj z) (B.cell _ hm)
        · exact absurd (Option.some.inj z) hf
  · exact Nat.ne_of_lt (Nat.lt_trans (fo b hb) eC)
  · exact (f2 b hb).2.2.2.2.1 x c (sub x c e)
  · rcases (f2 b hb).2.2.2.1 with z | z
    · exact I.ok.noex b o e z
    · exact absurd (Nat.lt_of_lt_of_le (Heap.lt_size e) (Nat.le_trans I.ok.bsz z)) (Nat.lt_irrefl _)
  · intro z
    rcases List.mem_cons.mp (I.stkSub b z) with e | e
    · exact (f2 b hb).2.1 e
    · exact (f2 b hb).2.2.1 e
  ·
    have e1':N'[i]? = some x:=e1
    have hi:¬ i < own.length:=fun z=>by
      unfold mkS at e2
      rw [List.getElem?_append_left (by simpa using z),List.getElem?_map,List.getElem?_eq_getElem z] at e2
      cases e2
    unfold mkS at e2
    rw [List.getElem?_append_right (by simpa using hi),List.length_map,List.getElem?_map] at e2
    rw [B.eN,List.getElem?_append_right (by simpa using hi),List.getElem?_map] at e1'
    cases q:fr[i - own.length]? with
    | none=>rw [q] at e2; cases e2
    | some j =>
      rw [q] at e2 e1'
      simp only [Option.map_some,Option.some.injEq] at e2 e1'
      obtain ⟨hj,hfr⟩:=B.fr j (List.mem_of_getElem? q)
      have ej:X.N[j]? = some x:=by
        rw [← e1',List.getD_eq_getElem?_getD,List.getElem?_eq_getElem hj]; rfl
      have eσ:σ[j]? = some (some v):=by
        cases z:σ[j]? with
        | none=>rw [z] at e2; cases e2
        | some o=>rw [z] at e2; simp only [Option.getD_some] at e2; rw [e2]
      rw [e1'] at hfr
      have hm:=PySem.mem_of_lookup hfr
      have hok:=B.free _ hm rfl
      obtain ⟨m0,hn0,hl0⟩:=I.loc
      have hv:Vis X.env.scope x:=by
        rcases hok with z | z
        · exact .inr (.inl z)
        · exact .inr (.inr z)
      obtain ⟨u,r,l⟩:=hl0 j x v ej eσ hv
      refine ⟨u,r,?_⟩
      rcases l with ⟨z,_⟩ | ⟨_,c,hc,o,ho,hd⟩
      · have hok':X.env.kindOf x = some .cell∨X.env.kindOf x = some .free:=hok
        rw [z] at hok'
        rcases hok' with y | y <;> cases y
      · refine .inr ⟨?_,c,?_,o,old c o ho,hd⟩
        · rw [kind x,hfr]
          rcases rk_free (env:=X.env) (x:=x) with y | y
          · exact .inl (by rw [Option.map_some,y])
          · exact .inr (by rw [Option.map_some,y])
        · show cl.lookup x = some c
          have z:=has _ hm rfl
          exact z.trans hc
  · obtain ⟨v,o,ho,hd⟩:=I.cell x c (sub x c e)
    exact ⟨v,o,old c o ho,hd⟩
  · show upd H D _ C = none
    rw [upd_ne (by rw [eD]; exact Nat.ne_of_gt eC)]
    exact I.hok.fresh (Nat.le_of_lt eC)
  · show upd H D _ c = none
    rw [upd_ne (by rw [eD]; exact Nat.ne_of_lt (hcells x c e))]
    exact I.freeC x c (sub x c e)
  · exact absurd (show p ∈ ([]:List (Addr × Obj)) from hp) (by simp)
  · show (mkS own fr σ).length = N'.length
    rw [B.eN]
    simp [mkS]
theorem blk_end {C:Addr} {σ':St} {H':Hp} {s':Shared} (I:Inv X pins σ H s) (f2:∀ b ∈ fp,FpOk X pins H b) (J:Inv (X.blk sc cl C N' s H fp) [] σ' H' s'):Inv X pins σ H' s' :=
  I.call' (ch:=fp) J.os J.base J.hok J.bare fun b hb=>⟨(f2 b hb).2.2.2.1,(f2 b hb).2.1,(f2 b hb).2.2.2.2.1,(f2 b hb).2.2.2.2.2⟩
theorem Inv.young {C:Addr} {s0:Shared} {H0:Hp} {σ0:St} {h':Heap} (I0:Inv X pins σ0 H0 s0) (I:Inv X pins σ H s) (hC:s0.heap.objs.size ≤ C) (hn:H C = none) (hs:Heap.SameBut C s.heap h'):Inv X pins σ H { s with heap:=h' } :=
  I.turned (t':=s.toks) (fun b o hb e=>(hs.2 b hb).trans e) hn (Nat.ne_of_gt (Nat.lt_of_lt_of_le I0.lt hC)) (.inr (Nat.le_trans I0.sz hC))
    (fun x c e z=>by
      obtain ⟨v,q⟩:=I0.cell x c e
      exact absurd (Nat.lt_of_lt_of_le q.lt (by rw [z]; exact hC)) (Nat.lt_irrefl _))
    (fun p hp z=>absurd (Nat.lt_of_lt_of_le (Heap.lt_size (I0.pin p hp).1) (by rw [z]; exact hC)) (Nat.lt_irrefl _))
end
def PIfs (X:Cx) (ifs:List Expr) (t:TT):Prop :=
  ∀ (pins:List (Addr × Obj)) (s:Shared) (σ:St) (H:Hp) (Q:Bool→Hp→Prop),Inv X pins σ H s→t σ H Q →
    wpAny (model X.prog X.w) X.A (forIn ifs true fun c r=>if r = true then do let ok ← isTrue c X.env (eval c X.env); pure (ForInStep.yield ok) else pure (ForInStep.yield r)) (TP X pins σ Q) X.xe s
def tTrue:TT:=fun _ H Q=>Q true H
theorem pifs_nil {X:Cx}:PIfs X [] tTrue:=fun pins s σ H Q I h=>wpAny_tests_nil ⟨H,I,h⟩
section
variable {prog:Program} {w:World} {A:Around} {R:Result→Shared→Prop} {s:Shared}
theorem compLoop_any {elt target iter:Expr} {ifs:List Expr} {scope:Scope} {pos:Pos} {it acc:Value} {env:Env} (J:Nat→Shared→Prop)
    (turn:∀ n s,J n s→wpAny (model prog w) A (pyNext it) (fun r s₁=>match r with
      | none=>R (.ok .next) s₁
      | some v=>wpAny (model prog w) A (letOwnedTupleGo target it v) (fun _ s₂=>wpAny (model prog w) A (assign target env v) (fun _ s₃ =>
          wpAny (model prog w) A (forIn ifs true fun c r=>if r = true then do let ok ← isTrue c env (eval c env); pure (ForInStep.yield ok) else pure (ForInStep.yield r)) (fun ok s₄ =>
            if ok = true then wpAny (model prog w) A (eval elt env) (fun x s₅=>wpAny (model prog w) A (call (.builtin "list.append") [acc,x]) (fun _ s₆=>∃ m,m < n∧J m s₆) (fun _ _=>False) s₅) (fun _ _=>False) s₄
            else ∃ m,m < n∧J m s₄) (fun _ _=>False) s₃) (fun _ _=>False) s₂) (fun _ _=>False) s₁) (fun _ _=>False) s)
    (n:Nat) (h:J n s):codeAny (model prog w) A (.compLoop (.ListComp elt [⟨target,iter,ifs,0⟩] scope pos) 0 it acc env) R s:=by
  refine codeAny_loop rfl J (fun n s hJ=>?_) n h
  show wpAny (model prog w) A ((compTurn (.ListComp elt [⟨target,iter,ifs,0⟩] scope pos) 0 it acc env).onRaise fun x=>do noteFrame x env; theTreesLotGoes x) _ _ s
  refine wpAny_noted (wpAny_noRaise ?_)
  rw [compTurn_list]
  refine wpAny_bind (wpAny_standAt (wpAny_bind (thn (turn n s hJ) fun r s₁ h₁=>?_)))
  cases r with
  | none=>exact wpAny_pure h₁
  | some v =>
    refine wpAny_bind (thn h₁ fun _ s₂ h₂=>wpAny_bind (thn h₂ fun _ s₃ h₃=>wpAny_bind (thn h₃ fun ok s₄ h₄=>?_)))
    cases ok with
    | false=>exact wpAny_pure ⟨rfl,h₄⟩
    | true=>exact wpAny_bind (wpAny_bind (thn h₄ fun x s₅ h₅=>wpAny_bind (thn h₅ fun _ s₆ h₆=>wpAny_pure (wpAny_pure ⟨rfl,h₆⟩))))
end
def tComp (wi:TI) (mk:St→St) (g:TG) (tt:TT) (te:TE):TE:=fun σ H Q=>wi σ H fun J H1=>∀ D,H1 D = none→∃ W:Nat→Nat→St→Hp→Prop,(∃ m,W 0 m (mk σ) (upd H1 D (.lst [])))∧∀ i m σ' H',W i m σ' H' →
  (J.stop i H'∧Q (.ref D) H') ∨
  (J.go i H'∧∃ Nx:St→Hp→Prop,(∀ σ'' H'',Nx σ'' H''→∃ m',m' < m∧W (i + 1) m' σ'' H'')∧∀ x H'',J.yld i H' x H''→g x σ' H'' fun σ2 H2=>tt σ2 H2 fun b H3 =>
    if b = true then te σ2 H3 fun v H4=>∃ ys,H4 D = some (.lst ys)∧ys.length < sizeLine∧Nx σ2 (upd H4 D (.lst (ys ++ [v]))) else Nx σ2 H3)
section
variable {X:Cx} {elt iter tg:Expr} {ifs:List Expr} {sc:Scope} {pos:Pos} {wi:TI} {own:List Str} {fr:List Nat} {N':List Str} {g:TG} {tt:TT} {te:TE}
theorem comp_run {pins:List (Addr × Obj)} {σ:St} {H:Hp} {s:Shared} {cl:List (Str × Addr)} {fp:List Addr} {it:Addr} {J:It} {tn:Nat→Heap→Prop} {E:Value→Shared→Prop} {Q:VK} {RR:Value→Addr→Result→Shared→Prop}
    (I:Inv X pins σ H s) (B:Blk X.N X.env.kindOf sc.names own fr N') (hk:sc.kind = .function) (hc:X.calm = true)
    (sub:∀ x c,cl.lookup x = some c→X.env.cells.lookup x = some c) (has:∀ p ∈ sc.names,p.2 = .free→cl.lookup p.1 = X.env.cells.lookup p.1)
    (T:Turn X.prog X.w X.K tg J fp it tn) (st:tn 0 s.heap) (f2:∀ b ∈ fp,FpOk X pins H b)
    (hg:∀ cl C s H fp,PG (X.blk sc cl C N' s H fp) tg g) (ht:∀ cl C s H fp,PIfs (X.blk sc cl C N' s H fp) ifs tt) (he:∀ cl C s H fp,PE (X.blk sc cl C N' s H fp) elt te)
    (hw:∀ D,H D = none→∃ W:Nat→Nat→St→Hp→Prop,(∃ m,W 0 m (mkS own fr σ) (upd H D (.lst [])))∧∀ i m σ' H',W i m σ' H' →
      (J.stop i H'∧Q (.ref D) H') ∨
      (J.go i H'∧∃ Nx:St→Hp→Prop,(∀ σ'' H'',Nx σ'' H''→∃ m',m' < m∧W (i + 1) m' σ'' H'')∧∀ x H'',J.yld i H' x H''→g x σ' H'' fun σ2 H2=>tt σ2 H2 fun b H3 =>
        if b = true then te σ2 H3 fun v H4=>∃ ys,H4 D = some (.lst ys)∧ys.length < sizeLine∧Nx σ2 (upd H4 D (.lst (ys ++ [v]))) else Nx σ2 H3))
    (hRR:∀ D C σ' H' s',D = s.heap.objs.size→s.heap.objs.size ≤ C→Inv (X.blk sc cl C N' s H fp) [] σ' H' s'→Q (.ref D) H'→RR (.ref D) C (.ok .next) s') :
    wpAny (model X.prog X.w) X.A (newList []) (fun acc s₃=>wpAny (model X.prog X.w) X.A (newFunctionEnv sc X.env.globals cl [] X.env.qual none .none (some X.env)) (fun cenv s₄ =>
      codeAny (model X.prog X.w) X.A (.compStart (.ListComp elt [⟨tg,iter,ifs,0⟩] sc pos) 0 (.ref it) acc { cenv with scope:=relabel sc X.env }) (RR acc cenv.locals) s₄) E s₃) E s:=by
  have fo:∀ b ∈ fp,b < s.heap.objs.size:=fun b hb=>by
    obtain ⟨o,e,_⟩:=T.obj _ _ st b hb
    exact Heap.lt_size e
  refine wpAny_newObj_type (wpAny_newFunctionEnv B.cell (by intro y hy; simp at hy) (fun h₁ hns₁ hsb₁=>?_) hk)
  dsimp only at hns₁ hsb₁ ⊢
  generalize hH2:s.heap.push { cls:=.type "list",dict:=none,data:=.seq ([]:List Value).toArray } = G at hns₁ hsb₁ ⊢
  have hG:G.objs.size = s.heap.objs.size + 1:=by rw [← hH2,Heap.size_push]
  have hlt:s.heap.objs.size < G.objs.size:=by rw [hG]; exact Nat.lt_succ_self _
  have old:∀ b o,s.heap.get? b = some o→h₁.get? b = some o:=fun b o e =>
    hsb₁.extBut b o (Nat.ne_of_lt (Nat.lt_trans (Heap.lt_size e) hlt)) (Heap.get?_push_of_some _ (hH2 ▸ Heap.get?_push_of_some _ e))
  have hacc:h₁.get? s.heap.objs.size = some { cls:=.type "list",data:=.seq ([]:List Value).toArray } :=
    hsb₁.extBut _ _ (Nat.ne_of_lt hlt) (Heap.get?_push_of_some _ (hH2 ▸ Heap.get?_push_size _ rfl))
  obtain ⟨W,⟨m0,w0⟩,turn⟩:=hw s.heap.objs.size (I.hok.fresh (Nat.le_refl _))
  have st₁:tn 0 h₁:=T.keep _ _ _ st fun b _ o e=>old b o e
  have hns':h₁.Ns G.objs.size (fun _=>none):=by
    have e:(fun x=>([]:List (Str × Value)).reverse.lookup x) = (fun _:Str=>(none:Option Value)):=by funext x; rfl
    first
      | exact hns₁
      | (rw [e] at hns₁; exact hns₁)
  have loop:∀ s₃:Shared,s₃ = { s with heap:=h₁,toks:=s.toks + ([]:List (Str × Value)).length } →
      codeAny (model X.prog X.w) X.A (.compLoop (.ListComp elt [⟨tg,iter,ifs,0⟩] sc pos) 0 (.ref it) (.ref s.heap.objs.size) (compEnvC sc cl G.objs.size X.env)) (RR (.ref s.heap.objs.size) G.objs.size) s₃:=by
    rintro s₃ rfl
    have I0:=blk_start (tk:=s.toks + ([]:List (Str × Value)).length) I B hk sub has f2 fo rfl hlt hns' old hacc
    have stat:∀ {pins':List (Addr × Obj)} {H':Hp},pins' = []→(∀ b ∈ fp,H' b = none)→∀ b ∈ fp,FpOk (X.blk sc cl G.objs.size N' s H fp) pins' H' b:=fun ep hn b hb=>by
      subst ep
      refine ⟨hn b hb,Nat.ne_of_lt (Nat.lt_trans (fo b hb) hlt),fun z=>?_,.inl hb,fun x c e=>(f2 b hb).2.2.2.2.1 x c (sub x c e),fun p hp=>absurd (show p ∈ ([]:List (Addr × Obj)) from hp) (by simp)⟩
      rcases List.mem_cons.mp (I.stkSub b z) with e | e
      · exact (f2 b hb).2.1 e
      · exact (f2 b hb).2.2.1 e
    have fr0:∀ b ∈ fp,upd H s.heap.objs.size (.lst []) b = none:=fun b hb=>by
      rw [upd_ne (Nat.ne_of_lt (fo b hb))]; exact (f2 b hb).1
    refine compLoop_any (fun n s'=>∃ i σ' H',Inv (X.blk sc cl G.objs.size N' s H fp) [] σ' H' s'∧tn i s'.heap∧(∀ b ∈ fp,H' b = none)∧W i n σ' H') ?_ m0 ⟨0,_,_,I0,st₁,fr0,w0⟩
    rintro n s3 ⟨i,σ3,H3,I3,st3,fr3,w3⟩
    rcases turn i n σ3 H3 w3 with ⟨stop,qn⟩ | ⟨go,Nx,hN,step⟩
    · refine thn (T.done (X.blk sc cl G.objs.size N' s H fp) rfl rfl rfl hc i [] s3 σ3 H3 _ I3 (stat rfl fr3) st3 stop) fun r s4 ⟨hr,I4⟩=>?_
      subst hr
      exact hRR _ _ _ _ _ rfl (Nat.le_of_lt hlt) I4 qn
    · refine thn (T.item (X.blk sc cl G.objs.size N' s H fp) rfl rfl rfl hc i [] s3 σ3 H3 _ I3 (stat rfl fr3) st3 go) fun r s4 ⟨u,hr,h4⟩=>?_
      subst hr
      refine thn h4 fun _ s5 ⟨x,H5,I5,r5,y5,st5,fr5⟩=>?_
      have I5':=I5.pinned (stat rfl fr5) (T.obj _ _ st5)
      refine thn (hg cl G.objs.size s H fp _ s5 σ3 H5 x u _ I5' r5 (step x H5 y5)) fun _ s6 ⟨σ6,H6,I6,q6⟩=>?_
      refine thn (ht cl G.objs.size s H fp _ s6 σ6 H6 _ I6 q6) fun ok s7 ⟨H7,I7,q7⟩=>?_
      have again:∀ {s8:Shared} {H8:Hp},Inv (X.blk sc cl G.objs.size N' s H fp) ([] ++ pinsAt fp s5.heap) σ6 H8 s8→Nx σ6 H8 →
          ∃ m,m < n∧∃ i σ' H',Inv (X.blk sc cl G.objs.size N' s H fp) [] σ' H' s8∧tn i s8.heap∧(∀ b ∈ fp,H' b = none)∧W i m σ' H':=fun {s8 H8} I8 n8=>by
        obtain ⟨m',hm,w8⟩:=hN σ6 H8 n8
        refine ⟨m',hm,i + 1,σ6,H8,I8.unpinned,T.keep _ _ _ st5 fun b hb o e=>(I8.pin (b,o) (List.mem_append_right _ (List.mem_append_right _ (mem_pinsAt hb e)))).1,fun b hb=>?_,w8⟩
        obtain ⟨o,e,d⟩:=T.obj _ _ st5 b hb
        exact (I8.pin (b,o) (List.mem_append_right _ (List.mem_append_right _ (mem_pinsAt hb e)))).2.1
      cases ok with
      | false =>
        rw [if_neg Bool.false_ne_true] at q7 ⊢
        exact again I7 q7
      | true =>
        rw [if_pos rfl] at q7 ⊢
        refine thn (he cl G.objs.size s H fp _ s7 σ6 H7 _ I7 q7) fun y s8 ⟨v,H8,I8,rv,ys,hD8,hz,nx⟩=>?_
        refine thn (mt_append (X:=X.blk sc cl G.objs.size N' s H fp) _ s8 σ6 H8 (.ref s.heap.objs.size) [v] (.ref s.heap.objs.size) [y] (fun _ H9=>Nx σ6 H9) I8 rfl (.cons rv .nil) ⟨_,ys,v,rfl,rfl,hD8,hz,nx⟩) fun _ s9 ⟨_,H9,I9,_,n9⟩=>?_
        exact again I9 n9
  exact codeAny_compStart_list (loop _ rfl) (T.self _ 0 _ _ _ st₁ (loop _ rfl))
theorem pe_comp (hi:PI X tg iter wi) (hk:sc.kind = .function) (hb:blkChk X.N X.env.kindOf sc.names own fr N' = true) (hc:X.calm = true)
    (hg:∀ cl C s H fp,PG (X.blk sc cl C N' s H fp) tg g) (ht:∀ cl C s H fp,PIfs (X.blk sc cl C N' s H fp) ifs tt) (he:∀ cl C s H fp,PE (X.blk sc cl C N' s H fp) elt te)
    (hs:∀ x,foldedSetIterable iter X.env x = pure x:=by intro _; rfl):PE X (.ListComp elt [⟨tg,iter,ifs,0⟩] sc pos) (tComp wi (mkS own fr) g tt te):=by
  intro pins s σ H Q I h
  have B:=blk_of hb
  obtain ⟨cl,hcl,sub,has⟩:=clos sc X.env fun p hp e=>I.ok.has p.1 (B.free p hp e)
  rw [eval_ListComp]
  refine wpAny_comprehension_free (use:=none) rfl hs hcl hk B.loc (thn (hi pins s σ H _ I h) fun v s1 h1=>thn h1 fun itv s2 h2=>?_)
  obtain ⟨it,fp,tn,J,H2,e,I2,T,st2,f2,body⟩:=h2
  subst e
  refine comp_run (RR:=fun acc C=>compPost (model X.prog X.w) X.A X.xe none (EP X pins σ Q) acc C) I2 B hk hc sub has T st2 f2 hg ht he body ?_
  intro D C σ' H' s' eD hC J' q
  obtain ⟨m,hn,_⟩:=J'.loc
  refine ⟨m,hn,fun h' hs'=>⟨.ref D,H',?_,rfl,q⟩⟩
  exact Inv.young I2 (blk_end I2 f2 J') hC J'.free hs'
end
end L2
end
section
namespace L2
open PySem PySem.Spec PyProof.Rows
inductive D where
  | non | bl (b:Bool) | int (i:Int) | str (x:Str) | tup (ds:List D)
  | lst
mutual
def Dat (K:PySem.W.Frag) (H:Hp):D→V→Prop
  | .non,v=>v = .non
  | .bl b,v=>v = .bl b
  | .int i,v=>v = .int i
  | .str x,v=>v = .str x
  | .tup ds,v=>∃ a vs,v = .ref a∧SqT K H a vs∧Dats K H ds vs
  | .lst,v=>∃ a vs,v = .ref a∧SqL K H a vs
def Dats (K:PySem.W.Frag) (H:Hp):List D→List V→Prop
  | [],vs=>vs = []
  | d :: ds,vs=>∃ v r,vs = v :: r∧Dat K H d v∧Dats K H ds r
end
section
variable {K:PySem.W.Frag} {H H':Hp}
theorem Dat.tupI {a:Addr} {vs:List V} {ds:List D} (h:SqT K H a vs) (r:Dats K H ds vs):Dat K H (.tup ds) (.ref a):=by
  unfold Dat; exact ⟨a,vs,rfl,h,r⟩
theorem Dats.nil:Dats K H [] []:=by unfold Dats; rfl
theorem Dats.cons {d:D} {v:V} {ds:List D} {vs:List V} (h:Dat K H d v) (r:Dats K H ds vs):Dats K H (d :: ds) (v :: vs):=by
  unfold Dats; exact ⟨v,vs,rfl,h,r⟩
theorem Dat.intI (i:Int):Dat K H (.int i) (.int i):=by unfold Dat; rfl
theorem Dat.strI (x:Str):Dat K H (.str x) (.str x):=by unfold Dat; rfl
theorem Dat.blI (b:Bool):Dat K H (.bl b) (.bl b):=by unfold Dat; rfl
theorem Dat.nonI:Dat K H .non .non:=by unfold Dat; rfl
theorem Dat.lstI {a:Addr} {vs:List V} (h:SqL K H a vs):Dat K H .lst (.ref a):=by unfold Dat; exact ⟨a,vs,rfl,h⟩
theorem Dat.tupE {v:V} {ds:List D} (h:Dat K H (.tup ds) v):∃ a vs,v = .ref a∧SqT K H a vs∧Dats K H ds vs:=by
  unfold Dat at h; exact h
theorem Dat.intE {v:V} {i:Int} (h:Dat K H (.int i) v):v = .int i:=by unfold Dat at h; exact h
theorem Dat.strE {v:V} {x:Str} (h:Dat K H (.str x) v):v = .str x:=by unfold Dat at h; exact h
theorem Dat.blE {v:V} {b:Bool} (h:Dat K H (.bl b) v):v = .bl b:=by unfold Dat at h; exact h
theorem Dat.nonE {v:V} (h:Dat K H .non v):v = .non:=by unfold Dat at h; exact h
theorem Dat.lstE {v:V} (h:Dat K H .lst v):∃ a vs,v = .ref a∧SqL K H a vs:=by unfold Dat at h; exact h
theorem Dats.nilE {vs:List V} (h:Dats K H [] vs):vs = []:=by unfold Dats at h; exact h
theorem Dats.consE {d:D} {ds:List D} {vs:List V} (h:Dats K H (d :: ds) vs):∃ v r,vs = v :: r∧Dat K H d v∧Dats K H ds r:=by
  unfold Dats at h; exact h
structure Grow (K:PySem.W.Frag) (H H':Hp):Prop where
  tup:∀ a xs,SqT K H a xs→SqT K H' a xs
  lst:∀ a xs,SqL K H a xs→∃ ys,SqL K H' a ys
mutual
theorem Dat.mono (g:Grow K H H'):∀ (d:D) {v:V},Dat K H d v→Dat K H' d v
  | .non,v,h=>by unfold Dat at h ⊢; exact h
  | .bl b,v,h=>by unfold Dat at h ⊢; exact h
  | .int i,v,h=>by unfold Dat at h ⊢; exact h
  | .str x,v,h=>by unfold Dat at h ⊢; exact h
  | .tup ds,v,h=>by
    obtain ⟨a,vs,e,q,r⟩:=h.tupE
    subst e
    exact Dat.tupI (g.tup _ _ q) (Dats.mono g ds r)
  | .lst,v,h=>by
    obtain ⟨a,vs,e,q⟩:=h.lstE
    subst e
    obtain ⟨ys,q'⟩:=g.lst _ _ q
    exact Dat.lstI q'
theorem Dats.mono (g:Grow K H H'):∀ (ds:List D) {vs:List V},Dats K H ds vs→Dats K H' ds vs
  | [],vs,h=>by unfold Dats at h ⊢; exact h
  | d :: ds,vs,h=>by
    obtain ⟨v,r,e,h1,h2⟩:=h.consE
    subst e
    exact Dats.cons (Dat.mono g d h1) (Dats.mono g ds h2)
end
theorem Dats.length:∀ {ds:List D} {vs:List V},Dats K H ds vs→ds.length = vs.length
  | [],vs,h=>by rw [h.nilE]; rfl
  | d :: ds,vs,h=>by
    obtain ⟨v,r,e,h1,h2⟩:=h.consE
    subst e
    rw [List.length_cons,List.length_cons,Dats.length h2]
theorem Dats.get:∀ {ds:List D} {vs:List V} {i:Nat} {d:D},Dats K H ds vs→ds[i]? = some d→∃ v,vs[i]? = some v∧Dat K H d v
  | [],_,i,d,_,e=>by simp at e
  | d0 :: ds,vs,0,d,h,e=>by
    obtain ⟨v,r,e1,h1,h2⟩:=h.consE
    subst e1
    simp at e
    subst e
    exact ⟨v,rfl,h1⟩
  | d0 :: ds,vs,i + 1,d,h,e=>by
    obtain ⟨v,r,e1,h1,h2⟩:=h.consE
    subst e1
    obtain ⟨u,q1,q2⟩:=Dats.get (i:=i) (d:=d) h2 (by simpa using e)
    exact ⟨u,by simpa using q1,q2⟩
theorem Dats.getV:∀ {ds:List D} {vs:List V} {i:Nat} {v:V},Dats K H ds vs→vs[i]? = some v→∃ d,ds[i]? = some d∧Dat K H d v
  | [],vs,i,v,h,e=>by rw [h.nilE] at e; simp at e
  | d0 :: ds,vs,0,v,h,e=>by
    obtain ⟨u,r,e1,h1,h2⟩:=h.consE
    subst e1
    simp at e
    subst e
    exact ⟨d0,rfl,h1⟩
  | d0 :: ds,vs,i + 1,v,h,e=>by
    obtain ⟨u,r,e1,h1,h2⟩:=h.consE
    subst e1
    obtain ⟨d,q1,q2⟩:=Dats.getV (i:=i) (v:=v) h2 (by simpa using e)
    exact ⟨d,by simpa using q1,q2⟩
theorem Dats.append:∀ {ds es:List D} {vs us:List V},Dats K H ds vs→Dats K H es us→Dats K H (ds ++ es) (vs ++ us)
  | [],es,vs,us,h,h'=>by rw [h.nilE]; exact h'
  | d :: ds,es,vs,us,h,h'=>by
    obtain ⟨v,r,e,h1,h2⟩:=h.consE
    subst e
    exact Dats.cons h1 (Dats.append h2 h')
end
mutual
def eqD:D→D→Bool
  | .non,.non=>true
  | .bl a,.bl b=>a == b
  | .int a,.int b=>a == b
  | .bl a,.int b=>(if a then 1 else 0) == b
  | .int a,.bl b=>a == (if b then 1 else 0)
  | .str a,.str b=>a == b
  | .tup a,.tup b=>eqDs a b
  | _,_=>false
def eqDs:List D→List D→Bool
  | [],[]=>true
  | a :: r,b :: q=>eqD a b && eqDs r q
  | _,_=>false
end
mutual
def deepD:D→Nat
  | .tup ds=>deepDs ds + 1
  | _=>0
def deepDs:List D→Nat
  | []=>0
  | d :: ds=>max (deepD d) (deepDs ds)
end
mutual
def noL:D→Bool
  | .tup ds=>noLs ds
  | .lst=>false
  | _=>true
def noLs:List D→Bool
  | []=>true
  | d :: ds=>noL d && noLs ds
end
def eAt (a b:List D) (j:Nat):Bool:=match a[j]?,b[j]? with
  | some x,some y=>eqD x y
  | _,_=>false
theorem all_range_succ (n:Nat) (e:Nat→Bool):(List.range (n + 1)).all e = (e 0 && (List.range n).all fun j=>e (j + 1)):=by
  rw [List.range_succ_eq_map,List.all_cons,List.all_map]
  rfl
theorem eqDs_range:∀ a b:List D,((List.range (min a.length b.length)).all (eAt a b) && a.length == b.length) = eqDs a b
  | [],[]=>by unfold eqDs; rfl
  | [],y :: b=>by unfold eqDs; simp
  | x :: a,[]=>by unfold eqDs; simp
  | x :: a,y :: b=>by
    have ih:=eqDs_range a b
    unfold eqDs
    rw [← ih,List.length_cons,List.length_cons,Nat.succ_min_succ,all_range_succ]
    have e0:eAt (x :: a) (y :: b) 0 = eqD x y:=rfl
    have e1:(fun j=>eAt (x :: a) (y :: b) (j + 1)) = eAt a b:=by
      funext j
      simp [eAt]
    rw [e0,e1,Bool.and_assoc]
    congr 2
    simp
theorem eqDs_rangeL {a b:List D} (h:a.length = b.length):(List.range a.length).all (eAt a b) = eqDs a b:=by
  have q:=eqDs_range a b
  rw [← h,Nat.min_self] at q
  rw [← q]
  simp
mutual
theorem eqD_refl:∀ d:D,noL d = true→eqD d d = true
  | .non,_=>by unfold eqD; rfl
  | .bl b,_=>by unfold eqD; simp
  | .int i,_=>by unfold eqD; simp
  | .str x,_=>by unfold eqD; simp
  | .tup ds,h=>by unfold eqD; unfold noL at h; exact eqDs_refl ds h
  | .lst,h=>by unfold noL at h; cases h
theorem eqDs_refl:∀ ds:List D,noLs ds = true→eqDs ds ds = true
  | [],_=>by unfold eqDs; rfl
  | d :: ds,h=>by
    unfold noLs at h
    rw [Bool.and_eq_true] at h
    unfold eqDs
    rw [eqD_refl d h.1,eqDs_refl ds h.2]
    rfl
end
section
variable {X:Cx} {pins:List (Addr × Obj)} {σ:St} {H:Hp} {s:Shared}
mutual
theorem dat_inj (I:Inv X pins σ H s):∀ (d e:D) {v:V},noL d = true→Dat X.K H d v→Dat X.K H e v→noL e = true→d = e
  | .non,e,v,hn,h,h',hn'=>by
    have z:=h.nonE; subst z
    cases e with
    | non=>rfl
    | bl b=>exact nomatch h'.blE
    | int i=>exact nomatch h'.intE
    | str x=>exact nomatch h'.strE
    | tup ds=>obtain ⟨_,_,q,_⟩:=h'.tupE; exact nomatch q
    | lst=>obtain ⟨_,_,q,_⟩:=h'.lstE; exact nomatch q
  | .bl b,e,v,hn,h,h',hn'=>by
    have z:=h.blE; subst z
    cases e with
    | non=>exact nomatch h'.nonE
    | bl c=>have q:=h'.blE; injection q with q; rw [q]
    | int i=>exact nomatch h'.intE
    | str x=>exact nomatch h'.strE
    | tup ds=>obtain ⟨_,_,q,_⟩:=h'.tupE; exact nomatch q
    | lst=>obtain ⟨_,_,q,_⟩:=h'.lstE; exact nomatch q
  | .int i,e,v,hn,h,h',hn'=>by
    have z:=h.intE; subst z
    cases e with
    | non=>exact nomatch h'.nonE
    | bl c=>exact nomatch h'.blE
    | int j=>have q:=h'.intE; injection q with q; rw [q]
    | str x=>exact nomatch h'.strE
    | tup ds=>obtain ⟨_,_,q,_⟩:=h'.tupE; exact nomatch q
    | lst=>obtain ⟨_,_,q,_⟩:=h'.lstE; exact nomatch q
  | .str x,e,v,hn,h,h',hn'=>by
    have z:=h.strE; subst z
    cases e with
    | non=>exact nomatch h'.nonE
    | bl c=>exact nomatch h'.blE
    | int j=>exact nomatch h'.intE
    | str y=>have q:=h'.strE; injection q with q; rw [q]
    | tup ds=>obtain ⟨_,_,q,_⟩:=h'.tupE; exact nomatch q
    | lst=>obtain ⟨_,_,q,_⟩:=h'.lstE; exact nomatch q
  | .tup ds,e,v,hn,h,h',hn'=>by
    obtain ⟨a,vs,z,q,r⟩:=h.tupE
    subst z
    cases e with
    | non=>exact nomatch h'.nonE
    | bl c=>exact nomatch h'.blE
    | int j=>exact nomatch h'.intE
    | str y=>exact nomatch h'.strE
    | tup es =>
      obtain ⟨a',vs',z,q',r'⟩:=h'.tupE
      cases z
      have ev:=I.tuple_inj q q'
      subst ev
      unfold noL at hn hn'
      rw [dats_inj I ds es hn r r' hn']
    | lst=>unfold noL at hn'; cases hn'
  | .lst,e,v,hn,h,h',hn'=>by unfold noL at hn; cases hn
theorem dats_inj (I:Inv X pins σ H s):∀ (ds es:List D) {vs:List V},noLs ds = true→Dats X.K H ds vs→Dats X.K H es vs→noLs es = true→ds = es
  | [],es,vs,_,h,h',_=>by
    have z:=h.nilE; subst z
    cases es with
    | nil=>rfl
    | cons e es=>obtain ⟨_,_,q,_⟩:=h'.consE; exact nomatch q
  | d :: ds,es,vs,hn,h,h',hn'=>by
    obtain ⟨v,r,z,h1,h2⟩:=h.consE
    subst z
    cases es with
    | nil=>exact nomatch h'.nilE
    | cons e es =>
      obtain ⟨v',r',z,h1',h2'⟩:=h'.consE
      injection z with z1 z2
      subst z1 z2
      unfold noLs at hn hn'
      rw [Bool.and_eq_true] at hn hn'
      rw [dat_inj I d e hn.1 h1 h1' hn'.1,dats_inj I ds es hn.2 h2 h2' hn'.2]
end
end
theorem in1_units (A:Around):A.in1.units = A.units + 1:=rfl
section
variable {X:Cx} {pins:List (Addr × Obj)} {σ:St} {H:Hp} {s:Shared}
theorem deepDs_get:∀ {ds:List D} {j:Nat} {d:D},ds[j]? = some d→deepD d ≤ deepDs ds
  | [],_,_,e=>by simp at e
  | d0 :: ds,0,d,e=>by simp at e; subst e; unfold deepDs; exact Nat.le_max_left _ _
  | d0 :: ds,j + 1,d,e=>by
    have q:=deepDs_get (ds:=ds) (j:=j) (d:=d) (by simpa using e)
    unfold deepDs
    exact Nat.le_trans q (Nat.le_max_right _ _)
theorem noLs_get:∀ {ds:List D} {j:Nat} {d:D},noLs ds = true→ds[j]? = some d→noL d = true
  | [],_,_,_,e=>by simp at e
  | d0 :: ds,0,d,h,e=>by simp at e; subst e; unfold noLs at h; rw [Bool.and_eq_true] at h; exact h.1
  | d0 :: ds,j + 1,d,h,e=>by
    unfold noLs at h
    rw [Bool.and_eq_true] at h
    exact noLs_get (ds:=ds) (j:=j) (d:=d) h.2 (by simpa using e)
theorem eqAt_items {A:Around} {ds es:List D} {xs ys:List V} {us ws:List Value} (n:Nat)
    (all:∀ (d e:D) (x y:V) (u w:Value),deepD d ≤ n→noL d = true→noL e = true→Dat X.K H d x→Dat X.K H e y→RelV x u→RelV y w→SeqAt.EqAt A s u w (eqD d e))
    (hn:deepDs ds ≤ n) (h1:noLs ds = true) (h2:noLs es = true) (r1:Dats X.K H ds xs) (r2:Dats X.K H es ys) (v1:Vals xs us) (v2:Vals ys ws) :
    ∀ j (k1:j < us.toArray.size) (k2:j < ws.toArray.size),SeqAt.EqAt A s us.toArray[j] ws.toArray[j] (eAt ds es j):=by
  intro j k1 k2
  have l1:j < xs.length:=by rw [v1.length]; simpa using k1
  have l2:j < ys.length:=by rw [v2.length]; simpa using k2
  obtain ⟨u,eu,ru⟩:=v1.get (i:=j) (x:=xs[j]) (List.getElem?_eq_getElem l1)
  obtain ⟨w,ew,rw'⟩:=v2.get (i:=j) (x:=ys[j]) (List.getElem?_eq_getElem l2)
  obtain ⟨d,ed,qd⟩:=r1.getV (i:=j) (v:=xs[j]) (List.getElem?_eq_getElem l1)
  obtain ⟨e,ee,qe⟩:=r2.getV (i:=j) (v:=ys[j]) (List.getElem?_eq_getElem l2)
  have z1:us.toArray[j] = u:=by
    have:us[j]? = some u:=eu
    have k1':j < us.length:=by simpa using k1
    rw [List.getElem?_eq_getElem k1'] at this
    simpa using Option.some.inj this
  have z2:ws.toArray[j] = w:=by
    have:ws[j]? = some w:=ew
    have k2':j < ws.length:=by simpa using k2
    rw [List.getElem?_eq_getElem k2'] at this
    simpa using Option.some.inj this
  have z3:eAt ds es j = eqD d e:=by unfold eAt; rw [ed,ee]
  rw [z1,z2,z3]
  exact all d e _ _ u w (Nat.le_trans (deepDs_get ed) hn) (noLs_get h1 ed) (noLs_get h2 ee) qd qe ru rw'
theorem rcAt_tup {A:Around} {ds es:List D} {a b:Addr} {xs ys:List V} (I:Inv X pins σ H s) (hu:A.units < cLine) (n:Nat)
    (all:∀ (d e:D) (x y:V) (u w:Value),deepD d ≤ n→noL d = true→noL e = true→Dat X.K H d x→Dat X.K H e y→RelV x u→RelV y w→SeqAt.EqAt A.in1 s u w (eqD d e))
    (hn:deepDs ds ≤ n) (h1:noLs ds = true) (h2:noLs es = true) (r1:Dats X.K H ds xs) (r2:Dats X.K H es ys) (q1:SqT X.K H a xs) (q2:SqT X.K H b ys) :
    SeqAt.RcAt A s (.ref a) (.ref b) (eqDs ds es)∧SeqAt.RcNeAt A s (.ref a) (.ref b) (!eqDs ds es):=by
  obtain ⟨us,v1,t1,_⟩:=I.tuple q1
  obtain ⟨ws,v2,t2,_⟩:=I.tuple q2
  have hi:=eqAt_items (X:=X) (H:=H) (s:=s) n all hn h1 h2 r1 r2 v1 v2
  have p:=SeqAt.RcAt.tuples (show s.heap.IsTuple a us.toArray from t1) (show s.heap.IsTuple b ws.toArray from t2) hu hi
  have p':=SeqAt.RcNeAt.tuples (show s.heap.IsTuple a us.toArray from t1) (show s.heap.IsTuple b ws.toArray from t2) hu hi
  have e1:us.toArray.size = ds.length:=by rw [List.size_toArray,← v1.length,r1.length]
  have e2:ws.toArray.size = es.length:=by rw [List.size_toArray,← v2.length,r2.length]
  rw [e1,e2,eqDs_range] at p p'
  exact ⟨p,p'⟩
theorem eqAt_D (I:Inv X pins σ H s):∀ (n:Nat) (A:Around) (d e:D) (x y:V) (u w:Value),A.units + n + 1 < cLine→deepD d ≤ n→noL d = true→noL e = true→Dat X.K H d x→Dat X.K H e y→RelV x u→RelV y w→SeqAt.EqAt A s u w (eqD d e):=by
  intro n
  induction n with
  | zero =>
    intro A d e x y u w hu hn h1 h2 q1 q2 r1 r2
    exact base I A d e x y u w (by omega) h1 h2 q1 q2 r1 r2 fun ds es a b xs ys ed ee=>by
      subst ed
      unfold deepD at hn
      omega
  | succ n ih =>
    intro A d e x y u w hu hn h1 h2 q1 q2 r1 r2
    refine base I A d e x y u w (by omega) h1 h2 q1 q2 r1 r2 fun ds es a b xs ys ed ee t1 t2 s1 s2 hne=>?_
    subst ed ee
    unfold deepD at hn
    unfold noL at h1 h2
    have p:=(rcAt_tup (A:=A) (ds:=ds) (es:=es) I (by omega) n (fun d e x y u w k1 k2 k3 k4 k5 k6 k7=>ih A.in1 d e x y u w (by rw [in1_units]; omega) k1 k2 k3 k4 k5 k6 k7) (by omega) h1 h2 t1 t2 s1 s2).1
    unfold eqD
    exact .of_refs hne p
where
  base (I:Inv X pins σ H s) (A:Around) (d e:D) (x y:V) (u w:Value) (hu:A.units < cLine) (h1:noL d = true) (h2:noL e = true) (q1:Dat X.K H d x) (q2:Dat X.K H e y) (r1:RelV x u) (r2:RelV y w)
      (tt:∀ (ds es:List D) (a b:Addr) (xs ys:List V),d = .tup ds→e = .tup es→Dats X.K H ds xs→Dats X.K H es ys→SqT X.K H a xs→SqT X.K H b ys→a ≠ b→SeqAt.EqAt A s (.ref a) (.ref b) (eqD (.tup ds) (.tup es))) :
      SeqAt.EqAt A s u w (eqD d e):=by
    cases d with
    | lst=>unfold noL at h1; cases h1
    | non =>
      have z:=q1.nonE; subst z; cases r1
      cases e with
      | lst=>unfold noL at h2; cases h2
      | non=>have z:=q2.nonE; subst z; cases r2; unfold eqD; exact SeqAt.EqAt.same _
      | bl b=>have z:=q2.blE; subst z; cases r2; unfold eqD; exact SeqAt.EqAt.none_bool b
      | int i=>have z:=q2.intE; subst z; obtain ⟨t,rfl⟩:=r2; unfold eqD; exact SeqAt.EqAt.none_int i t
      | str i=>have z:=q2.strE; subst z; obtain ⟨t,rfl⟩:=r2; unfold eqD; exact SeqAt.EqAt.none_str i t
      | tup es=>obtain ⟨b,ys,z,s2,t2⟩:=q2.tupE; subst z; cases r2; obtain ⟨ws,v2,p2,_⟩:=I.tuple s2; unfold eqD; exact SeqAt.EqAt.none_tuple (show s.heap.IsTuple b ws.toArray from p2) hu
    | bl c =>
      have z:=q1.blE; subst z; cases r1
      cases e with
      | lst=>unfold noL at h2; cases h2
      | non=>have z:=q2.nonE; subst z; cases r2; unfold eqD; exact SeqAt.EqAt.bool_none c
      | bl b=>have z:=q2.blE; subst z; cases r2; unfold eqD; exact SeqAt.EqAt.bool_bool c b
      | int i=>have z:=q2.intE; subst z; obtain ⟨t,rfl⟩:=r2; unfold eqD; exact SeqAt.EqAt.bool_int c i t
      | str i=>have z:=q2.strE; subst z; obtain ⟨t,rfl⟩:=r2; unfold eqD; exact SeqAt.EqAt.bool_str c i t
      | tup es=>obtain ⟨b,ys,z,s2,t2⟩:=q2.tupE; subst z; cases r2; obtain ⟨ws,v2,p2,_⟩:=I.tuple s2; unfold eqD; exact SeqAt.EqAt.bool_tuple c (show s.heap.IsTuple b ws.toArray from p2) hu
    | int c =>
      have z:=q1.intE; subst z; obtain ⟨tc,rfl⟩:=r1
      cases e with
      | lst=>unfold noL at h2; cases h2
      | non=>have z:=q2.nonE; subst z; cases r2; unfold eqD; exact SeqAt.EqAt.int_none c tc
      | bl b=>have z:=q2.blE; subst z; cases r2; unfold eqD; exact SeqAt.EqAt.int_bool c tc b
      | int i=>have z:=q2.intE; subst z; obtain ⟨t,rfl⟩:=r2; unfold eqD; exact SeqAt.EqAt.int_int c tc i t
      | str i=>have z:=q2.strE; subst z; obtain ⟨t,rfl⟩:=r2; unfold eqD; exact SeqAt.EqAt.int_str c tc i t
      | tup es=>obtain ⟨b,ys,z,s2,t2⟩:=q2.tupE; subst z; cases r2; obtain ⟨ws,v2,p2,_⟩:=I.tuple s2; unfold eqD; exact SeqAt.EqAt.int_tuple c tc (show s.heap.IsTuple b ws.toArray from p2) hu
    | str c =>
      have z:=q1.strE; subst z; obtain ⟨tc,rfl⟩:=r1
      cases e with
      | lst=>unfold noL at h2; cases h2
      | non=>have z:=q2.nonE; subst z; cases r2; unfold eqD; exact SeqAt.EqAt.str_none c tc
      | bl b=>have z:=q2.blE; subst z; cases r2; unfold eqD; exact SeqAt.EqAt.str_bool c tc b
      | int i=>have z:=q2.intE; subst z; obtain ⟨t,rfl⟩:=r2; unfold eqD; exact SeqAt.EqAt.str_int c tc i t
      | str i=>have z:=q2.strE; subst z; obtain ⟨t,rfl⟩:=r2; unfold eqD; exact SeqAt.EqAt.str_str c tc i t
      | tup es=>obtain ⟨b,ys,z,s2,t2⟩:=q2.tupE; subst z; cases r2; obtain ⟨ws,v2,p2,_⟩:=I.tuple s2; unfold eqD; exact SeqAt.EqAt.str_tuple c tc (show s.heap.IsTuple b ws.toArray from p2) hu
    | tup ds =>
      have q1':=q1
      obtain ⟨a,xs,z,s1,t1⟩:=q1.tupE; subst z; cases r1; obtain ⟨us,v1,p1,_⟩:=I.tuple s1
      have p1':s.heap.IsTuple a us.toArray:=p1
      cases e with
      | lst=>unfold noL at h2; cases h2
      | non=>have z:=q2.nonE; subst z; cases r2; unfold eqD; exact SeqAt.EqAt.tuple_none p1' hu
      | bl b=>have z:=q2.blE; subst z; cases r2; unfold eqD; exact SeqAt.EqAt.tuple_bool b p1' hu
      | int i=>have z:=q2.intE; subst z; obtain ⟨t,rfl⟩:=r2; unfold eqD; exact SeqAt.EqAt.tuple_int i t p1' hu
      | str i=>have z:=q2.strE; subst z; obtain ⟨t,rfl⟩:=r2; unfold eqD; exact SeqAt.EqAt.tuple_str i t p1' hu
      | tup es =>
        have q2':=q2
        obtain ⟨b,ys,z,s2,t2⟩:=q2.tupE; subst z; cases r2
        by_cases hab:a = b
        · subst hab
          have ee:=dat_inj I (.tup ds) (.tup es) h1 q1' q2' h2
          rw [← ee,eqD_refl _ h1]
          exact SeqAt.EqAt.same _
        · exact tt ds es a b xs ys rfl rfl t1 t2 s1 s2 hab
theorem rc_D (I:Inv X pins σ H s) (n:Nat) (A:Around) (d e:D) (x y:V) (u w:Value) (hu:A.units + n + 2 < cLine) (hn:deepD d ≤ n + 1) (h1:noL d = true) (h2:noL e = true) (q1:Dat X.K H d x) (q2:Dat X.K H e y) (r1:RelV x u) (r2:RelV y w) :
    SeqAt.RcAt A s u w (eqD d e)∧SeqAt.RcNeAt A s u w (!eqD d e):=by
  have hu':A.units < cLine:=by omega
  cases d with
  | lst=>unfold noL at h1; cases h1
  | non =>
    have z:=q1.nonE; subst z; cases r1
    cases e with
    | lst=>unfold noL at h2; cases h2
    | non=>have z:=q2.nonE; subst z; cases r2; unfold eqD; exact ⟨SeqAt.RcAt.none_none,SeqAt.RcNeAt.none_none⟩
    | bl b=>have z:=q2.blE; subst z; cases r2; unfold eqD; exact ⟨SeqAt.RcAt.none_bool b,SeqAt.RcNeAt.none_bool b⟩
    | int i=>have z:=q2.intE; subst z; obtain ⟨t,rfl⟩:=r2; unfold eqD; exact ⟨SeqAt.RcAt.none_int i t,SeqAt.RcNeAt.none_int i t⟩
    | str i=>have z:=q2.strE; subst z; obtain ⟨t,rfl⟩:=r2; unfold eqD; exact ⟨SeqAt.RcAt.none_str i t,SeqAt.RcNeAt.none_str i t⟩
    | tup es=>obtain ⟨b,ys,z,s2,t2⟩:=q2.tupE; subst z; cases r2; obtain ⟨ws,v2,p2,_⟩:=I.tuple s2; unfold eqD; exact ⟨SeqAt.RcAt.none_tuple (show s.heap.IsTuple b ws.toArray from p2) hu',SeqAt.RcNeAt.none_tuple (show s.heap.IsTuple b ws.toArray from p2) hu'⟩
  | bl c =>
    have z:=q1.blE; subst z; cases r1
    cases e with
    | lst=>unfold noL at h2; cases h2
    | non=>have z:=q2.nonE; subst z; cases r2; unfold eqD; exact ⟨SeqAt.RcAt.bool_none c,SeqAt.RcNeAt.bool_none c⟩
    | bl b=>have z:=q2.blE; subst z; cases r2; unfold eqD; exact ⟨SeqAt.RcAt.bool_bool c b,SeqAt.RcNeAt.bool_bool c b⟩
    | int i=>have z:=q2.intE; subst z; obtain ⟨t,rfl⟩:=r2; unfold eqD; exact ⟨SeqAt.RcAt.bool_int c i t,SeqAt.RcNeAt.bool_int c i t⟩
    | str i=>have z:=q2.strE; subst z; obtain ⟨t,rfl⟩:=r2; unfold eqD; exact ⟨SeqAt.RcAt.bool_str c i t,SeqAt.RcNeAt.bool_str c i t⟩
    | tup es=>obtain ⟨b,ys,z,s2,t2⟩:=q2.tupE; subst z; cases r2; obtain ⟨ws,v2,p2,_⟩:=I.tuple s2; unfold eqD; exact ⟨SeqAt.RcAt.bool_tuple c (show s.heap.IsTuple b ws.toArray from p2) hu',SeqAt.RcNeAt.bool_tuple c (show s.heap.IsTuple b ws.toArray from p2) hu'⟩
  | int c =>
    have z:=q1.intE; subst z; obtain ⟨tc,rfl⟩:=r1
    cases e with
    | lst=>unfold noL at h2; cases h2
    | non=>have z:=q2.nonE; subst z; cases r2; unfold eqD; exact ⟨SeqAt.RcAt.int_none c tc,SeqAt.RcNeAt.int_none c tc⟩
    | bl b=>have z:=q2.blE; subst z; cases r2; unfold eqD; exact ⟨SeqAt.RcAt.int_bool c tc b,SeqAt.RcNeAt.int_bool c tc b⟩
    | int i=>have z:=q2.intE; subst z; obtain ⟨t,rfl⟩:=r2; unfold eqD; exact ⟨SeqAt.RcAt.int_int c tc i t,SeqAt.RcNeAt.int_int c tc i t⟩
    | str i=>have z:=q2.strE; subst z; obtain ⟨t,rfl⟩:=r2; unfold eqD; exact ⟨SeqAt.RcAt.int_str c tc i t,SeqAt.RcNeAt.int_str c tc i t⟩
    | tup es=>obtain ⟨b,ys,z,s2,t2⟩:=q2.tupE; subst z; cases r2; obtain ⟨ws,v2,p2,_⟩:=I.tuple s2; unfold eqD; exact ⟨SeqAt.RcAt.int_tuple c tc (show s.heap.IsTuple b ws.toArray from p2) hu',SeqAt.RcNeAt.int_tuple c tc (show s.heap.IsTuple b ws.toArray from p2) hu'⟩
  | str c =>
    have z:=q1.strE; subst z; obtain ⟨tc,rfl⟩:=r1
    cases e with
    | lst=>unfold noL at h2; cases h2
    | non=>have z:=q2.nonE; subst z; cases r2; unfold eqD; exact ⟨SeqAt.RcAt.str_none c tc,SeqAt.RcNeAt.str_none c tc⟩
    | bl b=>have z:=q2.blE; subst z; cases r2; unfold eqD; exact ⟨SeqAt.RcAt.str_bool c tc b,SeqAt.RcNeAt.str_bool c tc b⟩
    | int i=>have z:=q2.intE; subst z; obtain ⟨t,rfl⟩:=r2; unfold eqD; exact ⟨SeqAt.RcAt.str_int c tc i t,SeqAt.RcNeAt.str_int c tc i t⟩
    | str i=>have z:=q2.strE; subst z; obtain ⟨t,rfl⟩:=r2; unfold eqD; exact ⟨SeqAt.RcAt.str_str c tc i t,SeqAt.RcNeAt.str_str c tc i t⟩
    | tup es=>obtain ⟨b,ys,z,s2,t2⟩:=q2.tupE; subst z; cases r2; obtain ⟨ws,v2,p2,_⟩:=I.tuple s2; unfold eqD; exact ⟨SeqAt.RcAt.str_tuple c tc (show s.heap.IsTuple b ws.toArray from p2) hu',SeqAt.RcNeAt.str_tuple c tc (show s.heap.IsTuple b ws.toArray from p2) hu'⟩
  | tup ds =>
    obtain ⟨a,xs,z,s1,t1⟩:=q1.tupE; subst z; cases r1; obtain ⟨us,v1,p1,_⟩:=I.tuple s1
    have p1':s.heap.IsTuple a us.toArray:=p1
    cases e with
    | lst=>unfold noL at h2; cases h2
    | non=>have z:=q2.nonE; subst z; cases r2; unfold eqD; exact ⟨SeqAt.RcAt.tuple_none p1' hu',SeqAt.RcNeAt.tuple_none p1' hu'⟩
    | bl b=>have z:=q2.blE; subst z; cases r2; unfold eqD; exact ⟨SeqAt.RcAt.tuple_bool b p1' hu',SeqAt.RcNeAt.tuple_bool b p1' hu'⟩
    | int i=>have z:=q2.intE; subst z; obtain ⟨t,rfl⟩:=r2; unfold eqD; exact ⟨SeqAt.RcAt.tuple_int i t p1' hu',SeqAt.RcNeAt.tuple_int i t p1' hu'⟩
    | str i=>have z:=q2.strE; subst z; obtain ⟨t,rfl⟩:=r2; unfold eqD; exact ⟨SeqAt.RcAt.tuple_str i t p1' hu',SeqAt.RcNeAt.tuple_str i t p1' hu'⟩
    | tup es =>
      obtain ⟨b,ys,z,s2,t2⟩:=q2.tupE; subst z; cases r2
      unfold deepD at hn
      unfold noL at h1 h2
      unfold eqD
      exact rcAt_tup (A:=A) (ds:=ds) (es:=es) I hu' n (fun d e x y u w k1 k2 k3 k4 k5 k6 k7=>eqAt_D I n A.in1 d e x y u w (by rw [in1_units]; omega) k1 k2 k3 k4 k5 k6 k7) (by omega) h1 h2 t1 t2 s1 s2
theorem rc_L (I:Inv X pins σ H s) (n:Nat) (A:Around) (ds es:List D) (a b:Addr) (xs ys:List V) (hu:A.units + n + 2 < cLine) (hn:deepDs ds ≤ n) (h1:noLs ds = true) (h2:noLs es = true) (q1:SqL X.K H a xs) (q2:SqL X.K H b ys) (r1:Dats X.K H ds xs) (r2:Dats X.K H es ys) :
    SeqAt.RcAt A s (.ref a) (.ref b) (eqDs ds es)∧SeqAt.RcNeAt A s (.ref a) (.ref b) (!eqDs ds es):=by
  have hu':A.units < cLine:=by omega
  obtain ⟨us,v1,p1,_⟩:=I.list q1
  obtain ⟨ws,v2,p2,_⟩:=I.list q2
  have e1:us.toArray.size = ds.length:=by rw [List.size_toArray,← v1.length,r1.length]
  have e2:ws.toArray.size = es.length:=by rw [List.size_toArray,← v2.length,r2.length]
  have hi:=eqAt_items (X:=X) (H:=H) (s:=s) (A:=A.in1) n (fun d e x y u w k1 k2 k3 k4 k5 k6 k7=>eqAt_D I n A.in1 d e x y u w (by rw [in1_units]; omega) k1 k2 k3 k4 k5 k6 k7) hn h1 h2 r1 r2 v1 v2
  by_cases hl:ds.length = es.length
  · have hsz:us.toArray.size = ws.toArray.size:=by rw [e1,e2,hl]
    have p:=SeqAt.RcAt.lists p1.isList p2.isList hsz hu' hi
    have p':=SeqAt.RcNeAt.lists p1.isList p2.isList hsz hu' hi
    rw [e1,eqDs_rangeL hl] at p p'
    exact ⟨p,p'⟩
  · have hsz:(us.toArray.size != ws.toArray.size) = true:=by rw [e1,e2]; simpa using hl
    have z:eqDs ds es = false:=by
      rw [← eqDs_range]
      have:(ds.length == es.length) = false:=by simpa using hl
      rw [this,Bool.and_false]
    rw [z]
    exact ⟨SeqAt.RcAt.lists_lengths p1.isList p2.isList hsz hu',SeqAt.RcNeAt.lists_lengths p1.isList p2.isList hsz hu'⟩
end
section
variable {X:Cx} {k:Nat}
def rEqD (K:PySem.W.Frag) (neg:Bool):R2:=fun x y H Q=>∃ d e,Dat K H d x∧Dat K H e y∧noL d = true∧noL e = true∧deepD d ≤ 20∧Q (.bl (if neg then !eqD d e else eqD d e)) H
theorem op_eqD (hr:Room k X.A):OpR X (compareOp .Eq) (rEqD X.K false):=by
  intro pins s σ H x y v u Q I rx ry h
  obtain ⟨d,e,q1,q2,h1,h2,hn,q⟩:=h
  have hu:X.A.units + 19 + 2 < cLine:=by have:=hr.un; omega
  exact (rc_D I 19 X.A d e x y v u hu (by omega) h1 h2 q1 q2 rx ry).1 _ _ _ _ ⟨.bl _,H,I,rfl,q⟩
theorem op_neD (hr:Room k X.A):OpR X (compareOp .NotEq) (rEqD X.K true):=by
  intro pins s σ H x y v u Q I rx ry h
  obtain ⟨d,e,q1,q2,h1,h2,hn,q⟩:=h
  have hu:X.A.units + 19 + 2 < cLine:=by have:=hr.un; omega
  exact (rc_D I 19 X.A d e x y v u hu (by omega) h1 h2 q1 q2 rx ry).2 _ _ _ _ ⟨.bl _,H,I,rfl,q⟩
def rEqL (K:PySem.W.Frag) (neg:Bool):R2:=fun x y H Q=>∃ a b xs ys ds es,x = .ref a∧y = .ref b∧SqL K H a xs∧SqL K H b ys∧Dats K H ds xs∧Dats K H es ys∧noLs ds = true∧noLs es = true∧deepDs ds ≤ 20∧Q (.bl (if neg then !eqDs ds es else eqDs ds es)) H
theorem op_eqL (hr:Room k X.A):OpR X (compareOp .Eq) (rEqL X.K false):=by
  intro pins s σ H x y v u Q I rx ry h
  obtain ⟨a,b,xs,ys,ds,es,ex,ey,q1,q2,r1,r2,h1,h2,hn,q⟩:=h
  subst ex ey
  cases rx
  cases ry
  have hu:X.A.units + 20 + 2 < cLine:=by have:=hr.un; omega
  exact (rc_L I 20 X.A ds es a b xs ys hu hn h1 h2 q1 q2 r1 r2).1 _ _ _ _ ⟨.bl _,H,I,rfl,q⟩
theorem op_isnotB:OpR X (compareOp .IsNot) (fun x y H Q=>∃ a b,x = .bl a∧y = .bl b∧Q (.bl (a != b)) H):=by
  intro pins s σ H x y v u Q I rx ry h
  obtain ⟨a,b,ex,ey,q⟩:=h
  subst ex ey
  cases rx
  cases ry
  exact PyProof.Rows.isnot_bool ⟨.bl _,H,I,rfl,q⟩
def tyD:D→String
  | .non=>"NoneType"
  | .bl _=>"bool"
  | .int _=>"int"
  | .str _=>"str"
  | .tup _=>"tuple"
  | .lst=>"list"
def isiD (d:D) (T:String):Bool:=tyD d == T || (tyD d == "bool" && T == "int")
theorem call_isi {T:String} (hk:∀ d:D,PySem.W.kitOne X.K (.type (tyD d)) (.type T) = some (isiD d T)) :
    CallR X (.builtin "isinstance") (fun xs H Q=>∃ x d,xs = [x,.ty T]∧Dat X.K H d x∧Q (.bl (isiD d T)) H):=by
  intro pins s σ H xs us Q I r h
  obtain ⟨x,d,e,q,h⟩:=h
  subst e
  obtain ⟨u,c,e,ru,rc⟩:=vals2 r
  subst e
  cases (show c = Value.type T from rc)
  have fin:∀ tk,EP X pins σ Q (.bool (isiD d T)) { s with toks:=tk }:=fun tk=>⟨.bl _,H,I.tok tk,rfl,h⟩
  have kd:=hk d
  cases d with
  | non=>have z:=q.nonE; subst z; cases ru; exact PySem.W.kia_one PySem.W.kitx_none I.kIn True.intro kd (fun z=>nomatch z) fin
  | bl b=>have z:=q.blE; subst z; cases ru; exact PySem.W.kia_one PySem.W.kitx_bool I.kIn True.intro kd (fun z=>nomatch z) fin
  | int i=>have z:=q.intE; subst z; obtain ⟨t,rfl⟩:=ru; exact PySem.W.kia_one PySem.W.kitx_int I.kIn True.intro kd (fun z=>nomatch z) fin
  | str y=>have z:=q.strE; subst z; obtain ⟨t,rfl⟩:=ru; exact PySem.W.kia_one PySem.W.kitx_str I.kIn True.intro kd (fun z=>nomatch z) fin
  | tup ds =>
    obtain ⟨a,vs,z,sq,_⟩:=q.tupE
    subst z
    cases ru
    obtain ⟨its,_,⟨o,e1,e2,_⟩,_⟩:=I.tuple sq
    exact PySem.W.kia_one PySem.W.kitx_tuple I.kIn ⟨o,e1,e2⟩ kd (fun z=>nomatch z) fin
  | lst =>
    obtain ⟨a,vs,z,sq⟩:=q.lstE
    subst z
    cases ru
    obtain ⟨its,_,⟨o,_,e1,e2,_⟩,_⟩:=I.list sq
    exact PySem.W.kia_one PySem.W.kitx_list I.kIn ⟨o,e1,e2⟩ kd (fun z=>nomatch z) fin
end
def TabK (K:PySem.W.Frag) (a:Addr) (T:List (Str × KTD.Dat)):Prop:=∀ h:Heap,K.In h→KTD.TextTab h a T
section
variable {X:Cx}
end
end L2
end
section
namespace L2
open PySem PySem.Spec PyProof.Rows
section
variable {K:PySem.W.Frag} {H H' H2:Hp}
theorem Same.sqT {a:Addr} {xs:List V} (e:Same H H') (h:SqT K H a xs):SqT K H' a xs:=by
  rcases h with (h | ⟨o,h⟩) | h
  · exact .inl (.inl (e _ _ h))
  · exact .inl (.inr ⟨o,e _ _ h⟩)
  · exact .inr h
theorem Same.grow (e:Same H H'):Grow K H H':=⟨fun _ _ h=>e.sqT h,fun _ xs h=>⟨xs,e.seq h⟩⟩
theorem Same.dat {d:D} {v:V} (e:Same H H') (h:Dat K H d v):Dat K H' d v:=Dat.mono e.grow d h
theorem Same.dats {ds:List D} {vs:List V} (e:Same H H') (h:Dats K H ds vs):Dats K H' ds vs:=Dats.mono e.grow ds h
theorem same_new {p:Addr} (h:H p = none) (o:HO):Same H (upd H p o):=fun b u q=>by rw [upd_ne (ne_of_none q h)]; exact q
def But (t:Addr) (H H':Hp):Prop:=∀ b o,b ≠ t→H b = some o→H' b = some o
theorem Same.but {t:Addr} (e:Same H H'):But t H H':=fun b o _ h=>e b o h
theorem But.trans {t:Addr} (a:But t H H') (b:But t H' H2):But t H H2:=fun c o n h=>b c o n (a c o n h)
theorem But.upd {t:Addr} {o:HO} (a:But t H H'):But t H (upd H' t o):=fun b u n h=>by rw [upd_ne n]; exact a b u n h
theorem But.sqT {t a:Addr} {xs:List V} {zs:List V} (e:But t H H') (ht:H t = some (.lst zs)) (h:SqT K H a xs):SqT K H' a xs:=by
  rcases h with (h | ⟨o,h⟩) | h
  · exact .inl (.inl (e _ _ (fun z=>by rw [z,ht] at h; cases h) h))
  · exact .inl (.inr ⟨o,e _ _ (fun z=>by rw [z,ht] at h; cases h) h⟩)
  · exact .inr h
theorem But.sqL {t a:Addr} {xs:List V} (e:But t H H') (n:a ≠ t) (h:SqL K H a xs):SqL K H' a xs:=by
  rcases h with (h | ⟨o,h⟩) | h
  · exact .inl (.inl (e _ _ n h))
  · exact .inl (.inr ⟨o,e _ _ n h⟩)
  · exact .inr h
theorem But.grow {t:Addr} {zs zs':List V} (e:But t H H') (ht:H t = some (.lst zs)) (ht':H' t = some (.lst zs')):Grow K H H' :=
  ⟨fun _ _ h=>e.sqT ht h,fun a xs h=>by
    by_cases n:a = t
    · subst n; exact ⟨zs',SqL.of ht'⟩
    · exact ⟨xs,e.sqL n h⟩⟩
end
section
variable {K:PySem.W.Frag}
theorem hi_int (d:D):PySem.W.kitOne K (.type (tyD d)) (.type "int") = some (isiD d "int"):=by cases d <;> rfl
theorem hi_bool (d:D):PySem.W.kitOne K (.type (tyD d)) (.type "bool") = some (isiD d "bool"):=by cases d <;> rfl
theorem hi_tuple (d:D):PySem.W.kitOne K (.type (tyD d)) (.type "tuple") = some (isiD d "tuple"):=by cases d <;> rfl
theorem hi_list (d:D):PySem.W.kitOne K (.type (tyD d)) (.type "list") = some (isiD d "list"):=by cases d <;> rfl
end
def spD (K:PySem.W.Frag) (R:List D→D→Prop):Sp:=fun vs H Q _=>∃ ds d,Dats K H ds vs∧R ds d∧∀ v H',Same H H'→Dat K H' d v→Q v H'
theorem dats1 {K:PySem.W.Frag} {H:Hp} {a:D} {vs:List V} (h:Dats K H [a] vs):∃ u,vs = [u]∧Dat K H a u:=by
  obtain ⟨u,r,e,h1,h⟩:=h.consE
  have z:=h.nilE
  subst z e
  exact ⟨u,rfl,h1⟩
theorem dats2 {K:PySem.W.Frag} {H:Hp} {a b:D} {vs:List V} (h:Dats K H [a,b] vs):∃ u v,vs = [u,v]∧Dat K H a u∧Dat K H b v:=by
  obtain ⟨u,r,e,h1,h⟩:=h.consE
  obtain ⟨v,q,h2⟩:=dats1 h
  subst q e
  exact ⟨u,v,rfl,h1,h2⟩
theorem dats3 {K:PySem.W.Frag} {H:Hp} {a b c:D} {vs:List V} (h:Dats K H [a,b,c] vs):∃ u v w,vs = [u,v,w]∧Dat K H a u∧Dat K H b v∧Dat K H c w:=by
  obtain ⟨u,r,e,h1,h⟩:=h.consE
  obtain ⟨v,w,q,h2⟩:=dats2 h
  subst q e
  exact ⟨u,v,w,rfl,h1,h2⟩
theorem set_set_none {σ:St} {j:Nat} {z:Option V} {x:Option V}:(σ.set j z).set j x = σ.set j x:=by rw [List.set_set]
theorem comp_items {J:It} {n:Nat} {item:Nat→V} {j:Nat} {te:TE} {σ0:St} {H1:Hp} {Q:VK} (Ok:Hp→Prop)
    (go:∀ i H',Ok H'→i < n→J.go i H'∧∀ x H'',J.yld i H' x H''→H'' = H'∧x = item i) (stop:∀ H',Ok H'→J.stop n H') (h0:σ0.set j none = σ0)
    (D:Addr) (Pn:Nat→Hp→Prop) (p0:Pn 0 (upd H1 D (.lst []))) (ok:∀ i H',i ≤ n→Pn i H'→Ok H')
    (turn:∀ i H',i < n→Pn i H'→te (σ0.set j (some (item i))) H' fun v H4=>∃ ys,H4 D = some (.lst ys)∧ys.length < sizeLine∧(∃ z,σ0.set j (some (item i)) = σ0.set j z)∧Pn (i + 1) (upd H4 D (.lst (ys ++ [v]))))
    (fin:∀ H',Pn n H'→Q (.ref D) H') :
    ∃ W:Nat→Nat→St→Hp→Prop,(∃ m,W 0 m σ0 (upd H1 D (.lst [])))∧∀ i m σ' H',W i m σ' H' →
      (J.stop i H'∧Q (.ref D) H') ∨
      (J.go i H'∧∃ Nx:St→Hp→Prop,(∀ σ'' H'',Nx σ'' H''→∃ m',m' < m∧W (i + 1) m' σ'' H'')∧∀ x H'',J.yld i H' x H''→gName j x σ' H'' fun σ2 H2=>tTrue σ2 H2 fun b H3 =>
        if b = true then te σ2 H3 fun v H4=>∃ ys,H4 D = some (.lst ys)∧ys.length < sizeLine∧Nx σ2 (upd H4 D (.lst (ys ++ [v]))) else Nx σ2 H3):=by
  refine ⟨fun i m σ' H'=>m = n - i∧i ≤ n∧(∃ z,σ' = σ0.set j z)∧Pn i H',⟨n,by omega,Nat.zero_le _,⟨none,h0.symm⟩,p0⟩,?_⟩
  rintro i m σ' H' ⟨rfl,hi,⟨z,rfl⟩,p⟩
  have o:=ok i H' hi p
  by_cases hlt:i < n
  · obtain ⟨g,y⟩:=go i H' o hlt
    refine .inr ⟨g,fun σ'' H''=>(∃ z,σ'' = σ0.set j z)∧Pn (i + 1) H'',fun σ'' H'' q=>⟨n - (i + 1),by omega,rfl,hlt,q.1,q.2⟩,fun x H'' yx=>?_⟩
    obtain ⟨e1,e2⟩:=y x H'' yx
    subst e1 e2
    simp only [gName,tTrue,if_true,set_set_none]
    exact turn i _ hlt p
  · have e:i = n:=by omega
    subst e
    exact .inl ⟨stop H' o,fin H' p⟩
theorem go_tup {K:PySem.W.Frag} {a:Addr} {xs:List V} (i:Nat) (H':Hp) (h:SqT K H' a xs) (hi:i < xs.length):(Itt K a).go i H'∧∀ x H'',(Itt K a).yld i H' x H''→H'' = H'∧x = xs.getD i .non:=by
  refine ⟨⟨xs,xs[i],h,List.getElem?_eq_getElem hi⟩,fun x H'' y=>⟨y.1,?_⟩⟩
  have q:=y.2 xs h
  rw [List.getD_eq_getElem?_getD,q]
  rfl
theorem go_lst {K:PySem.W.Frag} {a:Addr} {xs:List V} (i:Nat) (H':Hp) (h:SqL K H' a xs) (hi:i < xs.length):(Itl K a).go i H'∧∀ x H'',(Itl K a).yld i H' x H''→H'' = H'∧x = xs.getD i .non:=by
  refine ⟨⟨xs,xs[i],h,List.getElem?_eq_getElem hi⟩,fun x H'' y=>⟨y.1,?_⟩⟩
  have q:=y.2 xs h
  rw [List.getD_eq_getElem?_getD,q]
  rfl
section
variable {X:Cx}
def rGetL (K:PySem.W.Frag):V→V→Hp→VK→Prop:=fun o i H Q=>∃ p xs k v,o = .ref p∧i = .int k∧0 ≤ k∧SqL K H p xs∧xs[k.toNat]? = some v∧Q v H
theorem get_list:PGet X (rGetL X.K):=by
  intro pins s σ H o i ov iv Q I r1 r2 h
  obtain ⟨p,xs,k,v,eo,ei,h0,hq,he,q⟩:=h
  subst eo ei
  cases r1
  obtain ⟨t,rfl⟩:=r2
  obtain ⟨its,r,pl,hz⟩:=I.list hq
  obtain ⟨w,ew,rw'⟩:=r.get he
  have hl:=r.length
  have hlt:k.toNat < xs.length:=(List.getElem?_eq_some_iff.mp he).1
  have hn:=line63
  exact wpAny_getItem_list pl.isList h0 (by omega) (by simpa using ew) ⟨v,H,I,rw',q⟩
theorem op_mulB:OpR X (binaryOp .Mult) (rI IntMulOk fun i j=>.int (i * j)):=opI fun _ _ _ _ _ _ _ hc q=>mul_int q hc
end
theorem ixN_nat {n j:Nat} (h:j < n):ixN n (j:Int) = some j:=by
  unfold ixN
  rw [if_pos (by omega),if_pos (by omega)]
  simp
theorem at0 {α:Type} {x:α} {r:List α}:atI (x :: r) 0 = some x:=atI_nat (j:=0) rfl
theorem at1 {α:Type} {x y:α} {r:List α}:atI (x :: y :: r) 1 = some y:=atI_nat (j:=1) rfl
theorem ix0 {n:Nat}:ixN (n + 1) 0 = some 0:=ixN_nat (j:=0) (by omega)
theorem ix1 {n:Nat}:ixN (n + 2) 1 = some 1:=ixN_nat (j:=1) (by omega)
theorem dats_ints {K:PySem.W.Frag} {H:Hp}:∀ ns:List Int,Dats K H (ns.map D.int) (ns.map V.int)
  | []=>Dats.nil
  | n :: ns=>Dats.cons (Dat.intI n) (dats_ints ns)
theorem noLs_ints:∀ ns:List Int,noLs (ns.map D.int) = true
  | []=>by unfold noLs; rfl
  | n :: ns=>by
    show noLs (D.int n :: ns.map D.int) = true
    unfold noLs
    rw [noLs_ints ns]
    unfold noL
    rfl
theorem deepDs_ints:∀ ns:List Int,deepDs (ns.map D.int) = 0
  | []=>by unfold deepDs; rfl
  | n :: ns=>by
    show deepDs (D.int n :: ns.map D.int) = 0
    unfold deepDs
    rw [deepDs_ints ns]
    unfold deepD
    rfl
theorem eqDs_nil (ns:List Int):eqDs (ns.map D.int) [] = ns.isEmpty:=by
  cases ns with
  | nil=>unfold eqDs; rfl
  | cons n ns=>show eqDs (D.int n :: ns.map D.int) [] = false; unfold eqDs; rfl
theorem small {n:Nat} (h:n ≤ 1000):n ≤ sizeLine:=Nat.le_of_lt (small1000 h)
def Scr (K:PySem.W.Frag) (H:Hp) (a:Addr) (ns:List Int):Prop:=(∃ o,H a = some (.frz o (.lst (ns.map V.int)))) ∨
  ∃ (o:Obj) (its:Array Value) (n:Nat),K.lookup a = some o∧o.cls = .type "list"∧o.dict = none∧o.data = .seq its n∧its.size ≤ sizeLine∧Vals (ns.map V.int) its.toList
theorem Scr.sqL {K:PySem.W.Frag} {H:Hp} {a:Addr} {ns:List Int} (h:Scr K H a ns):SqL K H a (ns.map V.int):=by
  rcases h with ⟨o,h⟩ | h
  · exact .inl (.inr ⟨o,h⟩)
  · exact .inr h
theorem Scr.but {K:PySem.W.Frag} {H H':Hp} {a t:Addr} {ns:List Int} {zs:List V} (h:Scr K H a ns) (e:But t H H') (ht:H t = some (.lst zs)):Scr K H' a ns:=by
  rcases h with ⟨o,h⟩ | h
  · exact .inl ⟨o,e _ _ (fun z=>by rw [z,ht] at h; cases h) h⟩
  · exact .inr h
theorem Scr.same {K:PySem.W.Frag} {H H':Hp} {a:Addr} {ns:List Int} (h:Scr K H a ns) (e:Same H H'):Scr K H' a ns:=by
  rcases h with ⟨o,h⟩ | h
  · exact .inl ⟨o,e _ _ h⟩
  · exact .inr h
theorem scr_of {K:PySem.W.Frag} {H:Hp} {a:Addr} {ns:List Int} (hO:Only H) (h:SqL K H a (ns.map V.int)):Scr K H a ns:=by
  rcases h with (h | ⟨o,h⟩) | h
  · rcases hO a with z | ⟨o,xs,z⟩
    · rw [h] at z; cases z
    · rw [h] at z; cases z
  · exact .inl ⟨o,h⟩
  · exact .inr h
def spDraw (K:PySem.W.Frag):Sp:=fun vs H Q _=>∃ (a t:Addr) (ns:List Int) (m p q:Int) (rest:List V),vs = [.ref a,.ref t,.int m]∧Scr K H a ns∧H t = some (.lst (.int p :: .int q :: rest))∧0 ≤ p∧0 < m∧m ≤ 1000000 ∧
  ∀ (r:Int) (H':Hp) (p' q':Int),But t H H'→H' t = some (.lst (.int p' :: .int q' :: rest))→0 ≤ p'→0 ≤ r→r < m→Q (.int r) H'
end L2
end
section
namespace L2
open PySem PySem.Spec PyProof.Rows
def RE (K:PySem.W.Frag) (t:TE) (σ:St) (H:Hp) (d:D):Prop:=∀ H1,Same H H1→∀ Q:VK,(∀ v H',Same H1 H'→Dat K H' d v→Q v H')→t σ H1 Q
def RT (t:TT) (σ:St) (H:Hp) (b:Bool):Prop:=∀ H1,Same H H1→∀ Q:Bool→Hp→Prop,(∀ H',Same H1 H'→Q b H')→t σ H1 Q
def RA (K:PySem.W.Frag) (t:TA) (σ:St) (H:Hp) (ds:List D):Prop:=∀ H1,Same H H1→∀ Q:List V→Hp→Prop,(∀ vs H',Same H1 H'→Dats K H' ds vs→Q vs H')→t σ H1 Q
section
variable {K:PySem.W.Frag} {σ:St} {H H':Hp} {d d':D} {ds:List D} {t u ta tb:TE} {tt uu:TT} {tA:TA} {i j:Int} {b c:Bool}
theorem RE.mono (h:RE K t σ H d) (e:Same H H'):RE K t σ H' d:=fun H1 s Q q=>h H1 (e.trans s) Q q
theorem RA.mono (h:RA K tA σ H ds) (e:Same H H'):RA K tA σ H' ds:=fun H1 s Q q=>h H1 (e.trans s) Q q
theorem RE.as (h:RE K t σ H d) (e:d = d'):RE K t σ H d':=e ▸ h
theorem RT.as (h:RT tt σ H b) (e:b = c):RT tt σ H c:=e ▸ h
theorem RE.use {Q:VK} (h:RE K t σ H d) (q:∀ v H',Same H H'→Dat K H' d v→Q v H'):t σ H Q:=h H (Same.refl H) Q q
theorem RT.use {Q:Bool→Hp→Prop} (h:RT tt σ H b) (q:∀ H',Same H H'→Q b H'):tt σ H Q:=h H (Same.refl H) Q q
theorem RA.use {Q:List V→Hp→Prop} (h:RA K tA σ H ds) (q:∀ vs H',Same H H'→Dats K H' ds vs→Q vs H'):tA σ H Q:=h H (Same.refl H) Q q
theorem re_int:RE K (tC (.int i)) σ H (.int i):=fun H1 _ Q q=>q _ _ (Same.refl _) (Dat.intI i)
theorem re_str {x:Str}:RE K (tC (.str x)) σ H (.str x):=fun H1 _ Q q=>q _ _ (Same.refl _) (Dat.strI x)
theorem re_bl:RE K (tC (.bl b)) σ H (.bl b):=fun H1 _ Q q=>q _ _ (Same.refl _) (Dat.blI b)
theorem re_non:RE K (tC .non) σ H .non:=fun H1 _ Q q=>q _ _ (Same.refl _) Dat.nonI
theorem re_var {k:Nat} {v:V} (h:Dat K H d v) (e:σ[k]? = some (some v):=by rfl):RE K (tVar k) σ H d:=fun H1 s Q q=>⟨v,e,q _ _ (Same.refl _) (s.dat h)⟩
theorem ra_nil:RA K tNil σ H []:=fun H1 _ Q q=>q _ _ (Same.refl _) Dats.nil
theorem ra_cons (h:RE K t σ H d) (r:RA K tA σ H ds):RA K (tCons t tA) σ H (d :: ds):=fun H1 s Q q =>
  h H1 s _ fun v H2 s2 q2=>r H2 (s.trans s2) _ fun vs H3 s3 q3=>q _ _ (s2.trans s3) (Dats.cons (s3.dat q2) q3)
theorem re_tup (h:RA K tA σ H ds) (hl:ds.length ≤ 1000:=by simp):RE K (tTup tA) σ H (.tup ds):=fun H1 s Q q =>
  h H1 s _ fun vs H2 s2 q2=>⟨by rw [← q2.length]; exact small hl,fun p hp=>q _ _ (s2.trans (same_new hp _)) (Dat.tupI (SqT.of upd_same) ((same_new hp _).dats q2))⟩
theorem re_un {g:Int→Int} (h:RE K t σ H (.int i)):RE K (tUn (rU fun i=>.int (g i)) t) σ H (.int (g i)):=fun H1 s Q q =>
  h H1 s _ fun v H2 s2 q2=>⟨i,q2.intE,q _ _ s2 (Dat.intI _)⟩
theorem re_op0 {g:Int→Int→V} (h1:RE K ta σ H (.int i)) (h2:RE K tb σ H (.int j)) (hd:∀ H,Dat K H d (g i j)):RE K (tOp (rI0 g) ta tb) σ H d:=fun H1 s Q q =>
  h1 H1 s _ fun v H2 s2 q2=>h2 H2 (s.trans s2) _ fun w H3 s3 q3=>⟨i,j,q2.intE,q3.intE,q _ _ (s2.trans s3) (hd _)⟩
theorem re_opC {C:Int→Int→Prop} {g:Int→Int→V} (h1:RE K ta σ H (.int i)) (h2:RE K tb σ H (.int j)) (hc:C i j) (hd:∀ H,Dat K H d (g i j)):RE K (tOp (rI C g) ta tb) σ H d:=fun H1 s Q q =>
  h1 H1 s _ fun v H2 s2 q2=>h2 H2 (s.trans s2) _ fun w H3 s3 q3=>⟨i,j,q2.intE,q3.intE,hc,q _ _ (s2.trans s3) (hd _)⟩
theorem re_add (h1:RE K ta σ H (.int i)) (h2:RE K tb σ H (.int j)):RE K (tOp (rI0 fun i j=>.int (i + j)) ta tb) σ H (.int (i + j)):=re_op0 h1 h2 fun _=>Dat.intI _
theorem re_sub (h1:RE K ta σ H (.int i)) (h2:RE K tb σ H (.int j)):RE K (tOp (rI0 fun i j=>.int (i - j)) ta tb) σ H (.int (i - j)):=re_op0 h1 h2 fun _=>Dat.intI _
theorem re_cmp {p:Int→Int→Bool} (h1:RE K ta σ H (.int i)) (h2:RE K tb σ H (.int j)):RE K (tOp (rI0 fun i j=>.bl (p i j)) ta tb) σ H (.bl (p i j)):=re_op0 h1 h2 fun _=>Dat.blI _
theorem re_eqI (h1:RE K ta σ H (.int i)) (h2:RE K tb σ H (.int j)):RE K (tOp rEq ta tb) σ H (.bl (decide (i = j))):=fun H1 s Q q =>
  h1 H1 s _ fun v H2 s2 q2=>h2 H2 (s.trans s2) _ fun w H3 s3 q3=>by
    rw [q2.intE,q3.intE]
    refine ⟨rfl,?_⟩
    have e:decide (V.int i = V.int j) = decide (i = j):=by by_cases z:i = j <;> simp [z]
    rw [e]
    exact q _ _ (s2.trans s3) (Dat.blI _)
theorem re_neI (h1:RE K ta σ H (.int i)) (h2:RE K tb σ H (.int j)):RE K (tOp rNe ta tb) σ H (.bl (!decide (i = j))):=fun H1 s Q q =>
  h1 H1 s _ fun v H2 s2 q2=>h2 H2 (s.trans s2) _ fun w H3 s3 q3=>by
    rw [q2.intE,q3.intE]
    refine ⟨rfl,?_⟩
    have e:decide (V.int i = V.int j) = decide (i = j):=by by_cases z:i = j <;> simp [z]
    rw [e]
    exact q _ _ (s2.trans s3) (Dat.blI _)
theorem re_eqS {x y:Str} (h1:RE K ta σ H (.str x)) (h2:RE K tb σ H (.str y)):RE K (tOp rEq ta tb) σ H (.bl (decide (x = y))):=fun H1 s Q q =>
  h1 H1 s _ fun v H2 s2 q2=>h2 H2 (s.trans s2) _ fun w H3 s3 q3=>by
    rw [q2.strE,q3.strE]
    refine ⟨rfl,?_⟩
    have e:decide (V.str x = V.str y) = decide (x = y):=by by_cases z:x = y <;> simp [z]
    rw [e]
    exact q _ _ (s2.trans s3) (Dat.blI _)
theorem re_isnotB (h1:RE K ta σ H (.bl b)) (h2:RE K tb σ H (.bl c)):RE K (tOp (fun x y H Q=>∃ a b,x = .bl a∧y = .bl b∧Q (.bl (a != b)) H) ta tb) σ H (.bl (b != c)):=fun H1 s Q q =>
  h1 H1 s _ fun v H2 s2 q2=>h2 H2 (s.trans s2) _ fun w H3 s3 q3=>⟨b,c,q2.blE,q3.blE,q _ _ (s2.trans s3) (Dat.blI _)⟩
theorem re_ix {k:Nat} (h1:RE K ta σ H (.tup ds)) (h2:RE K tb σ H (.int k)) (e:ds[k]? = some d):RE K (tOp (rIxT K) ta tb) σ H d:=fun H1 s Q q =>
  h1 H1 s _ fun v H2 s2 q2=>h2 H2 (s.trans s2) _ fun w H3 s3 q3=>by
    obtain ⟨a,vs,ev,hq,hd⟩:=(s3.dat q2).tupE
    obtain ⟨x,ex,hx⟩:=hd.get e
    exact ⟨a,vs,k,x,ev,q3.intE,hq,atI_nat ex,q _ _ (s2.trans s3) hx⟩
theorem re_len (h:RE K t σ H (.tup ds)):RE K (tCB (fun xs H Q=>∃ p ys,xs = [.ref p]∧(SqL K H p ys∨SqT K H p ys)∧Q (.int ys.length) H) (tCons t tNil)) σ H (.int ds.length):=fun H1 s Q q =>
  h H1 s _ fun v H2 s2 q2=>by
    obtain ⟨a,vs,ev,hq,hd⟩:=q2.tupE
    subst ev
    refine ⟨a,vs,rfl,.inr hq,?_⟩
    rw [← hd.length]
    exact q _ _ s2 (Dat.intI _)
theorem re_isi {T:String} (h:RE K t σ H d):RE K (tCB (fun xs H Q=>∃ x d,xs = [x,.ty T]∧Dat K H d x∧Q (.bl (isiD d T)) H) (tCons t (tCons (tC (.ty T)) tNil))) σ H (.bl (isiD d T)):=fun H1 s Q q =>
  h H1 s _ fun v H2 s2 q2=>⟨v,d,rfl,q2,q _ _ s2 (Dat.blI _)⟩
theorem re_call {R:List D→D→Prop} {E:XK} (h:RA K tA σ H ds) (e:R ds d):RE K (tCall (spD K R) [] E tA) σ H d:=fun H1 s Q q =>
  h H1 s _ fun vs H2 s2 q2=>⟨ds,d,by rw [List.append_nil]; exact q2,e,fun v H3 s3 q3=>q _ _ (s2.trans s3) q3⟩
theorem re_and (h1:RE K ta σ H (.bl b)) (h2:b = true→RE K tb σ H (.bl c)):RE K (tAndV ta tb) σ H (.bl (b && c)):=fun H1 s Q q =>
  h1 H1 s _ fun v H2 s2 q2=>⟨b,q2.blE,by
    cases b with
    | true=>rw [if_pos rfl]; exact h2 rfl H2 (s.trans s2) _ fun w H3 s3 q3=>q _ _ (s2.trans s3) q3
    | false=>rw [if_neg Bool.false_ne_true]; exact q _ _ s2 (Dat.blI _)⟩
theorem re_not (h:RE K t σ H (.bl b)):RE K (tNotV t) σ H (.bl (!b)):=fun H1 s Q q =>
  h H1 s _ fun v H2 s2 q2=>⟨b,q2.blE,q _ _ s2 (Dat.blI _)⟩
theorem re_chain {p r:Int→Int→Bool} {k:Int} {tc:TE} (h1:RE K ta σ H (.int i)) (h2:RE K tb σ H (.int j)) (h3:p i j = true→RE K tc σ H (.int k)) :
    RE K (tChain (rI0 fun i j=>.bl (p i j)) (rI0 fun i j=>.bl (r i j)) ta tb tc) σ H (.bl (p i j && r j k)):=fun H1 s Q q =>
  h1 H1 s _ fun v H2 s2 q2=>h2 H2 (s.trans s2) _ fun w H3 s3 q3=>by
    refine ⟨i,j,q2.intE,q3.intE,p i j,rfl,?_⟩
    cases hp:p i j with
    | true =>
      simp only [if_true,Bool.true_and]
      exact h3 hp H3 (s.trans (s2.trans s3)) _ fun z H4 s4 q4=>⟨j,k,q3.intE,q4.intE,q _ _ (s2.trans (s3.trans s4)) (by rw [hp]; exact Dat.blI _)⟩
    | false =>
      simp only [Bool.false_eq_true,if_false,Bool.false_and]
      exact q _ _ (s2.trans s3) (by rw [hp]; exact Dat.blI _)
theorem re_if (h:RT tt σ H b) (h1:b = true→RE K ta σ H d) (h2:b = false→RE K tb σ H d):RE K (tIf tt ta tb) σ H d:=fun H1 s Q q =>
  h H1 s _ fun H2 s2=>by
    cases b with
    | true=>rw [if_pos rfl]; exact h1 rfl H2 (s.trans s2) _ fun w H3 s3 q3=>q _ _ (s2.trans s3) q3
    | false=>rw [if_neg Bool.false_ne_true]; exact h2 rfl H2 (s.trans s2) _ fun w H3 s3 q3=>q _ _ (s2.trans s3) q3
theorem rt_test (h:RE K t σ H (.bl b)):RT (tTest t) σ H b:=fun H1 s Q q=>h H1 s _ fun v H2 s2 q2=>⟨b,q2.blE,q _ s2⟩
theorem rt_truth (h:RE K t σ H (.bl b)):RT (fun σ H Q=>t σ H fun x H'=>∃ k,TruV K x H' k∧Q k H') σ H b:=fun H1 s Q q=>h H1 s _ fun v H2 s2 q2=>by
  rw [q2.blE]
  exact ⟨b,rfl,q _ s2⟩
theorem rt_not (h:RT tt σ H b):RT (tNot tt) σ H (!b):=fun H1 s Q q=>h H1 s _ fun H2 s2=>q _ s2
theorem rt_and (h:RT tt σ H b) (h2:b = true→RT uu σ H c):RT (tAnd tt uu) σ H (b && c):=fun H1 s Q q=>h H1 s _ fun H2 s2=>by
  cases b with
  | true=>rw [if_pos rfl]; exact h2 rfl H2 (s.trans s2) _ fun H3 s3=>q _ (s2.trans s3)
  | false=>rw [if_neg Bool.false_ne_true]; exact q _ s2
theorem rt_or (h:RT tt σ H b) (h2:b = false→RT uu σ H c):RT (tOr tt uu) σ H (b || c):=fun H1 s Q q=>h H1 s _ fun H2 s2=>by
  cases b with
  | true=>rw [if_pos rfl]; exact q _ s2
  | false=>rw [if_neg Bool.false_ne_true]; exact h2 rfl H2 (s.trans s2) _ fun H3 s3=>q _ (s2.trans s3)
theorem rs_ret {En:Ends} (h:RE K t σ H d) (q:∀ v H',Same H H'→Dat K H' d v→En.rt v H'):tRet t En σ H:=h.use q
theorem rs_set {En:Ends} {k:Nat} (h:RE K t σ H d) (q:∀ v H',Same H H'→Dat K H' d v→En.nx (σ.set k (some v)) H'):tAsg t (gName k) En σ H:=h.use q
theorem rs_if {En:Ends} {ts us:TS} (h:RT tt σ H b) (h1:b = true→∀ H',Same H H'→ts En σ H') (h2:b = false→∀ H',Same H H'→us En σ H'):tIfS tt ts us En σ H:=h.use fun H' s=>by
  cases b with
  | true=>rw [if_pos rfl]; exact h1 rfl H' s
  | false=>rw [if_neg Bool.false_ne_true]; exact h2 rfl H' s
end
theorem bo_len:bootBuiltins "len" = some (.builtin "len"):=by decide +kernel
theorem bo_isinstance:bootBuiltins "isinstance" = some (.builtin "isinstance"):=by decide +kernel
theorem bo_all:bootBuiltins "all" = some (.builtin "all"):=by decide +kernel
theorem bo_int:bootBuiltins "int" = some (.type "int"):=by decide +kernel
theorem bo_bool:bootBuiltins "bool" = some (.type "bool"):=by decide +kernel
theorem bo_tuple:bootBuiltins "tuple" = some (.type "tuple"):=by decide +kernel
theorem bo_list:bootBuiltins "list" = some (.type "list"):=by decide +kernel
theorem bo_reversed:bootBuiltins "reversed" = some (.type "reversed"):=by decide +kernel
theorem bo_ValueError:bootBuiltins "ValueError" = some (.type "ValueError"):=by decide +kernel
theorem rl_lst {K:PySem.W.Frag} {σ:St} {H:Hp} {tA:TA} {ds:List D} {Q:VK} (h:RA K tA σ H ds) (q:∀ p vs H1,Same H H1→H1 p = none→Dats K H1 ds vs→Q (.ref p) (upd H1 p (.lst vs))) (hl:ds.length ≤ 1000:=by simp):tLst tA σ H Q :=
  h.use fun vs H1 s1 q1=>⟨by rw [← q1.length]; exact small hl,fun p hp=>q p vs H1 s1 hp q1⟩
theorem comp_pure {K:PySem.W.Frag} {J:It} {n:Nat} {item:Nat→V} {j:Nat} {te:TE} {σ0:St} {H1:Hp} {Q:VK} (go:∀ i H',Same H1 H'→i < n→J.go i H'∧∀ x H'',J.yld i H' x H''→H'' = H'∧x = item i) (stop:∀ H',Same H1 H'→J.stop n H')
    (h0:σ0.set j none = σ0) (es:List D) (hn:es.length = n) (hb:n ≤ 1000) (turn:∀ i d,es[i]? = some d→RE K te (σ0.set j (some (item i))) H1 d)
    (fin:∀ l ys H',H1 l = none→Same H1 H'→H' l = some (.lst ys)→Dats K H' es ys→Q (.ref l) H') (l:Addr) (hl:H1 l = none) :
    ∃ W:Nat→Nat→St→Hp→Prop,(∃ m,W 0 m σ0 (upd H1 l (.lst [])))∧∀ i m σ' H',W i m σ' H' →
      (J.stop i H'∧Q (.ref l) H') ∨
      (J.go i H'∧∃ Nx:St→Hp→Prop,(∀ σ'' H'',Nx σ'' H''→∃ m',m' < m∧W (i + 1) m' σ'' H'')∧∀ x H'',J.yld i H' x H''→gName j x σ' H'' fun σ2 H2=>tTrue σ2 H2 fun b H3 =>
        if b = true then te σ2 H3 fun v H4=>∃ ys,H4 l = some (.lst ys)∧ys.length < sizeLine∧Nx σ2 (upd H4 l (.lst (ys ++ [v]))) else Nx σ2 H3):=by
  refine comp_items (fun H'=>Same H1 H') go stop h0 l (fun i H'=>Same H1 H'∧∃ ys,H' l = some (.lst ys)∧Dats K H' (es.take i) ys) ?_ ?_ ?_ ?_
  · exact ⟨same_new hl _,[],upd_same,by rw [List.take_zero]; exact Dats.nil⟩
  · intro i H' _ p
    exact p.1
  · intro i H' hi ⟨s1,ys,hy,hd⟩
    have hi':i < es.length:=by omega
    refine ((turn i es[i] (List.getElem?_eq_getElem hi')).mono s1).use fun v H4 s4 q4=>?_
    have hy4:=s4 _ _ hy
    have lys:ys.length = i:=by rw [← hd.length,List.length_take]; omega
    refine ⟨ys,hy4,small1000 (by omega),⟨_,rfl⟩,fun b o hb=>?_,ys ++ [v],upd_same,?_⟩
    · rw [upd_ne (ne_of_none hb hl)]
      exact s4 _ _ (s1 _ _ hb)
    · have g:Grow K H4 (upd H4 l (.lst (ys ++ [v]))):=But.grow (t:=l) (But.upd (Same.refl H4).but) hy4 upd_same
      rw [List.take_add_one,List.getElem?_eq_getElem hi']
      exact Dats.append (Dats.mono g _ (s4.dats hd)) (Dats.cons (Dat.mono g _ q4) Dats.nil)
  · intro H' ⟨s1,ys,hy,hd⟩
    rw [List.take_of_length_le (by omega)] at hd
    exact fin l ys H' hl s1 hy hd
theorem rs_ifr {K:PySem.W.Frag} {σ:St} {H:Hp} {tt:TT} {b:Bool} {En:Ends} {ts us:TS} (h:RT tt σ H b) (h1:b = true→∀ H',Same H H'→ts { En with nx:=us En } σ H') (h2:b = false→∀ H',Same H H'→us En σ H'):tSeq (tIfS tt ts tNext) us En σ H :=
  rs_if h h1 h2
theorem rs_setr {K:PySem.W.Frag} {σ:St} {H:Hp} {t:TE} {d:D} {En:Ends} {us:TS} {k:Nat} (h:RE K t σ H d) (q:∀ v H',Same H H'→Dat K H' d v→us En (σ.set k (some v)) H'):tSeq (tAsg t (gName k)) us En σ H:=h.use q
theorem rs_asg {σ:St} {H:Hp} {te:TE} {En:Ends} {us:TS} {k:Nat} (h:te σ H fun x H1=>us En (σ.set k (some x)) H1):tSeq (tAsg te (gName k)) us En σ H:=h
theorem rs_exp {σ:St} {H:Hp} {te:TE} {En:Ends} {us:TS} (h:te σ H fun _ H1=>us En σ H1):tSeq (tDrop te) us En σ H:=h
theorem rs_seq {σ:St} {H:Hp} {En:Ends} {ts us:TS} (h:ts { En with nx:=us En } σ H):tSeq ts us En σ H:=h
theorem rcomp_tup {K:PySem.W.Frag} {tl te:TE} {mk:St→St} {j:Nat} {σ:St} {H:Hp} {Q:VK} {cs:List D} (h:RE K tl σ H (.tup cs)) (hc:cs.length ≤ 1000) (es:List D) (hl:es.length = cs.length) (h0:(mk σ).set j none = mk σ)
    (turn:∀ H1 (i:Nat) c v d,Same H H1→cs[i]? = some c→es[i]? = some d→Dat K H1 c v→RE K te ((mk σ).set j (some v)) H1 d)
    (fin:∀ l ys H',H l = none→Same H H'→H' l = some (.lst ys)→Dats K H' es ys→Q (.ref l) H'):tComp (iTup K tl) mk (gName j) tTrue te σ H Q:=by
  refine h.use fun v4 H4 s4 q4=>?_
  obtain ⟨a,vs,e,hq,hd⟩:=q4.tupE
  subst e
  have l4:=hd.length
  refine ⟨a,rfl,⟨vs,hq⟩,?_⟩
  refine comp_pure (K:=K) (Q:=Q) (n:=vs.length) (item:=fun i=>vs.getD i .non) (fun i H' s hi=>go_tup i H' (s.sqT hq) hi) (fun H' s=>⟨vs,s.sqT hq,Nat.le_refl _⟩) h0 es (by omega) (by omega) (fun i d hi=>?_) (fun l ys H5 hl5 s5=>fin l ys H5 (s4.free hl5) (s4.trans s5))
  have hi':i < es.length:=(List.getElem?_eq_some_iff.mp hi).1
  have hic:i < cs.length:=by omega
  obtain ⟨vz,ez,hz⟩:=hd.get (List.getElem?_eq_getElem hic)
  have q:=turn H4 i cs[i] vz d s4 (List.getElem?_eq_getElem hic) hi hz
  rw [List.getD_eq_getElem?_getD,ez]
  exact q
end L2
end
section
namespace L2
open PySem PySem.Spec PyProof.Rows
theorem rg_name {j:Nat} {v:V} {σ:St} {H:Hp} {Q:St→Hp→Prop} (h:Q (σ.set j (some v)) H):gName j v σ H Q:=h
theorem r_cb1 {ta:TE} {r:List V→Hp→VK→Prop} {σ:St} {H:Hp} {Q:VK} (h:ta σ H fun x H1=>r [x] H1 Q):tCB r (tCons ta tNil) σ H Q:=h
theorem re_lst {K:PySem.W.Frag} {tA:TA} {σ:St} {H:Hp} {ds:List D} (h:RA K tA σ H ds) (hl:ds.length ≤ 1000:=by simp):RE K (tLst tA) σ H .lst:=fun H1 s Q q =>
  h H1 s _ fun vs H2 s2 q2=>⟨by rw [← q2.length]; exact small hl,fun p hp=>q _ _ (s2.trans (same_new hp _)) (Dat.lstI (SqL.of upd_same))⟩
theorem rs_extl {K:PySem.W.Frag} {tA:TA} {us:TS} {En:Ends} {σ:St} {G:Hp} {j:Nat} {l:Addr} {xs:List V} {es:List D} (h:RA K tA σ G es) (hl:G l = some (.lst xs)) (hx:xs.length ≤ 900)
    (q:∀ ys G',But l G G'→G' l = some (.lst (xs ++ ys))→Dats K G' es ys→us En σ G') (hv:σ[j]? = some (some (.ref l)):=by rfl) (he:es.length ≤ 100:=by simp):tSeq (tDrop (tBM K "list" rExtend (tVar j) (tCons (tLst tA) tNil))) us En σ G:=by
  refine ⟨_,hv,.inl ⟨rfl,_,SqL.of hl⟩,?_⟩
  refine rl_lst h (fun p vs H1 s1 hp q1=>?_) (by omega)
  have hlp:l ≠ p:=ne_of_none (s1 _ _ hl) hp
  have hl1:upd H1 p (.lst vs) l = some (.lst xs):=by rw [upd_ne hlp]; exact s1 _ _ hl
  have lv:=q1.length
  refine ⟨l,p,xs,vs,rfl,rfl,hl1,upd_same,small (by omega),?_⟩
  have b:But l (upd H1 p (.lst vs)) (upd (upd H1 p (.lst vs)) l (.lst (xs ++ vs))):=But.upd (Same.refl _).but
  have g:Grow K (upd H1 p (.lst vs)) (upd (upd H1 p (.lst vs)) l (.lst (xs ++ vs))):=b.grow hl1 upd_same
  exact q vs _ ((s1.trans (same_new hp _)).but.trans b) upd_same (Dats.mono g _ ((same_new hp _).dats q1))
theorem rs_unp2 {K:PySem.W.Frag} {te:TE} {us:TS} {En:Ends} {σ:St} {H:Hp} {i j:Nat} {d e:D} (h:RE K te σ H (.tup [d,e])) (q:∀ v w H',Same H H'→Dat K H' d v→Dat K H' e w→us En ((σ.set i (some v)).set j (some w)) H') :
    tSeq (tAsg te (gTup K 2 (gCons (gName i) (gCons (gName j) gNil)))) us En σ H :=
  h.use fun x H1 s1 q1=>by
    obtain ⟨a,vs,e1,hq,hd⟩:=q1.tupE
    obtain ⟨v,w,e2,hv,hw⟩:=dats2 hd
    subst e1 e2
    exact ⟨a,_,rfl,hq,rfl,v,_,rfl,w,_,rfl,rfl,q v w H1 s1 hv hw⟩
def nStar:Expr→Bool
  | .Starred ..=>false
  | _=>true
theorem star_cons {e:Expr} {es:List Expr} {env:Env} (h:nStar e = true):starEach (e :: es) env = (false,eval e env) :: starEach es env:=by
  cases e <;> first | rfl | cases h
theorem pa_c {X:Cx} {e:Expr} {es:List Expr} {te:TE} {t:TA} (ha:PE X e te) (hr:PA X es t) (h:nStar e = true:=by rfl):PA X (e :: es) (tCons te t):=pa_cons ha hr (star_cons h)
end L2
end
section
namespace L2
open PySem PySem.Spec PyProof.Rows
theorem vals_bools {bs:List Bool} {us:List Value}:Vals (bs.map V.bl) us→us = bs.map Value.bool:=by
  intro h
  induction bs generalizing us with
  | nil=>cases h; rfl
  | cons b bs ih =>
    cases h with
    | cons r t=>cases r; rw [ih t]; rfl
theorem rangeB (bs:List Bool) (d:Bool):(List.range bs.length).map (fun i=>(bs[i]?).getD d) = bs:=by
  apply List.ext_getElem
  · simp
  · intro i h1 h2
    simp at h1
    simp [h1]
section
variable {X:Cx}
theorem call_all (hc:X.calm = true):CallR X (.builtin "all") (fun xs H Q=>∃ (l:Addr) (bs:List Bool),xs = [.ref l]∧SqL X.K H l (bs.map V.bl)∧Q (.bl (bs.all id)) H):=by
  intro pins s σ H xs us Q I r h
  obtain ⟨l,bs,rfl,hq,q⟩:=h
  obtain ⟨u,rfl,ru⟩:=vals1 r
  cases ru
  obtain ⟨its,rv,p,hz⟩:=I.list hq
  have ei:=vals_bools rv
  have hl:=p.isList
  have hlt:l < s.heap.objs.size:=by obtain ⟨_,e,_⟩:=hl; exact Heap.lt_size e
  refine call_all_walk (wpAny_pyIter_list hl ?_)
  refine ⟨s.heap.objs.size,[s.heap.objs.size,l],[s.heap.objs.size],its.toArray.size,_,_,fun i=>(bs[i]?).getD true,rfl,Walks.list (A:=X.A.in1) (I.ok.hd hc) _ l (Nat.ne_of_lt hlt) its.toArray,
    ⟨⟨_,Heap.get?_push_size _ rfl,rfl,rfl⟩,hl.push _⟩,fun i v s' Q' E' hP hQ=>?_,fun h' tk hk=>?_⟩
  · subst ei
    have hP':(bs.map Value.bool)[i]? = some v:=by simpa using hP
    rw [List.getElem?_map] at hP'
    cases hb:bs[i]? with
    | none=>rw [hb] at hP'; cases hP'
    | some b =>
      rw [hb] at hP'
      cases hP'
      simp only [hb,Option.getD_some] at hQ
      exact wpAny_truthy_bool hQ
  · have e:((List.range its.toArray.size).all fun i=>(bs[i]?).getD true) = bs.all id:=by
      subst ei
      rw [List.size_toArray,List.length_map]
      conv=>rhs; rw [← rangeB bs true]
      rw [List.all_map]
      rfl
    rw [e]
    exact ⟨.bl _,H,I.kept (t':=tk) fun b x e=>hk b x (fun hm=>by rw [List.mem_singleton.mp hm] at e; exact Nat.lt_irrefl _ (Heap.lt_size e)) (Heap.get?_push_of_some _ e),rfl,q⟩
end
structure FunD (K:PySem.W.Frag) (x qual:Str) (st:Stmt) (f:Addr) (fd:FuncData) (T:Addr) (ds:List Value):Prop where
  ex:∃ (oc:Value) (od:Option Addr) (kV doc pm:Value) (an:Option Addr) (cdv ct:Value) (osl:Array (Option Value)),
    fd = PySem.W.fnOf x qual (defArgs st) (defBody st) (defScope st) (.ref T) kV doc pm an cdv ct∧K.lookup f = some ⟨oc,od,.func fd,osl⟩∧PySem.W.codeIn K cdv qual = true
  kp:PySem.W.keepIn K (.ref f) = true
  df:∃ (o:Obj) (n:Nat),K.lookup T = some o∧o.data = .seq ds.toArray n
section
variable {P:Program} {w:World} {K:PySem.W.Frag} {mg:Str→Option Value} {base:Heap}
end
section
variable {K:PySem.W.Frag} {σ:St} {H H':Hp} {d d':D} {ds:List D} {t u ta tb:TE} {tt uu:TT} {tA:TA} {i j:Int} {b c:Bool}
theorem re_mod (h1:RE K ta σ H (.int i)) (h2:RE K tb σ H (.int j)) (hj:0 < j):RE K (tOp (rI (fun _ j=>0 < j) fun i j=>.int (i % j)) ta tb) σ H (.int (i % j)):=re_opC h1 h2 hj fun _=>Dat.intI _
theorem re_mul (h1:RE K ta σ H (.int i)) (h2:RE K tb σ H (.int j)) (hc:CMul i j):RE K (tOp (rI CMul fun i j=>.int (i * j)) ta tb) σ H (.int (i * j)):=re_opC h1 h2 hc fun _=>Dat.intI _
theorem datBs:∀ {bs:List Bool} {vs:List V},Dats K H (bs.map D.bl) vs→vs = bs.map V.bl
  | [],vs,h=>by rw [Dats.nilE h]; rfl
  | b :: bs,vs,h=>by
    obtain ⟨v,r,e,h1,h2⟩:=h.consE
    rw [e,h1.blE,datBs h2]
    rfl
theorem re_all_tup {te tl:TE} {mk:St→St} {jj:Nat} {cs:List D} (h:RE K tl σ H (.tup cs)) (hc:cs.length ≤ 1000) (bs:List Bool) (hl:bs.length = cs.length) (h0:(mk σ).set jj none = mk σ)
    (turn:∀ H1 (i:Nat) c v b,Same H H1→cs[i]? = some c→bs[i]? = some b→Dat K H1 c v→RE K te ((mk σ).set jj (some v)) H1 (.bl b)) :
    RE K (tCB (fun xs H Q=>∃ (l:Addr) (bs:List Bool),xs = [.ref l]∧SqL K H l (bs.map V.bl)∧Q (.bl (bs.all id)) H) (tCons (tComp (iTup K tl) mk (gName jj) tTrue te) tNil)) σ H (.bl (bs.all id)):=fun H1 s Q q =>
  r_cb1 (rcomp_tup (K:=K) (h.mono s) hc (bs.map D.bl) (by rw [List.length_map,hl]) h0 (fun H2 i c v d s2 hc2 hd2 hv=>by
    rw [List.getElem?_map] at hd2
    cases hb:bs[i]? with
    | none=>rw [hb] at hd2; cases hd2
    | some b=>rw [hb] at hd2; cases hd2; exact turn H2 i c v b (s.trans s2) hc2 hb hv) (fun l ys H' hl' s' hy hd=>by
    have e:=datBs hd
    subst e
    exact ⟨l,bs,rfl,SqL.of hy,q _ _ s' (Dat.blI _)⟩))
end
end L2
end
section
namespace L2
open PySem PySem.Spec PyProof.Rows
section
variable {K:PySem.W.Frag} {σ:St} {H H':Hp} {d d':D} {ds:List D} {t u ta tb:TE} {tt uu:TT} {tA:TA} {i j:Int} {b c:Bool}
theorem datSs:∀ {xs:List Str} {vs:List V},Dats K H (xs.map D.str) vs→vs = xs.map V.str
  | [],vs,h=>by rw [Dats.nilE h]; rfl
  | x :: xs,vs,h=>by
    obtain ⟨v,r,e,h1,h2⟩:=h.consE
    rw [e,h1.strE,datSs h2]
    rfl
theorem eqV_str (x y:Str):eqV (.str x) (.str y) = decide (x = y):=by
  unfold eqV
  by_cases h:x = y <;> simp [h]
theorem inV_str (x:Str):∀ ys:List Str,inV (.str x) (ys.map V.str) = decide (x ∈ ys)
  | []=>by simp [inV]
  | y :: ys=>by
    have ih:=inV_str x ys
    unfold inV at ih ⊢
    rw [List.map_cons,List.any_cons,ih,eqV_str]
    by_cases h:y = x
    · subst h; simp
    · have h':¬ x = y:=fun z=>h z.symm
      simp [h,h']
theorem flat_strs (ys:List Str):(ys.map V.str).all flatV = true:=by
  rw [List.all_eq_true]
  intro v hv
  obtain ⟨y,_,rfl⟩:=List.mem_map.mp hv
  rfl
theorem re_inS {x:Str} {ys:List Str} (h1:RE K ta σ H (.str x)) (h2:RE K tb σ H (.tup (ys.map D.str))):RE K (tOp (rIn K false) ta tb) σ H (.bl (decide (x ∈ ys))):=fun H1 s Q q =>
  h1 H1 s _ fun v H2 s2 q2=>h2 H2 (s.trans s2) _ fun w H3 s3 q3=>by
    obtain ⟨a,vs,ev,hq,hd⟩:=q3.tupE
    have e:=datSs hd
    subst e
    rw [q2.strE]
    refine ⟨a,_,ev,.inr hq,rfl,flat_strs ys,?_⟩
    rw [inV_str]
    exact q _ _ (s2.trans s3) (Dat.blI _)
end
end L2
end
section
namespace L2
open PySem PySem.Spec PyProof.Rows
section
variable {X:Cx}
variable {tg:Expr}
def tTabGet (K:PySem.W.Frag) (td ty tx:TE):TE:=fun σ H Q=>td σ H fun x H1=>∃ a T,x = .ref a∧TabK K a T∧ty σ H1 fun y H2=>tx σ H2 fun z H3=>∃ k i,y = .str k∧z = .int i∧(∀ p ∈ T,∃ j,p.2 = .flat (.int j)) ∧
  Q (.int (match KTD.datumAt k T with | some (.flat (.int j))=>j | _=>i)) H3
theorem pe_tabget {o e f:Expr} {apos cpos:Pos} {td ty tx:TE} (ho:PE X o td) (he:PE X e ty) (hf:PE X f tx) (m:M2 X o "get" apos e f cpos):PE X (.Call (.Attribute o "get" apos) [e,f] [] cpos) (tTabGet X.K td ty tx):=by
  intro pins s σ H Q I h
  refine wpAny_Call_method m.base m.few m.line PySem.F.plainAttrs_dict PySem.F.slot_dict_get PySem.F.type_dict_get (thn (ho pins s σ H _ I h) fun u s1 ⟨x,H1,I1,rx,a,T,ex,tk,q1⟩=>?_)
  subst ex
  obtain rfl:u = Value.ref a:=rx
  have t1:=tk _ I1.kIn
  obtain ⟨lo,ob,es,ep,hob,hex,hdat,hrows⟩:=id t1
  refine ⟨⟨ob,hob,hex.1⟩,fun b eb=>?_,?_⟩
  · cases eb
    exact ⟨ob,hob,hex.2.1⟩
  rw [m.trees]
  refine Calls.callWith_builtin rfl (Calls.evalArgs_plain (Calls.spliced_cons (thn (he pins s1 σ H1 _ I1 q1) fun iv s2 ⟨y,H2,I2,ry,q2⟩ =>
    Calls.spliced_cons (thn (hf pins s2 σ H2 _ I2 q2) fun fv s3 ⟨z,H3,I3,rz,k,i,ey,ez,hT,q3⟩=>Calls.spliced_nil ?_))))
  subst ey ez
  obtain ⟨tok1,rfl⟩:=ry
  obtain ⟨tok2,rfl⟩:=rz
  refine KTD.get2_text (h₀:=s3.heap) ⟨tk _ I3.kIn,fun _ _ e=>e⟩ ?_
  have fin:∀ (D:List (Str × KTD.Dat)),(∀ p ∈ D,∃ j,p.2 = .flat (.int j))→Q (.int (match KTD.datumAt k D with | some (.flat (.int j))=>j | _=>i)) H3 →
      KTD.Each s3.heap k (fun v=>EP X pins σ Q v { s3 with toks:=s3.toks + 1 }) (EP X pins σ Q (.int i tok2) { s3 with toks:=s3.toks + 1 }) D:=by
    intro D
    induction D with
    | nil=>intro _ q; exact KTD.each_nil ⟨.int i,H3,I3.tok _,⟨_,rfl⟩,q⟩
    | cons p D ih =>
      intro hD q
      obtain ⟨x,d⟩:=p
      obtain ⟨j,ej⟩:=hD (x,d) List.mem_cons_self
      have ej':d = .flat (.int j):=ej
      subst ej'
      have ed:KTD.datumAt k ((x,KTD.Dat.flat (.int j)) :: D) = if decide (k = x) = true then some (.flat (.int j)) else KTD.datumAt k D:=rfl
      rw [ed] at q
      by_cases hx:k = x
      · rw [if_pos (decide_eq_true hx)] at q
        exact KTD.each_hit hx (KTD.opened_int fun t=>⟨.int j,H3,I3.tok _,⟨t,rfl⟩,q⟩)
      · rw [if_neg (by simp [hx])] at q
        exact KTD.each_miss hx (ih (fun p hp=>hD p (List.mem_cons_of_mem _ hp)) q)
  exact fin T hT q3
end
end L2
end
section
namespace L2
open PySem PySem.Spec PyProof.Rows
section
variable {X:Cx} {tg:Expr}
end
end L2
end
section
namespace L2
open PySem PySem.Spec PyProof.Rows
def RC (K:PySem.W.Frag) (t:TE) (σ:St) (H:Hp) (es:List D):Prop:=∀ H1,Same H H1→∀ Q:VK,(∀ l ys H',H1 l = none→Same H1 H'→H' l = some (.lst ys)→Dats K H' es ys→Q (.ref l) H')→t σ H1 Q
section
variable {K:PySem.W.Frag} {σ:St} {H H':Hp} {d d':D} {ds es:List D} {t u ta tb te tl:TE} {tt uu:TT} {tA:TA} {i j:Int} {b c:Bool} {mk:St→St} {jj:Nat}
theorem RC.mono (h:RC K t σ H es) (e:Same H H'):RC K t σ H' es:=fun H1 s Q q=>h H1 (e.trans s) Q q
theorem RC.use {Q:VK} (h:RC K t σ H es) (q:∀ l ys H',H l = none→Same H H'→H' l = some (.lst ys)→Dats K H' es ys→Q (.ref l) H'):t σ H Q:=h H (Same.refl H) Q q
theorem rc_lst (h:RA K tA σ H es) (hl:es.length ≤ 1000:=by simp):RC K (tLst tA) σ H es:=fun H1 s Q q =>
  rl_lst (h.mono s) (fun p vs H2 s2 hp hd=>q p vs _ (s2.free hp) (s2.trans (same_new hp _)) upd_same ((same_new hp _).dats hd)) hl
theorem re_allC {bs:List Bool} (h:RC K t σ H (bs.map D.bl)):RE K (tCB (fun xs H Q=>∃ (l:Addr) (bs:List Bool),xs = [.ref l]∧SqL K H l (bs.map V.bl)∧Q (.bl (bs.all id)) H) (tCons t tNil)) σ H (.bl (bs.all id)):=fun H1 s Q q =>
  r_cb1 ((h.mono s).use fun l ys H' _ s' hy hd=>⟨l,bs,rfl,by rw [← datBs hd]; exact SqL.of hy,q _ _ s' (Dat.blI _)⟩)
theorem re_tupleC (h:RC K t σ H es):RE K (tCB (fun xs H Q=>∃ p ys,xs = [.ref p]∧((SqL K H p ys∧∀ l,H l = none→Q (.ref l) (upd H l (.tup ys)))∨(SqT K H p ys∧Q (.ref p) H))) (tCons t tNil)) σ H (.tup es):=fun H1 s Q q =>
  r_cb1 ((h.mono s).use fun l ys H' _ s' hy hd=>⟨l,ys,rfl,.inl ⟨SqL.of hy,fun p hp=>q _ _ (s'.trans (same_new hp _)) (Dat.tupI (SqT.of upd_same) ((same_new hp _).dats hd))⟩⟩)
theorem rs_setC {us:TS} {En:Ends} {k:Nat} (h:RC K t σ H es) (q:∀ l ys H',H l = none→Same H H'→H' l = some (.lst ys)→Dats K H' es ys→us En (σ.set k (some (.ref l))) H'):tSeq (tAsg t (gName k)) us En σ H:=h.use q
def tabD (k:Str) (T:List (Str × KTD.Dat)) (i:Int):Int:=match KTD.datumAt k T with | some (.flat (.int j))=>j | _=>i
theorem re_tabget {k:Str} {a:Addr} {T:List (Str × KTD.Dat)} (ht:TabK K a T) (h1:RE K ta σ H (.str k)) (h2:RE K tb σ H (.int i)) (hT:∀ p ∈ T,∃ j,p.2 = .flat (.int j)):RE K (tTabGet K (tC (.ref a)) ta tb) σ H (.int (tabD k T i)):=fun H1 s Q q =>
  ⟨a,T,rfl,ht,h1 H1 s _ fun v H2 s2 q2=>h2 H2 (s.trans s2) _ fun w H3 s3 q3=>⟨k,i,(s3.dat q2).strE,q3.intE,hT,q _ _ (s2.trans s3) (Dat.intI _)⟩⟩
theorem cut_nat {vs:List V} {lo hi:Nat}:cutV vs (some (lo:Int)) (some (hi:Int)) = (vs.drop lo).take (hi - lo):=by
  unfold cutV
  rw [HT.sIx_nat,HT.sIx_nat]
  apply List.ext_getElem?
  intro i
  simp only [List.getElem?_take,List.getElem?_drop]
  by_cases h1:i < hi - lo
  · rw [if_pos h1]
    by_cases h2:i < min hi vs.length - min lo vs.length
    · rw [if_pos h2]
      congr 1
      omega
    · rw [if_neg h2,List.getElem?_eq_none (by omega)]
  · rw [if_neg h1,if_neg (by omega)]
theorem Dats.dropN:∀ {n:Nat} {ds:List D} {vs:List V},Dats K H ds vs→Dats K H (ds.drop n) (vs.drop n)
  | 0,_,_,h=>h
  | n + 1,[],_,h=>by rw [h.nilE]; exact Dats.nil
  | n + 1,d :: ds,_,h=>by
    obtain ⟨v,r,e,h1,h2⟩:=h.consE
    subst e
    exact Dats.dropN (n:=n) h2
theorem Dats.takeN:∀ {n:Nat} {ds:List D} {vs:List V},Dats K H ds vs→Dats K H (ds.take n) (vs.take n)
  | 0,_,_,h=>by rw [List.take_zero,List.take_zero]; exact Dats.nil
  | n + 1,[],_,h=>by rw [h.nilE]; exact Dats.nil
  | n + 1,d :: ds,_,h=>by
    obtain ⟨v,r,e,h1,h2⟩:=h.consE
    subst e
    exact Dats.cons h1 (Dats.takeN (n:=n) h2)
end
mutual
def datOk (K:PySem.W.Frag):D→Value→Bool
  | .non,u=>(match u with | .none=>true | _=>false)
  | .bl b,u=>(match u with | .bool c=>b == c | _=>false)
  | .int i,u=>(match u with | .int j _=>i == j | _=>false)
  | .str x,u=>(match u with | .str y _=>x == y | _=>false)
  | .tup ds,u=>(match u with | .ref a=>(match K.lookup a with | some ⟨.type "tuple",_,.seq its _,_⟩=>decide (its.size ≤ 1000) && datsOk K ds its.toList | _=>false) | _=>false)
  | .lst,_=>false
def datsOk (K:PySem.W.Frag):List D→List Value→Bool
  | [],us=>us.isEmpty
  | d :: ds,us=>(match us with | u :: r=>datOk K d u && datsOk K ds r | []=>false)
end
mutual
theorem datOk_sound {K:PySem.W.Frag} (H:Hp):∀ (d:D) (u:Value),datOk K d u = true→∃ v,RelV v u∧Dat K H d v
  | .non,u,h=>by
    unfold datOk at h
    cases u <;> first | (exact ⟨.non,rfl,Dat.nonI⟩) | cases h
  | .bl b,u,h=>by
    unfold datOk at h
    cases u <;> first | cases h | skip
    rename_i c
    have e:b = c:=by simpa using h
    subst e
    exact ⟨.bl b,rfl,Dat.blI _⟩
  | .int i,u,h=>by
    unfold datOk at h
    cases u <;> first | cases h | skip
    rename_i j t
    have e:i = j:=by simpa using h
    subst e
    exact ⟨.int i,⟨t,rfl⟩,Dat.intI _⟩
  | .str x,u,h=>by
    unfold datOk at h
    cases u <;> first | cases h | skip
    rename_i y t
    have e:x = y:=by simpa using h
    subst e
    exact ⟨.str x,⟨t,rfl⟩,Dat.strI _⟩
  | .tup ds,u,h=>by
    unfold datOk at h
    cases u <;> first | cases h | skip
    rename_i a
    dsimp only at h
    split at h
    · rename_i od its n sl e
      rw [Bool.and_eq_true] at h
      obtain ⟨vs,r,hd⟩:=datsOk_sound H ds its.toList h.2
      refine ⟨.ref a,rfl,Dat.tupI (.inr ⟨_,its,n,e,rfl,rfl,?_,r⟩) hd⟩
      exact Nat.le_trans (of_decide_eq_true h.1) (by decide)
    · cases h
  | .lst,u,h=>by unfold datOk at h; cases h
theorem datsOk_sound {K:PySem.W.Frag} (H:Hp):∀ (ds:List D) (us:List Value),datsOk K ds us = true→∃ vs,Vals vs us∧Dats K H ds vs
  | [],us,h=>by
    unfold datsOk at h
    cases us with
    | nil=>exact ⟨[],.nil,Dats.nil⟩
    | cons u r=>cases h
  | d :: ds,us,h=>by
    unfold datsOk at h
    cases us with
    | nil=>cases h
    | cons u r =>
      dsimp only at h
      rw [Bool.and_eq_true] at h
      obtain ⟨v,r1,h1⟩:=datOk_sound H d u h.1
      obtain ⟨vs,r2,h2⟩:=datsOk_sound H ds r h.2
      exact ⟨v :: vs,.cons r1 r2,Dats.cons h1 h2⟩
end
theorem datK {K:PySem.W.Frag} {ds:List D} {a:Addr} (h:datOk K (.tup ds) (.ref a) = true) (H:Hp):Dat K H (.tup ds) (.ref a):=by
  obtain ⟨v,r,hd⟩:=datOk_sound H _ _ h
  obtain ⟨b,vs,e,_⟩:=id hd.tupE
  subst e
  have z:Value.ref a = .ref b:=r
  cases z
  exact hd
theorem re_con {K:PySem.W.Frag} {σ:St} {H:Hp} {ds:List D} {a:Addr} (h:datOk K (.tup ds) (.ref a) = true):RE K (tC (.ref a)) σ H (.tup ds):=fun H1 _ Q q=>q _ _ (Same.refl _) (datK h H1)
end L2
end
section
namespace L2
open PySem PySem.Spec PyProof.Rows
section
variable {X:Cx}
def LstK (K:PySem.W.Frag) (a:Addr) (xs:List V):Prop:=∃ (its:Array Value) (n:Nat),K.lookup a = some ⟨.type "list",none,.seq its n,#[]⟩∧its.size ≤ 1000∧Vals xs its.toList
def aLst (K:PySem.W.Frag) (H:Hp) (a:Addr) (xs:List V):Prop:=H a = some (.lst xs)∨LstK K a xs
theorem aLst.sqL {K:PySem.W.Frag} {H:Hp} {a:Addr} {xs:List V} (h:aLst K H a xs):SqL K H a xs:=by
  rcases h with h | ⟨its,n,e,hz,r⟩
  · exact SqL.of h
  · exact .inr ⟨_,its,n,e,rfl,rfl,rfl,Nat.le_trans hz (by decide),r⟩
end
section
variable {K:PySem.W.Frag} {σ:St} {H:Hp} {t:TE} {n:Nat}
end
end L2
end
section
namespace L2
open PySem PySem.Spec PyProof.Rows
section
variable {K:PySem.W.Frag} {l0 l1 l2:Addr} {H H' H2:Hp} {a b c a' b' c':List V} {v:V}
theorem rs_appl {te:TE} {us:TS} {En:Ends} {σ:St} {G:Hp} {j:Nat} {l:Addr} {xs:List V} {d:D} (h:RE K te σ G d) (hl:G l = some (.lst xs)) (hx:xs.length ≤ 900)
    (q:∀ y G',But l G G'→G' l = some (.lst (xs ++ [y]))→Dat K G' d y→us En σ G') (hv:σ[j]? = some (some (.ref l)):=by rfl):tSeq (tDrop (tBM K "list" rAppend (tVar j) (tCons te tNil))) us En σ G:=by
  refine ⟨_,hv,.inl ⟨rfl,_,SqL.of hl⟩,h.use fun y H1 s1 q1=>?_⟩
  have hl1:=s1 _ _ hl
  refine ⟨l,xs,y,rfl,rfl,hl1,small1000 (by omega),?_⟩
  have b:But l H1 (upd H1 l (.lst (xs ++ [y]))):=But.upd (Same.refl _).but
  exact q y _ (s1.but.trans b) upd_same (Dat.mono (b.grow hl1 upd_same) _ q1)
end
end L2
end
section
namespace L2
open PySem PySem.Spec PyProof.Rows
section
variable {X:Cx}
variable {tg:Expr}
end
end L2
end
section
namespace L2
open PySem PySem.Spec PyProof.Rows
section
variable {X:Cx}
end
end L2
end
section
namespace L2
open PySem PySem.Spec PyProof.Rows
theorem Same.aLst {K:PySem.W.Frag} {H H':Hp} {a:Addr} {xs:List V} (e:Same H H') (h:aLst K H a xs):aLst K H' a xs:=h.elim (fun z=>.inl (e _ _ z)) .inr
def LD (K:PySem.W.Frag) (H:Hp) (ds:List D) (v:V):Prop:=∃ a vs,v = .ref a∧aLst K H a vs∧Dats K H ds vs
theorem Same.ld {K:PySem.W.Frag} {H H':Hp} {ds:List D} {v:V} (e:Same H H') (h:LD K H ds v):LD K H' ds v:=by
  obtain ⟨a,vs,e1,h1,h2⟩:=h
  exact ⟨a,vs,e1,e.aLst h1,e.dats h2⟩
theorem LD.lst {K:PySem.W.Frag} {H:Hp} {ds:List D} {v:V} (h:LD K H ds v):Dat K H .lst v:=by
  obtain ⟨a,vs,rfl,h1,_⟩:=h
  exact Dat.lstI h1.sqL
theorem LD.of {K:PySem.W.Frag} {H:Hp} {ds:List D} {a:Addr} {vs:List V} (h:H a = some (.lst vs)) (hd:Dats K H ds vs):LD K H ds (.ref a):=⟨a,vs,rfl,.inl h,hd⟩
inductive Ar where
  | d (x:D)
  | l (ds:List D)
def ArI (K:PySem.W.Frag) (H:Hp):Ar→V→Prop
  | .d x,v=>Dat K H x v
  | .l ds,v=>LD K H ds v
inductive Ars (K:PySem.W.Frag) (H:Hp):List Ar→List V→Prop
  | nil:Ars K H [] []
  | cons {a v as vs}:ArI K H a v→Ars K H as vs→Ars K H (a :: as) (v :: vs)
theorem Same.ari {K:PySem.W.Frag} {H H':Hp} {a:Ar} {v:V} (e:Same H H') (h:ArI K H a v):ArI K H' a v:=by
  cases a with
  | d x=>exact e.dat h
  | l ds=>exact e.ld h
theorem Ars.length {K:PySem.W.Frag} {H:Hp} {as:List Ar} {vs:List V} (h:Ars K H as vs):as.length = vs.length:=by
  induction h with
  | nil=>rfl
  | cons _ _ ih=>simp [ih]
theorem ars1 {K:PySem.W.Frag} {H:Hp} {a:Ar} {vs:List V} (h:Ars K H [a] vs):∃ u,vs = [u]∧ArI K H a u:=by
  cases h with
  | cons h1 h2=>cases h2; exact ⟨_,rfl,h1⟩
theorem ars2 {K:PySem.W.Frag} {H:Hp} {a b:Ar} {vs:List V} (h:Ars K H [a,b] vs):∃ u v,vs = [u,v]∧ArI K H a u∧ArI K H b v:=by
  cases h with
  | cons h1 h2=>obtain ⟨v,rfl,q⟩:=ars1 h2; exact ⟨_,v,rfl,h1,q⟩
theorem ars3 {K:PySem.W.Frag} {H:Hp} {a b c:Ar} {vs:List V} (h:Ars K H [a,b,c] vs):∃ u v w,vs = [u,v,w]∧ArI K H a u∧ArI K H b v∧ArI K H c w:=by
  cases h with
  | cons h1 h2=>obtain ⟨v,w,rfl,q,q'⟩:=ars2 h2; exact ⟨_,v,w,rfl,h1,q,q'⟩
theorem ars4 {K:PySem.W.Frag} {H:Hp} {a b c d:Ar} {vs:List V} (h:Ars K H [a,b,c,d] vs):∃ u v w x,vs = [u,v,w,x]∧ArI K H a u∧ArI K H b v∧ArI K H c w∧ArI K H d x:=by
  cases h with
  | cons h1 h2=>obtain ⟨v,w,x,rfl,q,q',q''⟩:=ars3 h2; exact ⟨_,v,w,x,rfl,h1,q,q',q''⟩
def spA (K:PySem.W.Frag) (R:List Ar→D→Prop):Sp:=fun vs H Q _=>∃ as d,Ars K H as vs∧R as d∧∀ v H',Same H H'→Dat K H' d v→Q v H'
def RL (K:PySem.W.Frag) (t:TE) (σ:St) (H:Hp) (ds:List D):Prop:=∀ H1,Same H H1→∀ Q:VK,(∀ v H',Same H1 H'→LD K H' ds v→Q v H')→t σ H1 Q
def RB (K:PySem.W.Frag) (t:TA) (σ:St) (H:Hp) (as:List Ar):Prop:=∀ H1,Same H H1→∀ Q:List V→Hp→Prop,(∀ vs H',Same H1 H'→Ars K H' as vs→Q vs H')→t σ H1 Q
section
variable {K:PySem.W.Frag} {σ:St} {H H':Hp} {d d':D} {ds es:List D} {t u ta tb te tl:TE} {tt uu:TT} {tA:TA} {i j:Int} {b c:Bool} {mk:St→St} {jj:Nat} {ar:List Ar}
theorem RL.mono (h:RL K t σ H es) (e:Same H H'):RL K t σ H' es:=fun H1 s Q q=>h H1 (e.trans s) Q q
theorem RL.use {Q:VK} (h:RL K t σ H es) (q:∀ v H',Same H H'→LD K H' es v→Q v H'):t σ H Q:=h H (Same.refl H) Q q
theorem RB.use {Q:List V→Hp→Prop} (h:RB K tA σ H ar) (q:∀ vs H',Same H H'→Ars K H' ar vs→Q vs H'):tA σ H Q:=h H (Same.refl H) Q q
theorem rb_nil:RB K tNil σ H []:=fun H1 _ Q q=>q _ _ (Same.refl _) .nil
theorem rb_d (h:RE K t σ H d) (r:RB K tA σ H ar):RB K (tCons t tA) σ H (.d d :: ar):=fun H1 s Q q =>
  h H1 s _ fun v H2 s2 q2=>r H2 (s.trans s2) _ fun vs H3 s3 q3=>q _ _ (s2.trans s3) (.cons (s3.ari (a:=.d d) q2) q3)
theorem rb_l (h:RL K t σ H ds) (r:RB K tA σ H ar):RB K (tCons t tA) σ H (.l ds :: ar):=fun H1 s Q q =>
  h H1 s _ fun v H2 s2 q2=>r H2 (s.trans s2) _ fun vs H3 s3 q3=>q _ _ (s2.trans s3) (.cons (s3.ari (a:=.l ds) q2) q3)
theorem rl_var {k:Nat} {v:V} (h:LD K H ds v) (e:σ[k]? = some (some v):=by rfl):RL K (tVar k) σ H ds:=fun H1 s Q q=>⟨v,e,q _ _ (Same.refl _) (s.ld h)⟩
theorem rl_of (h:RC K t σ H es):RL K t σ H es:=fun H1 s Q q=>h H1 s _ fun l ys H' _ s' hy hd=>q _ _ s' (LD.of hy hd)
theorem re_callA {R:List Ar→D→Prop} {E:XK} (h:RB K tA σ H ar) (e:R ar d):RE K (tCall (spA K R) [] E tA) σ H d:=fun H1 s Q q =>
  h H1 s _ fun vs H2 s2 q2=>⟨ar,d,by rw [List.append_nil]; exact q2,e,fun v H3 s3 q3=>q _ _ (s2.trans s3) q3⟩
theorem re_ixL {k:Nat} (h1:RL K ta σ H ds) (h2:RE K tb σ H (.int k)) (e:ds[k]? = some d):RE K (tOp (rIxL K) ta tb) σ H d:=fun H1 s Q q =>
  h1 H1 s _ fun v H2 s2 q2=>h2 H2 (s.trans s2) _ fun w H3 s3 q3=>by
    obtain ⟨a,vs,ev,hq,hd⟩:=s3.ld q2
    obtain ⟨x,ex,hx⟩:=hd.get e
    exact ⟨a,vs,k,x,ev,q3.intE,hq.sqL,atI_nat ex,q _ _ (s2.trans s3) hx⟩
theorem re_lenL (h:RL K t σ H es):RE K (tCB (fun xs H Q=>∃ p ys,xs = [.ref p]∧(SqL K H p ys∨SqT K H p ys)∧Q (.int ys.length) H) (tCons t tNil)) σ H (.int es.length):=fun H1 s Q q =>
  r_cb1 ((h.mono s).use fun v H' s' hd=>by
    obtain ⟨l,ys,rfl,hy,hd⟩:=hd
    exact ⟨l,ys,rfl,.inl hy.sqL,by rw [← hd.length]; exact q _ _ s' (Dat.intI _)⟩)
theorem datIs:∀ {ns:List Int} {vs:List V},Dats K H (ns.map D.int) vs→vs = ns.map V.int
  | [],vs,h=>by rw [Dats.nilE h]; rfl
  | n :: ns,vs,h=>by
    obtain ⟨v,r,e,h1,h2⟩:=h.consE
    rw [e,h1.intE,datIs h2]
    rfl
theorem rc_listL {cs:List D} (h:RL K tl σ H cs) (hc:cs.length ≤ 1000) (es:List D) (hl:es.length = cs.length) (h0:(mk σ).set jj none = mk σ)
    (turn:∀ H1 (i:Nat) c v d,Same H H1→cs[i]? = some c→es[i]? = some d→Dat K H1 c v→RE K te ((mk σ).set jj (some v)) H1 d):RC K (tComp (iList K tl) mk (gName jj) tTrue te) σ H es:=fun H1 s Q q=>by
  refine (h.mono s).use fun v4 H4 s4 q4=>?_
  obtain ⟨l4,ys4,rfl,hy4,hd4⟩:=q4
  have ll:=hd4.length
  refine ⟨l4,rfl,⟨ys4,hy4.sqL⟩,?_⟩
  refine comp_pure (K:=K) (Q:=Q) (n:=ys4.length) (item:=fun i=>ys4.getD i .non) (fun i H' s hi=>go_lst i H' (s.seq hy4.sqL) hi) (fun H' s=>⟨ys4,s.seq hy4.sqL,Nat.le_refl _⟩) h0 es (by omega) (by omega) (fun i d hi=>?_) (fun l ys H5 hl5 s5=>q l ys H5 (s4.free hl5) (s4.trans s5))
  have hi':i < es.length:=(List.getElem?_eq_some_iff.mp hi).1
  have hic:i < cs.length:=by omega
  obtain ⟨vz,ez,hz⟩:=hd4.get (List.getElem?_eq_getElem hic)
  have q:=turn H4 i cs[i] vz d (s.trans s4) (List.getElem?_eq_getElem hic) hi hz
  rw [List.getD_eq_getElem?_getD,ez]
  exact q
theorem rc_listofL (h:RL K t σ H es):RC K (tCB (fun xs H Q=>∃ p ys,xs = [.ref p]∧(SqL K H p ys∨SqT K H p ys)∧∀ l,H l = none→Q (.ref l) (upd H l (.lst ys))) (tCons t tNil)) σ H es:=fun H1 s Q q =>
  r_cb1 ((h.mono s).use fun v H' s' hd=>by
    obtain ⟨p,ys,rfl,hy,hd⟩:=hd
    exact ⟨p,ys,rfl,.inl hy.sqL,fun l hl=>q l ys _ (s'.free hl) (s'.trans (same_new hl _)) upd_same ((same_new hl _).dats hd)⟩)
end
section
variable {K:PySem.W.Frag} {σ:St} {H H':Hp} {d d':D} {ds es:List D} {t u ta tb te tl:TE}
end
section
variable {X:Cx}
end
section
variable {K:PySem.W.Frag} {σ:St} {H:Hp} {te:TE}
end
end L2
end
section
namespace L2
open PySem PySem.Spec PyProof.Rows
section
variable {P:Program} {w:World} {H H':Hp} {h h1 h2:Heap} {a b T:Addr} {o:HO} {fs:List Addr}
theorem ObjOk.has (x:ObjOk P w H h a o):∃ u,h.get? a = some u:=by
  cases o with
  | lst xs=>obtain ⟨_,_,_,_,e⟩:=x; exact ⟨_,e⟩
  | tup xs=>obtain ⟨_,_,_,ob,e,_⟩:=x; exact ⟨ob,e⟩
  | dK kvs=>obtain ⟨_,_,_,_,o,_,_,e,_⟩:=x; exact ⟨_,e⟩
  | dT kvs=>obtain ⟨_,_,_,_,o,_,_,e,_⟩:=x; exact ⟨_,e⟩
  | set S n=>obtain ⟨o,_,_,_,e,_⟩:=x; exact ⟨_,e⟩
  | ins C dx fs=>obtain ⟨_,_,_,e,_⟩:=x; exact ⟨_,e⟩
  | own y=>exact x
  | xd fs=>obtain ⟨_,⟨_,_,_,e,_⟩,_⟩:=x; exact ⟨_,e⟩
  | rng lo hi=>obtain ⟨_,_,_,e⟩:=x; exact ⟨_,e⟩
  | frz ob u=>obtain ⟨e,_⟩:=x; exact ⟨_,e⟩
  | tbl ps=>exact ⟨_,(show h.get? a = some _ from x)⟩
  | met f y=>exact ⟨_,(show h.get? a = some _ from x)⟩
  | ext φ=>obtain ⟨_,e,_⟩:=x; exact e
theorem HOk.empty (x:HOk P w H h) (e:h.get? a = none):H a = none:=by
  cases q:H a with
  | none=>rfl
  | some u =>
    obtain ⟨v,r⟩:=(x a u q).has
    rw [e] at r; cases r
def Trc (h:Heap) (e T:Addr) (cls a0:Value):Prop :=
  ∃ oe vs oT ts,h.get? e = some oe∧(oe.cls = cls∧vs[0]? = some a0)∧oe.data = .fields vs∧vs[1]? = some (.ref T)∧T ≠ e∧h.get? T = some oT∧oT.data = .fields ts∧ts[3]? = some .none
def CX1 (P:Program) (w:World):CXT:=fun outer H s E e s' =>
  ∃ a T cls a0 H',e = .ref a∧s'.os = s.os∧AllBare s'.gens∧Un (frs outer) [] H H' s.heap s'.heap∧HOk P w H' s'.heap ∧
    (s.heap.get? a = none∧s.heap.get? T = none∧H' a = none∧H' T = none)∧Trc s'.heap a T cls a0∧E cls none H'
theorem un_on (U:Un fs [] H H' h h1) (ha:h.get? a = none) (hT:h.get? T = none) (k:∀ b o,h1.get? b = some o→b ≠ a→b ≠ T→b ∉ fs→h2.get? b = some o)
    (sl:∀ b o,h1.get? b = some o→b ∈ fs→∃ sl,h2.get? b = some { o with slots:=sl }):Un fs [] H H' h h2:=by
  have na:∀ b o,h.get? b = some o→b ≠ a:=fun b o q z=>by rw [z,ha] at q; cases q
  have nT:∀ b o,h.get? b = some o→b ≠ T:=fun b o q z=>by rw [z,hT] at q; cases q
  refine ⟨fun b o q n hb hx=>k b o (U.keep b o q n hb hx) (na b o q) (nT b o q) hb,fun b o q n hb hx=>?_,U.free,fun b o q hx=>?_,U.tups,U.frzs,U.tbls⟩
  · obtain ⟨s1,e1⟩:=U.slot b o q n hb hx
    obtain ⟨s2,e2⟩:=sl b _ e1 hb
    exact ⟨s2,e2⟩
  · obtain ⟨o1,e1⟩:=U.there b o q hx
    by_cases hb:b ∈ fs
    · obtain ⟨s2,e2⟩:=sl b _ e1 hb
      exact ⟨_,e2⟩
    · exact ⟨o1,k b o1 e1 (na b o q) (nT b o q) hb⟩
theorem hok_on (O:HOk P w H h1) (ha:H a = none) (hT:H T = none) (hf:∀ b ∈ fs,H b = none) (k:∀ b o,h1.get? b = some o→b ≠ a→b ≠ T→b ∉ fs→h2.get? b = some o):HOk P w H h2:=fun c u e =>
  (O c u e).stay (fun b v hb q=>by
    have hn:H b ≠ none:=by
      rcases hb with z | z
      · rw [z,e]; exact fun y=>nomatch y
      · rw [z]; exact fun y=>nomatch y
    exact k b v q (fun z=>hn (by rw [z]; exact ha)) (fun z=>hn (by rw [z]; exact hT)) fun z=>hn (hf b z)) (fun _ q=>q) fun _ _ q=>q
theorem fly_of {base:Heap} {l:List Env} {cls a0:Value} (F:h.FunFrames base l) (t:Trc h a T cls a0):Heap.FlyingW (PySem.W.hideAll h (a :: T :: frs l)) l a cls a0 h:=by
  obtain ⟨oe,vs,oT,ts,he,hc,hd,hv,hne,hT,hdT,h3⟩:=t
  exact ⟨fun b o q=>PySem.W.of_hideAll _ q,PySem.W.hideAll_none _ (.head _),PySem.W.funFrames_hide F fun env hm b hb=>.tail _ (.tail _ (List.mem_filterMap.mpr ⟨env,hm,hb⟩)),
    oe,vs,T,oT,ts,he,hc,hd,hv,PySem.W.hideAll_none _ (.tail _ (.head _)),hne,hT,hdT,h3⟩
theorem fly_back {base:Heap} {l l':List Env} {cls a0:Value} (F:h.FunFrames base l) (x:Heap.FlyingW (PySem.W.hideAll h (a :: T :: frs l)) l' a cls a0 h2) (U:h.UpToSlots h2) :
    ∃ T2,Trc h2 a T2 cls a0∧(T2 = T∨h.get? T2 = none)∧(∀ b o,h.get? b = some o→b ≠ a→b ≠ T→b ∉ frs l→h2.get? b = some o)∧(∀ b o,h.get? b = some o→b ∈ frs l→∃ sl,h2.get? b = some { o with slots:=sl }):=by
  obtain ⟨f1,f2,f3,oe,vs,T2,oT,ts,he,hc,hd,hv,hn,hne,hT,hdT,h3⟩:=x
  have sl:∀ b o,h.get? b = some o→b ∈ frs l→∃ sl,h2.get? b = some { o with slots:=sl }:=fun b o q hb=>by
    obtain ⟨_,o',ho',hnf⟩:=F.mem hb
    rw [q] at ho'; cases ho'
    exact U b o q hnf
  refine ⟨T2,⟨oe,vs,oT,ts,he,hc,hd,hv,hne,hT,hdT,h3⟩,?_,fun b o q n1 n2 n3=>f1 b o (PySem.W.hideAll_get _ q fun z=>?_),sl⟩
  · cases q:h.get? T2 with
    | none=>exact .inr rfl
    | some o =>
      refine .inl ?_
      by_cases m:T2 ∈ a :: T :: frs l
      · rcases List.mem_cons.mp m with z | m
        · exact absurd z hne
        · rcases List.mem_cons.mp m with z | m
          · exact z
          · obtain ⟨_,o',ho',hnf⟩:=F.mem m
            rw [q] at ho'; cases ho'
            obtain ⟨s2,e2⟩:=sl T2 o q m
            rw [hT] at e2; cases e2
            exact absurd hdT (hnf ts)
      · rw [PySem.W.hideAll_get _ q m] at hn; cases hn
  · rcases List.mem_cons.mp z with z | z
    · exact n1 z
    · rcases List.mem_cons.mp z with z | z
      · exact n2 z
      · exact n3 z
end
section
variable {X:Cx} {pins:List (Addr × Obj)} {σ:St} {H:Hp} {s s':Shared} {E:XK} {e:Value}
theorem CX1.behind (I:Inv X pins σ H s) (x:CX1 X.prog X.w X.stack H s E e s'):∃ a T cls a0 H',e = .ref a∧E cls none H'∧s.heap.get? a = none∧H' a = none∧Inv X pins σ H' s' ∧
    Heap.FlyingW (PySem.W.hideAll s'.heap (a :: T :: frs X.stack)) X.stack a cls a0 s'.heap ∧
    ∀ h2 l',Heap.FlyingW (PySem.W.hideAll s'.heap (a :: T :: frs X.stack)) l' a cls a0 h2→s'.heap.UpToSlots h2 →
      ∃ T2,Inv X pins σ H' { s' with heap:=h2 }∧Trc h2 a T2 cls a0∧s.heap.get? T2 = none∧H' T2 = none∧Un (frs X.stack) [] H H' s.heap h2:=by
  obtain ⟨a,T,cls,a0,H',he,os,bare,un,hok,⟨sa,sT,na,nT⟩,tr,q⟩:=x
  have J:Inv X pins σ H' s':=I.call' (ch:=[]) os un hok bare (fun b z=>absurd z (by simp))
  refine ⟨a,T,cls,a0,H',he,q,sa,na,J,fly_of J.stack tr,fun h2 l' fl up=>?_⟩
  obtain ⟨T2,t2,hT2,k2,sl2⟩:=fly_back J.stack fl up
  have nT2:H' T2 = none:=by
    rcases hT2 with z | z
    · rw [z]; exact nT
    · exact hok.empty z
  have sT2:s.heap.get? T2 = none:=by
    rcases hT2 with z | z
    · rw [z]; exact sT
    · cases q:s.heap.get? T2 with
      | none=>rfl
      | some o =>
        obtain ⟨o',r⟩:=un.there T2 o q (by simp)
        rw [z] at r; cases r
  exact ⟨T2,I.call' (s':={ s' with heap:=h2 }) (ch:=[]) os (un_on un sa sT k2 sl2) (hok_on hok na nT J.stkFree k2) bare (fun b z=>absurd z (by simp)),t2,sT2,nT2,un_on un sa sT k2 sl2⟩
end
def Fre (h:Heap) (e:Addr) (cls a0:Value):Prop:=∃ oe vs,h.get? e = some oe∧(oe.cls = cls∧vs[0]? = some a0)∧oe.data = .fields vs∧vs[1]? = some .none
def excAt (K:PySem.W.Frag) (C:Addr) (bmB:List Value) (newId:String) (ini:Option Value):Bool:=match K.lookup C with
  | some ⟨.type "type",_,.cls cd,slots⟩=>(match cd.mro,slots.toList with
    | .ref C' :: bm,[_,_,_,_,some (.builtin n),_]=>C' == C && n == newId && !cd.hasDel && PySem.W.tailIn K bmB bm && PySem.W.nsOkIn K cd.ns && PySem.W.nsIn K cd.ns "__init__" == some ini
    | _,_=>false)
  | _=>false
theorem ns_some_of {K:PySem.W.Frag} {h:Heap} {N:Addr} {mg:Str→Option Value} {n:Str} {v:Value} (X:K.In h) (G:h.Ns N mg) (e:PySem.W.nsIn K N n = some (some v)):mg n = some v:=by
  obtain ⟨o,es,ep,ho,hd,_,hf⟩:=G
  unfold PySem.W.nsIn at e
  split at e
  · rename_i c d es' n' sl q
    have:=X _ _ q
    rw [ho] at this
    cases this
    cases hd
    split at e
    · rename_i en he
      rw [← hf]
      unfold nsFind findBy
      rw [← Array.find?_toList,he]
      cases e
      rfl
    · split at e <;> cases e
  · cases e
theorem exc_of {K:PySem.W.Frag} {h:Heap} {C:Addr} {bmB:List Value} {newId:String} {ini:Option Value} (X:K.In h) (q:excAt K C bmB newId ini = true) :
    ∃ bm N nm qn bs hd sn sub ab col dd k0 k1 k2 k3 k5 mN,h.get? C = some (excClassObj nm qn C N bs bm hd sn sub ab col dd k0 k1 k2 k3 k5 newId)∧h.Ns N mN∧mN "__init__" = ini∧OwnTail h bmB bm:=by
  unfold excAt at q
  split at q
  · rename_i dd cd sl ho
    split at q
    · rename_i C' bm k0 k1 k2 k3 n k5 hm hs
      rw [Bool.and_eq_true,Bool.and_eq_true,Bool.and_eq_true,Bool.and_eq_true,Bool.and_eq_true] at q
      obtain ⟨⟨⟨⟨⟨e1,e2⟩,hdel⟩,ht⟩,hok⟩,hni⟩:=q
      obtain rfl:=beq_iff_eq.mp e1
      obtain rfl:=beq_iff_eq.mp e2
      have hni:=beq_iff_eq.mp hni
      obtain ⟨cnm,cbs,mro,ns,cqn,chd,csn,csub,cab,ccol,del⟩:=cd
      have hsl:sl.toList.toArray = [k0,k1,k2,k3,some (.builtin n),k5].toArray:=by rw [hs]
      rw [Array.toArray_toList] at hsl
      subst hsl
      have hm:mro = .ref C' :: bm:=hm
      have hde:del = false:=by
        have z:(!del) = true:=hdel
        cases del with
        | true=>cases z
        | false=>rfl
      clear hdel
      subst hm hde
      have hN:h.Ns ns (h.nsMap ns):=.of_isNs (PySem.W.isNs_of_in X hok)
      refine ⟨bm,ns,cnm,cqn,cbs,chd,csn,csub,cab,ccol,dd,k0,k1,k2,k3,k5,_,X _ _ ho,hN,?_,PySem.W.tail_of_in X ht⟩
      cases ini with
      | none=>exact PySem.W.ns_none_of X hN hni
      | some v=>exact ns_some_of X hN hni
    · cases q
  · cases q
def PassesS (CX:CXT) (X:Cx) (E:St→XK):Prop:=∀ (pins:List (Addr × Obj)) (σ:St) (H:Hp) (s:Shared) (e:Value) (s':Shared),Inv X pins σ H s→CX X.stack H s (E σ) e s'→X.xe e s'
section
variable {X:Cx} {CX:CXT} {k:Nat} {f C:Addr} {fd:FuncData} {ps:List Str} {sp:Sp} {dvs:List V} {ds:List Value} {E:St→XK} {x m:Str} {p pos apos:Pos} {e o:Expr} {es:List Expr} {ta:TE} {t:TA}
theorem run_fnS {pins:List (Addr × Obj)} {σ:St} {H:Hp} {s:Shared} {Q:VK} {us:List Value} {vs:List V} (F:FnOk X.prog X.w X.K X.mg X.base CX k f fd ps sp) (hr:Room k X.A) (hb:Binds X.K fd ps ds) (hd:Vals dvs ds) (hx:PassesS CX X E)
    (I:Inv X pins σ H s) (r:Vals vs us) (h:sp (vs ++ dvs) H Q (E σ)):wpAny (model X.prog X.w) X.A (call (.ref f) us) (EP X pins σ Q) X.xe s:=by
  have r2:Vals (vs ++ dvs) (us ++ ds):=r.append hd
  have hl:(us ++ ds).length = ps.length:=by rw [← r2.length]; exact F.len _ _ _ _ h
  refine wpAny_call (codeAny_mono (F.run X.A X.stack s H ⟨us,[]⟩ (us ++ ds) (vs ++ dvs) Q (E σ) hr I.env0 (hb s us I.kIn hl) r2 h) fun r s' hq=>?_)
  cases r with
  | error e=>exact hx pins σ H s e s' I hq
  | ok fl =>
    cases fl with
    | ret u=>exact I.after hq
    | next=>exact False.elim hq
    | brk=>exact False.elim hq
    | cont=>exact False.elim hq
theorem pe_callS (F:FnOk X.prog X.w X.K X.mg X.base CX k f fd ps sp) (hr:Room k X.A) (hg:Gl X x) (hm:X.mg x = some (.ref f)) (hk:PySem.W.keepIn X.K (.ref f) = true) (hb:Binds X.K fd ps ds) (hd:Vals dvs ds) (hx:PassesS CX X E)
    (ha:PA X (e :: es) t) (hdb:(x == ("__debug__":Str)) = false:=by decide) (he:starEach (e :: es) X.env = (false,eval e X.env) :: starEach es X.env:=by rfl) (hpl:(backTo pos (starEach es X.env)).any (·.1) = false:=by rfl) :
    PE X (.Call (.Name x p) (e :: es) [] pos) (fun σ=>tCall sp dvs (E σ) t σ):=by
  intro pins s σ H Q I h
  refine wpAny_Call_Name_kw (ld_glob I hg hm ?_ hdb)
  refine PySem.W.callWith_K (h₀:=X.base) I.ok.mod.kin hk (thn (ha pos pins s σ H _ I h) fun us s1 ⟨vs,H1,I1,r,q⟩=>⟨I1.kIn,?_⟩) he hpl
  exact run_fnS F hr hb hd hx I1 r q
end
def Cx.hand (X:Cx) (e:Value):Cx:={ X with A:=X.A.mark (some e),calm:=false,xe:=fun _ _=>False }
theorem Cx.Ok.hand {X:Cx} {e:Value} (o:X.Ok):(X.hand e).Ok :=
  ⟨o.mod,o.kind,o.glob,o.blt,o.above,o.inj,o.has,o.cab,(fun z=>nomatch z),o.frames,o.stk,o.exf,o.bs,o.bsz,o.noex,o.exfs,o.funs,o.frf⟩
section
variable {X:Cx} {pins pins':List (Addr × Obj)} {σ:St} {H:Hp} {s:Shared} {xe:Value→Shared→Prop} {e:Value}
theorem Inv.hand (I:Inv X pins σ H s):Inv (X.hand e) pins σ H s:=⟨I.ok.hand,I.os,I.bare,I.base,I.loc,I.cell,I.free,I.freeC,I.pin,I.hok,I.len⟩
theorem Inv.unhand (o:X.Ok) (I:Inv (X.hand e) pins σ H s):Inv X pins σ H s:=⟨o,I.os,I.bare,I.base,I.loc,I.cell,I.free,I.freeC,I.pin,I.hok,I.len⟩
theorem Inv.inTry (I:Inv X pins σ H s):Inv { X with pn:=X.pn ++ pins,xe:=xe } [] σ H s :=
  ⟨⟨I.ok.mod,I.ok.kind,I.ok.glob,I.ok.blt,I.ok.above,I.ok.inj,I.ok.has,I.ok.cab,I.ok.hd,I.ok.frames,I.ok.stk,I.ok.exf,I.ok.bs,I.ok.bsz,I.ok.noex,I.ok.exfs,I.ok.funs,I.ok.frf⟩,I.os,I.bare,I.base,I.loc,I.cell,I.free,I.freeC,
    fun p hp=>I.pin p (by simpa using hp),I.hok,I.len⟩
theorem Inv.outTry (o:X.Ok) (I:Inv { X with pn:=X.pn ++ pins,xe:=xe } pins' σ H s):Inv X pins σ H s :=
  ⟨o,I.os,I.bare,I.base,I.loc,I.cell,I.free,I.freeC,fun p hp=>I.pin p (List.mem_append_left _ hp),I.hok,I.len⟩
end
end L2
end
section
namespace L2
open PySem PySem.Spec PySem.Calls PyProof.Rows PySem.W PySem.Builtin PySem.Builtin.ObjectAttr PySem.Builtin.Getset_descriptor
section
variable {prog:Program} {w:World} {A:Around} {E:Value→Shared→Prop} {s:Shared} {K:Frag} {x D:Addr} {ox:Obj} {od:Option Obj} {name:Str}
theorem bga_bind (o:Value):bindSpecial (.builtin "BaseException.__getattribute__") o = pure (.builtin "BaseException.__getattribute__",[o]):=PySem.F.attr_ValueError.ga.bind o
structure ExcK (K:Frag) (D:Addr):Prop where
  ga:findIn K (.ref D) "__getattribute__" = some (some (.builtin "BaseException.__getattribute__"))
  gt:findIn K (.ref D) "__getattr__" = some none
  dct:hasDictIn K D = true
  a:findIn K (.ref D) "__class__" = some (some (.builtin "object.__class__"))
  n:specialIn K (.builtin "object.__class__") "__get__" = some (some (.builtin "getset_descriptor.__get__"))
  tk:takesIn K (.builtin "object.__class__") = some true
  m:mroIn K D (.type "object") = some true
  b:mroIn K D (.type "BaseException") = some true
theorem kex_get {R:Result→Shared→Prop} {tp:Value} (X:K.In s.heap) (L0:Looks (model prog w) s.heap (typeOf (.ref x)) (.ref D)) (hm:mroIn K D (.type "object") = some true)
    (h:R (.ok (.ret (.ref D))) s):codeAny (model prog w) A (.call (.builtin "getset_descriptor.__get__") ⟨[.builtin "object.__class__",.ref x,tp],[]⟩) R s:=by
  obtain ⟨hh,g,dr,t,os⟩:=s
  have L1:=looks_mroIn (M:=model prog w) X hm
  refine codeAny_call_builtin KF.slot_gs.plain KF.entry_gs ?_
  refine KF.slot_gs.check _ _ _ _ _ _ _ _ KF.type_class (KF.args_gs _ _ _) ?_
  unfold «getset_descriptor.__get__»
  unfold descrGet
  rw [dga_obj]
  refine wpAny_bind (wpAny_pure ?_)
  unfold descrGetter descrCheckInstance
  unfold descrNameAndClass isInstance
  simp only [KF.owner_class]
  repeat lk
  refine ⟨Code.quiet_builtin _ (by decide +kernel),?_⟩
  refine codeAny_builtin KF.entry_class ?_
  unfold Builtin.«object.__class__» shownTypeOf
  repeat lk
  exact h
theorem kex_find {M:Model} {h:Heap} (X:K.In h) (kx:ExcK K D):Looks M h (Builtin.ObjectAttr.find (.ref x) (.ref D) "__class__") (.bind (.builtin "getset_descriptor.__get__") (.builtin "object.__class__")):=by
  have L1:=looks_findIn (M:=M) X kx.a
  have L2:Looks M h (Builtin.ObjectAttr.getOf (some (.builtin "object.__class__"))) (some (.builtin "getset_descriptor.__get__")):=looks_specialIn X kx.n
  have L3:=looks_takesIn (M:=M) X kx.tk
  unfold Builtin.ObjectAttr.find
  refine L1.andThen (L2.andThen ?_)
  unfold Builtin.ObjectAttr.dataDescriptor?
  refine Looks.andThen (a:=some (.builtin "getset_descriptor.__get__",.builtin "object.__class__")) (L3.andThen .now) ?_
  exact Looks.tag .now
theorem kex_class {Q:Option Value→Shared→Prop} (X:K.In s.heap) (L0:Looks (model prog w) s.heap (typeOf (.ref x)) (.ref D)) (kx:ExcK K D)
    (h:Q (some (.ref D)) { s with toks:=s.toks + 1 }):wpAny (model prog w) A (getAttr? (.ref x) "__class__") Q E s:=by
  obtain ⟨hh,g,d,t,os⟩:=s
  have L1:=looks_findIn (M:=model prog w) X kx.ga
  have L2:=looks_findIn (M:=model prog w) X kx.gt
  have L3:=kex_find (M:=model prog w) (x:=x) X kx
  have L4:Looks (model prog w) hh (isInstance (.ref x) (.type "BaseException")) true:=L0.andThen (looks_mroIn X kx.b)
  unfold getAttr? getAttrBy? getAttrBy
  refine wpAny_bind (wpAny_mkText (wpAny_bind (wpAny_attempt (wpAny_holding ?_))))
  refine wpAny_bind (L0.at ?_)
  refine wpAny_bind (L1.at ?_)
  show wpAny _ _ (getAttrByItsOwn _ _ _ _ _ _) _ _ _
  unfold getAttrByItsOwn hookBefore
  refine wpAny_bind ?_
  show wpAny _ _ (typeLookup (.ref D) "__getattr__") _ _ _
  refine L2.at (wpAny_bind (wpAny_attempt (wpAny_holding ?_)))
  show wpAny _ _ (boundAndCalled _ _ _) _ _ _
  unfold boundAndCalled
  rw [bga_bind]
  refine wpAny_bind (wpAny_pure (wpAny_call ?_))
  refine codeAny_call_builtin PySem.F.attr_ValueError.ga.plain PySem.F.entry_bexc_ga (@check_slot (model prog w) _ _ _ "BaseException.__getattribute__" "BaseException" "__getattribute__" (.ref x) _ [] _ (by decide +kernel) (by decide +kernel) L4 (PySem.F.args_bexc_ga _ _) ?_)
  refine wpAny_bind (wpAny_pure (wpAny_bind (wpAny_pure (wpAny_bind (L0.at (wpAny_bind (L3.at ?_)))))))
  show wpAny _ _ (holding [Value.builtin "object.__class__"] (call (.builtin "getset_descriptor.__get__") [.builtin "object.__class__",.ref x,.ref D]) >>= ret) _ _ _
  refine wpAny_bind (wpAny_holding (wpAny_call (kex_get (s:=⟨hh,g,d,t + 1,os⟩) X L0 kx.m ?_)))
  refine wpAny_pure ?_
  refine handed_on rfl ?_
  exact wpAny_pure h
end
def ExcO (x:Addr) (D:Addr):HO:=.ext fun h=>∃ oe,h.get? x = some oe∧oe.cls = .ref D
theorem exc_ty {M:Model} {h:Heap} {x D:Addr} (q:∃ oe,h.get? x = some oe∧oe.cls = .ref D):Looks M h (typeOf (.ref x)) (.ref D):=by
  obtain ⟨oe,he,hc⟩:=q
  rw [← hc]
  exact (Looks.ld he).andThen .now
theorem kitx_exc {K:Frag} {x D:Addr} (kx:ExcK K D):KitX K (.ref x) (.ref D) (fun h=>∃ oe,h.get? x = some oe∧oe.cls = .ref D) where
  ty:=fun _ _ _ q=>exc_ty q
  it:=fun _ _ X _=>by
    obtain ⟨cdD,hcD,_⟩:=any_some kx.dct
    unfold clsIn at hcD
    split at hcD
    · rename_i c' d' cd' sl' ho
      intro A' Q' E' s' k q
      unfold isType loadHead
      have ho':=k _ _ (X _ _ ho)
      exact wpAny_bind (wpAny_loadPart ho' (wpAny_pure q))
    · cases hcD
  ne:=fun h tp dd its n sl X htp=>by
    obtain ⟨cdD,hcD,_⟩:=any_some kx.dct
    refine Bool.eq_false_iff.mpr fun q=>?_
    cases beq_iff_eq.mp q
    unfold clsIn at hcD
    split at hcD
    · rename_i c' d' cd' sl' ho
      have z:=(X _ _ ho).symm.trans htp
      cases z
    · cases hcD
  ca:=fun X q k=>kex_class X (exc_ty q) kx k
theorem isinst_exc {X:Cx} {pins:List (Addr × Obj)} {σ:St} {H:Hp} {s:Shared} {A:Around} {E:Value→Shared→Prop} {Q:Value→Shared→Prop} {c:Value} {b:Bool} {x D:Addr} (I:Inv X pins σ H s) (hx:H x = some (ExcO x D)) (kx:ExcK X.K D)
    (e:kitOne X.K (.ref D) c = some b) (h:∀ tk,Q (.bool b) { s with toks:=tk }):wpAny (model X.prog X.w) A (call (.builtin "isinstance") [.ref x,c]) Q E s:=by
  obtain ⟨q,_,_⟩:=(show ObjOk X.prog X.w H s.heap x (ExcO x D) from I.hok x _ hx)
  exact kia_one (kitx_exc kx) I.kIn q e (fun z=>nomatch z) h
section
variable {X:Cx} {pins:List (Addr × Obj)} {σ:St} {H H':Hp} {s s2:Shared} {a:Addr} {o:HO}
theorem HOk.track {P:Program} {w:World} {h:Heap} (hok:HOk P w H h) (na:H a = none) (new:ObjOk P w (upd H a o) h a o):HOk P w (upd H a o) h:=fun b u e=>by
  by_cases hb:b = a
  · subst hb
    rw [upd_same] at e; cases e
    exact new
  · rw [upd_ne hb] at e
    exact (hok b u e).stay (fun _ _ _ q=>q) (fun c q=>by rw [upd_ne (ne_of_none q na)]; exact q) fun c xs q=>by rw [upd_ne (ne_of_none q na)]; exact q
theorem Inv.track (I:Inv X pins σ H s) (J:Inv X pins σ H' s2) (un:Un (frs X.stack) [] H H' s.heap s2.heap) (sa:s.heap.get? a = none) (na:H' a = none) (new:ObjOk X.prog X.w (upd H' a o) s2.heap a o):Inv X pins σ (upd H' a o) s2:=by
  have nb:∀ b u,s.heap.get? b = some u→b ≠ a:=fun b u q z=>by rw [z,sa] at q; cases q
  refine I.call' (ch:=[]) (J.os.trans I.os.symm) ⟨un.keep,un.slot,fun b u q n hx=>by rw [upd_ne (nb b u q)]; exact un.free b u q n hx,un.there,fun b xs q=>?_,fun b u xs q=>?_,fun b ps q=>?_⟩ (J.hok.track na new) J.bare (fun b z=>absurd z (by simp))
  · have z:=un.tups b xs q
    rw [upd_ne (ne_of_none z na)]; exact z
  · have z:=un.frzs b u xs q
    rw [upd_ne (ne_of_none z na)]; exact z
  · obtain ⟨m,z⟩:=un.tbls b ps q
    exact ⟨m,by rw [upd_ne (ne_of_none z na)]; exact z⟩
theorem Inv.gone {M:Model} {A:Around} {E:Value→Shared→Prop} {i:Nat} {n:Str} {pos:Pos} {Q:Unit→Shared→Prop} (I:Inv X pins σ H s) (hN:X.N.Nodup) (hi:X.N[i]? = some n) (hl:X.env.kindOf n = some .local)
    (h:∀ s',Inv X pins (σ.set i none) H s'→Q () s'):wpAny M A (do bindName X.env n .none; unbindBehindTheSuite X.env n pos) Q E s:=by
  obtain ⟨m,hn,hlo⟩:=id I.loc
  obtain ⟨oL,_,_,hoL,_⟩:=id hn
  have cne:=I.cne
  refine wpAny_nameGoes_keeps hl hn (by rw [I.ok.kind]; rfl) fun h' v hn' hs=>h _ ?_
  have hok:HOk X.prog X.w H h':=fun b ob e=>by
    refine (I.hok b ob e).stay (fun c w' hc q=>(hs.2 c ?_).trans q) (fun _ q=>q) fun _ _ q=>q
    rintro rfl
    rcases hc with z | z
    · rw [← z,I.free] at e; cases e
    · rw [I.free] at z; cases z
  refine ⟨I.ok,I.os,I.bare,⟨fun b o e n hb hx=>?_,fun b o e n hb hx=>?_,I.base.free,fun b o e hx=>?_,I.base.tups,I.base.frzs,I.base.tbls⟩,⟨_,hn',fun j y v' e1 e2 e3=>?_⟩,fun y c e=>?_,I.free,I.freeC,fun p hp=>?_,hok,by simpa using I.len⟩
  · exact (hs.2 b (Nat.ne_of_lt (Nat.lt_of_lt_of_le (Heap.lt_size e) I.ok.above))).trans (I.base.keep b o e n hb hx)
  · obtain ⟨sl,e1⟩:=I.base.slot b o e n hb hx
    exact ⟨sl,(hs.2 b (Nat.ne_of_lt (Nat.lt_of_lt_of_le (Heap.lt_size e) I.ok.above))).trans e1⟩
  · obtain ⟨o',e1⟩:=I.base.there b o e hx
    exact ⟨o',(hs.2 b (Nat.ne_of_lt (Nat.lt_of_lt_of_le (Heap.lt_size e) I.ok.above))).trans e1⟩
  · by_cases hj:j = i
    · subst hj
      rw [List.getElem?_set] at e2
      simp at e2
    · rw [List.getElem?_set_ne (Ne.symm hj)] at e2
      obtain ⟨u',r',q⟩:=hlo j y v' e1 e2 e3
      refine ⟨u',r',?_⟩
      rcases q with ⟨k,e⟩ | ⟨k,c,e,z⟩
      · refine .inl ⟨k,?_⟩
        have:y ≠ n:=fun e=>hj (nodup_ix hN e1 (e ▸ hi))
        simp [this,e]
      · exact .inr ⟨k,c,e,z.sameBut hs (cne y c e)⟩
  · obtain ⟨w',z⟩:=I.cell y c e
    exact ⟨w',z.sameBut hs (cne y c e)⟩
  · obtain ⟨e,n,ne,nf,d⟩:=I.pin p hp
    exact ⟨(hs.2 p.1 ne).trans e,n,ne,nf,d⟩
end
def Ends.gone (D:Ends) (i:Nat):Ends:={ nx:=fun σ H=>D.nx (σ.set i none) H,rt:=D.rt,bk:=fun σ H=>D.bk (σ.set i none) H,ct:=fun σ H=>D.ct (σ.set i none) H }
end L2
end
section
namespace L2
open PySem PySem.Spec PySem.Calls PyProof.Rows
section
variable {P:Program} {w:World} {K:PySem.W.Frag} {mg:Str→Option Value} {base:Heap}
structure RoomH (k:Nat) (A:Around):Prop where
  dp:A.depth + 3 * k + 5 < recursionLimit
  un:A.units + 16 * k + 200 < cLine
theorem Room.h {k:Nat} {A:Around} (r:Room k A):RoomH k A:=⟨r.dp,r.un⟩
theorem RoomH.mark {k:Nat} {A:Around} {e:Option Value} (r:RoomH k A):RoomH k (A.mark e):=⟨r.dp,r.un⟩
theorem RoomH.deeper {k:Nat} {A:Around} (r:RoomH (k + 1) A) (env:Env):RoomH k (A.deeper env) :=
  ⟨by have:=r.dp; show A.depth + 1 + 3 * k + 5 < _; omega,by have:=r.un; show A.units + 3 + 16 * k + 200 < _; omega⟩
structure FnOkH (P:Program) (w:World) (K:PySem.W.Frag) (mg:Str→Option Value) (base:Heap) (k:Nat) (f:Addr) (fd:FuncData) (ps:List Str) (sp:Sp):Prop where
  len:∀ vs H Q E,sp vs H Q E→vs.length = ps.length
  run:∀ (A:Around) (outer:List Env) (s:Shared) (H:Hp) (args:Args) (us:List Value) (vs:List V) (Q:VK) (E:XK),RoomH k A→Env0 P w K mg base A outer s H→BindsTo s fd args (ps.zip us)→Vals vs us→sp vs H Q E →
    codeAny (model P w) A (.call (.ref f) args) (CR CX0 outer P w H s Q E) s
def Cx.uncalm (X:Cx):Cx:={ X with calm:=false,xe:=fun _ _=>False }
theorem Fun.okH {x qual:Str} {st:Stmt} {f:Addr} {fd:FuncData} {N ps:List Str} {k:Nat} {sp:Sp} (F:Fun K x qual st f fd) (S:FnScope N ps (defScope st)) (len:∀ vs H Q E,sp vs H Q E→vs.length = ps.length)
    (hbody:∀ (cdv:Value) (A:Around) (outer:List Env) (s:Shared) (H:Hp) (vs:List V) (Q:VK) (E:XK),RoomH k (A.deeper (envOfC qual (defScope st) s.heap.objs.size f cdv))→sp vs H Q E →
      ∃ t,PSs (cxOf CX0 P w K mg base N qual (defScope st) f cdv A outer s H E).uncalm (defBody st) t∧t { nx:=fun _ H'=>Q .non H',rt:=Q } (start N vs) H):FnOkH P w K mg base (k + 1) f fd ps sp:=by
  obtain ⟨oc,od,kV,doc,pm,an,cdv,ct,osl,rfl,lk,hcd⟩:=F.ex
  refine ⟨len,fun A outer s H args us vs Q E hr e0 hb r hsp=>?_⟩
  have hl:=len _ _ _ _ hsp
  have KX:K.In s.heap:=e0.mod.kin.keeps fun b o e=>(e0.bs b o e).1
  have lim:s.heap.NoLimit:=e0.mod.nolimit.keeps fun b o e=>(e0.bs b o e).1
  have hkind:∀ y ∈ ps.zip us,(defScope st).names.lookup y.1 = some .local∨((defScope st).names.lookup y.1 = some .cell∧((cellsFrom (s.heap.objs.size + 1) (defScope st).names []).lookup y.1).isSome = true):=fun ⟨n,v⟩ hy=>by
    rcases S.par n (List.of_mem_zip hy).1 with q | q
    · exact .inl q
    · exact .inr ⟨q,PySem.W.cellsFrom_some _ _ _ (.inl q)⟩
  refine codeAny_call_function (by have:=hr.dp; omega) (KX _ _ lk) rfl S.co S.gen rfl (PySem.W.codeRec_of KX hcd) (hb _ _ _ _ ?_)
  refine wpAny_newFunctionEnv_cells S.kind hkind fun env he s1 x=>?_
  subst he
  refine ⟨lim.keeps x.toInCall.keep,codeAny_func ?_⟩
  obtain ⟨t,ht,hq⟩:=hbody cdv A outer s H vs Q E (hr.deeper _) hsp
  have e1:Env0 P w K mg base { A with handled:=none } outer s H:=⟨e0.frames,e0.mod,e0.bs,e0.bsz,e0.funs,e0.frf,e0.hok,e0.bare⟩
  have I0:Inv (cxOf CX0 P w K mg base N qual (defScope st) f cdv { A with handled:=none } outer s H E) [] (start N vs) H s1:=inv_start S rfl e1 hl r x
  have I:Inv (cxOf CX0 P w K mg base N qual (defScope st) f cdv A outer s H E).uncalm [] (start N vs) H s1 :=
    ⟨⟨I0.ok.mod,I0.ok.kind,I0.ok.glob,I0.ok.blt,I0.ok.above,I0.ok.inj,I0.ok.has,I0.ok.cab,(fun z=>nomatch z),Around.frames_deeper e0.frames,I0.ok.stk,I0.ok.exf,I0.ok.bs,I0.ok.bsz,I0.ok.noex,I0.ok.exfs,I0.ok.funs,I0.ok.frf⟩,
      I0.os,I0.bare,I0.base,I0.loc,I0.cell,I0.free,I0.freeC,I0.pin,I0.hok,I0.len⟩
  refine wpAny_mono (ht [] s1 (start N vs) H _ I hq) (fun fl s' hs=>?_) fun e s' hs=>hs.elim
  have fin:∀ {σ':St} {H':Hp} {v:V} {u:Value},Inv (cxOf CX0 P w K mg base N qual (defScope st) f cdv A outer s H E).uncalm [] σ' H' s'→RelV v u→Q v H'→CE outer P w H s Q u s' :=
    fun {σ' H' v u} J rv q=>⟨v,H',J.os,J.bare,J.base,J.hok,rv,q⟩
  cases fl with
  | ret u =>
    obtain ⟨v,σ',H',J,rv,q⟩:=hs
    exact fin J rv q
  | next =>
    obtain ⟨σ',H',J,q⟩:=hs
    exact fin (v:=V.non) (u:=Value.none) J rfl q
  | brk =>
    obtain ⟨_,_,_,q⟩:=hs
    exact False.elim q
  | cont =>
    obtain ⟨_,_,_,q⟩:=hs
    exact False.elim q
end
section
variable {X:Cx} {k:Nat} {f:Addr} {fd:FuncData} {ps:List Str} {sp:Sp} {dvs:List V} {ds:List Value} {E:XK} {x:Str} {p pos:Pos} {e:Expr} {es:List Expr} {t:TA}
theorem pe_callH (F:FnOkH X.prog X.w X.K X.mg X.base k f fd ps sp) (hr:RoomH k X.A) (hg:Gl X x) (hm:X.mg x = some (.ref f)) (hk:PySem.W.keepIn X.K (.ref f) = true) (hb:Binds X.K fd ps ds) (hd:Vals dvs ds)
    (ha:PA X (e :: es) t) (hdb:(x == ("__debug__":Str)) = false:=by decide) (he:starEach (e :: es) X.env = (false,eval e X.env) :: starEach es X.env:=by rfl) (hpl:(backTo pos (starEach es X.env)).any (·.1) = false:=by rfl) :
    PE X (.Call (.Name x p) (e :: es) [] pos) (tCall sp dvs E t):=by
  intro pins s σ H Q I h
  refine wpAny_Call_Name_kw (ld_glob I hg hm ?_ hdb)
  refine PySem.W.callWith_K (h₀:=X.base) I.ok.mod.kin hk (thn (ha pos pins s σ H _ I h) fun us s1 ⟨vs,H1,I1,r,q⟩=>⟨I1.kIn,?_⟩) he hpl
  have r2:Vals (vs ++ dvs) (us ++ ds):=r.append hd
  have hl:(us ++ ds).length = ps.length:=by rw [← r2.length]; exact F.len _ _ _ _ q
  refine wpAny_call (codeAny_mono (F.run X.A X.stack s1 H1 ⟨us,[]⟩ (us ++ ds) (vs ++ dvs) Q E hr I1.env0 (hb s1 us I1.kIn hl) r2 q) fun r s' hq=>?_)
  cases r with
  | error e=>exact False.elim hq
  | ok fl =>
    cases fl with
    | ret u=>exact I1.after hq
    | next=>exact False.elim hq
    | brk=>exact False.elim hq
    | cont=>exact False.elim hq
end
theorem pe_fstr2 {X:Cx} {x:Str} {j:Nat} {p1 p2 pos:Pos} {e:Expr} {te:TE} (he:PE X e te) (hx:x.length ≤ 1000) :
    PE X (.JoinedStr [.Constant (.str x) j p1,.FormattedValue e (-1) none p2] pos) (fun σ H Q=>te σ H fun v H1=>∃ i:Int,v = .int i∧i.natAbs.log2 < 1920∧∀ y:Str,Q (.str y) H1):=by
  intro pins s σ H Q I h
  have z0:(Str.empty ++ x).length ≤ 1000:=by rw [Str.append_left_empty (by rfl)]; exact hx
  refine wpAny_JoinedStr ?_
  refine Calls.Constant_str ⟨x,_,rfl,by rw [sizeLine_eq]; omega,?_⟩
  refine wpAny_FormattedValue_plain (thn (he pins _ σ H _ (I.tok _) h) fun u s1 ⟨v,H1,I1,r1,i,ei,hi,q⟩=>?_)
  subst ei
  obtain ⟨t,rfl⟩:=(show ∃ t,u = Value.int i t from r1)
  refine wpAny_formatField_int hi ?_
  have e:=int_text_length_le (k:=1920) (by decide) hi
  have z1:((Str.empty ++ x) ++ Str.ofString (toString i)).length ≤ sizeLine:=by
    have l:((Str.empty ++ x) ++ Str.ofString (toString i)).length = (Str.empty ++ x).length + (Str.ofString (toString i)).length:=Array.size_append
    rw [l,PySem.ofString_length,sizeLine_eq]; omega
  exact ⟨_,_,rfl,z1,z1,.str _,H1,I1.tok _,⟨_,rfl⟩,q _⟩
end L2
end
section
namespace L2
open PySem PySem.Spec PySem.Calls PyProof.Rows
def blV (bs:List Bool):List V:=bs.map V.bl
theorem vals_bl:∀ {bs:List Bool} {us:List Value},Vals (blV bs) us→us = bs.map Value.bool
  | [],_,.nil=>rfl
  | b :: bs,_,.cons r t=>by
    have e:=vals_bl (bs:=bs) t
    rw [e,show _ = Value.bool b from r]
    rfl
theorem reads_bl {h:Heap}:∀ (bs:List Bool),∃ as,ReadsAll h (bs.map Value.bool) (bs.map PyData.bool) as
  | []=>⟨_,.nil⟩
  | b :: bs=>let ⟨_,r⟩:=reads_bl bs; ⟨_,.cons (.bool b) r⟩
theorem all_bl:∀ (bs:List Bool),(bs.map PyData.bool).all Shape.bool.has = true
  | []=>rfl
  | b :: bs=>by rw [List.map_cons,List.all_cons,all_bl bs]; rfl
theorem count_bl:∀ (bs:List Bool),(bs.map Value.bool).countP (isBoolOf true) = bs.count true
  | []=>rfl
  | b :: bs=>by
    rw [List.map_cons,List.countP_cons,count_bl bs,List.count_cons]
    cases b <;> rfl
section
variable {X:Cx}
theorem mt_countB:MtM X "list.count" (fun x vs H Q=>∃ l bs,x = .ref l∧vs = [.bl true]∧H l = some (.lst (blV bs))∧Q (.int (bs.count true:Nat)) H):=by
  intro pins s σ H x vs v us Q I rx rv h
  obtain ⟨l,bs,rfl,rfl,hH,q⟩:=h
  cases rx
  obtain ⟨u,rfl,ru⟩:=vals1 rv
  obtain rfl:u = Value.bool true:=ru
  obtain ⟨_,its,n,r,e⟩:=(show ObjOk X.prog X.w H s.heap l (.lst (blV bs)) from I.hok l _ hH)
  obtain rfl:=vals_bl r
  obtain ⟨as,ra⟩:=reads_bl (h:=s.heap) bs
  refine call_meets PySem.F.slot_list_count ⟨_,e,rfl⟩ PySem.F.entry_list_count (PySem.F.args_list_count_2 _ _) (SeqAt.list_countAt l (bs.map Value.bool).toArray n none #[] (.bool true) (isBoolOf true)) ⟨e,fun y hy=>eq_isBoolOf true ra (all_bl bs) y (by simpa using hy) _ _,?_⟩
  rw [show ∀ (x:List Value),x.toArray.toList = x from fun _=>rfl,count_bl]
  exact ⟨.int _,H,I.tok _,⟨_,rfl⟩,q⟩
theorem mt_indexB:MtM X "list.index" (fun x vs H Q=>∃ l bs j,x = .ref l∧vs = [.bl true]∧H l = some (.lst (blV bs))∧bs.length ≤ 1000∧bs[j]? = some true∧(∀ m,m < j→bs[m]? = some false)∧Q (.int (j:Nat)) H):=by
  intro pins s σ H x vs v us Q I rx rv h
  obtain ⟨l,bs,j,rfl,rfl,hH,hlen,hj,hno,q⟩:=h
  cases rx
  obtain ⟨u,rfl,ru⟩:=vals1 rv
  obtain rfl:u = Value.bool true:=ru
  obtain ⟨_,its,n,r,e⟩:=(show ObjOk X.prog X.w H s.heap l (.lst (blV bs)) from I.hok l _ hH)
  obtain rfl:=vals_bl r
  obtain ⟨as,ra⟩:=reads_bl (h:=s.heap) bs
  obtain ⟨hj',hjt⟩:=List.getElem?_eq_some_iff.mp hj
  refine call_meets PySem.F.slot_list_index ⟨_,e,rfl⟩ PySem.F.entry_list_index (PySem.F.args_list_index_2 _ _) (SeqAt.list_indexAt l (bs.map Value.bool).toArray n none #[] (.bool true) (isBoolOf true) j (by simpa using hj') (by omega) ?_ ?_) ⟨e,fun y hy=>eq_isBoolOf true ra (all_bl bs) y (by simpa using hy) _ _,?_⟩
  · simp [hjt,isBoolOf]
  · intro m hm hmj
    obtain ⟨hm',hmf⟩:=List.getElem?_eq_some_iff.mp (hno m hmj)
    simp [hmf,isBoolOf]
  · exact ⟨.int _,H,I.tok _,⟨_,rfl⟩,q⟩
end
def clV:V→Value
  | .ref a=>.ref a
  | .ty n=>.type n
  | _=>.none
theorem call_isExc {X:Cx}:CallR X (.builtin "isinstance") (fun xs H Q=>∃ x D c b,xs = [.ref x,c]∧((∃ a,c = .ref a)∨∃ n,c = .ty n)∧H x = some (ExcO x D)∧ExcK X.K D∧PySem.W.kitOne X.K (.ref D) (clV c) = some b∧Q (.bl b) H):=by
  intro pins s σ H xs us Q I r h
  obtain ⟨x,D,c,b,rfl,hc,hx,kx,e,q⟩:=h
  cases r with
  | cons r1 rt =>
    obtain ⟨u,rfl,ru⟩:=vals1 rt
    obtain rfl:=(show _ = Value.ref x from r1)
    have hu:u = clV c:=by
      rcases hc with ⟨a,rfl⟩ | ⟨n,rfl⟩
      · exact ru
      · exact ru
    subst hu
    exact isinst_exc I hx kx e fun tk=>⟨.bl b,H,I.tok _,rfl,q⟩
end L2
end
section
namespace L2
open PySem PySem.Spec PySem.Calls PyProof.Rows
section
variable {P:Program} {w:World} {K:PySem.W.Frag} {mg:Str→Option Value} {base:Heap}
end
section
variable {X:Cx} {CX:CXT} {k:Nat} {f C:Addr} {fd:FuncData} {ps ks:List Str} {sp:Sp} {E:St→XK} {x m:Str} {p pos apos kpos:Pos} {e o:Expr} {es:List Expr} {kws:List Keyword} {te ta:TE} {t tk:TA} {nm:Option Str}
  {g:List Value→List Value→List Value} {gV:List V→List V→List V}
end
def spE (K:PySem.W.Frag) (R:List D→D→Prop) (B:List D→Addr→Prop):Sp:=fun vs H Q E =>
  ∃ ds,Dats K H ds vs∧((∃ d,R ds d∧∀ v H',Same H H'→Dat K H' d v→Q v H')∨∃ C,B ds C∧∀ H',Same H H'→E (.ref C) none H')
section
variable {K:PySem.W.Frag} {σ:St} {H:Hp} {tA tK:TA} {ds es fs:List D} {d e:D} {dvs:List V} {R:List D→D→Prop} {B:List D→Addr→Prop} {E:XK} {Q:VK} {C:Addr} {gV:List V→List V→List V} {ta tb:TE}
theorem re_callE (h:RA K tA σ H ds) (r:R ds d):RE K (tCall (spE K R B) [] E tA) σ H d:=fun H1 s Q q =>
  h H1 s _ fun vs H2 s2 q2=>⟨ds,by rw [List.append_nil]; exact q2,.inl ⟨d,r,fun v H3 s3 q3=>q _ _ (s2.trans s3) q3⟩⟩
theorem rx_callE (h:RA K tA σ H ds) (r:B ds C) (q:∀ H',Same H H'→E (.ref C) none H'):tCall (spE K R B) [] E tA σ H Q :=
  h.use fun vs H2 s2 q2=>⟨ds,by rw [List.append_nil]; exact q2,.inr ⟨C,r,fun H3 s3=>q _ (s2.trans s3)⟩⟩
theorem re_callED (h:RA K tA σ H ds) (hd:∀ H,Dats K H es dvs) (r:R (ds ++ es) d):RE K (tCall (spE K R B) dvs E tA) σ H d:=fun H1 s Q q =>
  h H1 s _ fun vs H2 s2 q2=>⟨ds ++ es,Dats.append q2 (hd _),.inl ⟨d,r,fun v H3 s3 q3=>q _ _ (s2.trans s3) q3⟩⟩
theorem rx_callED (h:RA K tA σ H ds) (hd:∀ H,Dats K H es dvs) (r:B (ds ++ es) C) (q:∀ H',Same H H'→E (.ref C) none H'):tCall (spE K R B) dvs E tA σ H Q :=
  h.use fun vs H2 s2 q2=>⟨ds ++ es,Dats.append q2 (hd _),.inr ⟨C,r,fun H3 s3=>q _ (s2.trans s3)⟩⟩
theorem re_neDD (h1:RE K ta σ H d) (h2:RE K tb σ H e) (n1:noL d = true) (n2:noL e = true) (dp:deepD d ≤ 20):RE K (tOp (rEqD K true) ta tb) σ H (.bl (!eqD d e)):=fun H1 s Q q =>
  h1 H1 s _ fun v H2 s2 q2=>h2 H2 (s.trans s2) _ fun w H3 s3 q3=>⟨d,e,s3.dat q2,q3,n1,n2,dp,q _ _ (s2.trans s3) (Dat.blI _)⟩
theorem re_eqDD (h1:RE K ta σ H d) (h2:RE K tb σ H e) (n1:noL d = true) (n2:noL e = true) (dp:deepD d ≤ 20):RE K (tOp (rEqD K false) ta tb) σ H (.bl (eqD d e)):=fun H1 s Q q =>
  h1 H1 s _ fun v H2 s2 q2=>h2 H2 (s.trans s2) _ fun w H3 s3 q3=>⟨d,e,s3.dat q2,q3,n1,n2,dp,q _ _ (s2.trans s3) (Dat.blI _)⟩
theorem re_isExc {x D:Addr} {c:V} {b:Bool} {i:Nat} (hx:H x = some (ExcO x D)) (kx:ExcK K D) (kit:PySem.W.kitOne K (.ref D) (clV c) = some b) (hc:(∃ a,c = .ref a)∨∃ n,c = .ty n) (e:σ[i]? = some (some (.ref x)):=by rfl) :
    RE K (tCB (fun xs H Q=>∃ x D c b,xs = [.ref x,c]∧((∃ a,c = .ref a)∨∃ n,c = .ty n)∧H x = some (ExcO x D)∧ExcK K D∧PySem.W.kitOne K (.ref D) (clV c) = some b∧Q (.bl b) H) (tCons (tVar i) (tCons (tC c) tNil))) σ H (.bl b):=fun H1 s Q q =>
  ⟨_,e,x,D,c,b,rfl,hc,s _ _ hx,kx,kit,q _ _ (Same.refl _) (Dat.blI _)⟩
theorem re_countB {i:Nat} {l:Addr} {bs:List Bool} (hl:H l = some (.lst (blV bs))) (e:σ[i]? = some (some (.ref l)):=by rfl) :
    RE K (tBM K "list" (fun x vs H Q=>∃ l bs,x = .ref l∧vs = [.bl true]∧H l = some (.lst (blV bs))∧Q (.int (bs.count true:Nat)) H) (tVar i) (tCons (tC (.bl true)) tNil)) σ H (.int (bs.count true:Nat)):=fun H1 s Q q =>
  ⟨_,e,.inl ⟨rfl,_,SqL.of (s _ _ hl)⟩,l,bs,rfl,rfl,s _ _ hl,q _ _ (Same.refl _) (Dat.intI _)⟩
theorem re_indexB {i j:Nat} {l:Addr} {bs:List Bool} (hl:H l = some (.lst (blV bs))) (hn:bs.length ≤ 1000) (h1:bs[j]? = some true) (h2:∀ m,m < j→bs[m]? = some false) (e:σ[i]? = some (some (.ref l)):=by rfl) :
    RE K (tBM K "list" (fun x vs H Q=>∃ l bs j,x = .ref l∧vs = [.bl true]∧H l = some (.lst (blV bs))∧bs.length ≤ 1000∧bs[j]? = some true∧(∀ m,m < j→bs[m]? = some false)∧Q (.int (j:Nat)) H) (tVar i) (tCons (tC (.bl true)) tNil)) σ H (.int (j:Nat)):=fun H1 s Q q =>
  ⟨_,e,.inl ⟨rfl,_,SqL.of (s _ _ hl)⟩,l,bs,j,rfl,rfl,s _ _ hl,hn,h1,h2,q _ _ (Same.refl _) (Dat.intI _)⟩
end
section
variable {X:Cx}
end
end L2
end
section
namespace L2
open PySem PySem.Spec PySem.Calls PyProof.Rows PySem.W PySem.Builtin PySem.Builtin.ObjectAttr
abbrev argT (us:List Value):Obj:={ cls:=.type "tuple",data:=.seq us.toArray }
abbrev bareE (C t:Addr):Obj:={ cls:=.ref C,data:=.fields #[.ref t,.none,.none,.none,.bool false,.none] }
abbrev laidE (h:Heap) (C:Addr) (us:List Value):Heap:=(h.push (argT us)).push (bareE C h.objs.size)
theorem laidE_keeps {h:Heap} {C:Addr} {us:List Value} (b:Addr) (o:Obj) (q:h.get? b = some o):(laidE h C us).get? b = some o:=by
  have q1:=Heap.get?_push_of_some (argT us) q
  exact Heap.get?_push_of_some _ q1
theorem laidE_exc {h:Heap} {C:Addr} {us:List Value}:(laidE h C us).get? (h.objs.size + 1) = some (bareE C h.objs.size):=by heap_get
theorem laidE_new {h:Heap}:h.get? (h.objs.size + 1) = none:=Heap.get?_none_of_le (by omega)
structure IniK (K:Frag) (C fI:Addr):Prop where
  at_:excAt K C [.type "ValueError",.type "Exception",.type "BaseException",.type "object"] "ValueError.__new__" (some (.ref fI)) = true
  ini:findIn K (.ref C) "__init__" = some (some (.ref fI))
  fn:typeIn K (.ref fI) = some (.type "function")
  kp:keepIn K (.ref C) = true
section
variable {prog:Program} {w:World} {A:Around} {E:Value→Shared→Prop} {K:Frag} {C fI:Addr} {us:List Value}
theorem make_excI {s:Shared} {Q:Value→Shared→Prop} (X:K.In s.heap) (kc:IniK K C fI) (hl:us.length ≤ sizeLine)
    (h:wpAny (model prog w) (A.under (.builtin "type.__call__" ⟨.ref C :: us,[]⟩)) (call (.ref fI) (.ref (s.heap.objs.size + 1) :: us)) (fun r s'=>r = .none∧Q (.ref (s.heap.objs.size + 1)) s') E { s with heap:=laidE s.heap C us }) :
    wpAny (model prog w) A (call (.ref C) us) Q E s:=by
  obtain ⟨bm,N,nm,qn,bs,hdd,sn,sub,ab,col,dd,k0,k1,k2,k3,k5,mN,hC,_,_,T⟩:=exc_of X kc.at_
  have V:=PySem.F.excBase_ValueError
  have isT:s.TypeIs (.ref C) "type":=⟨_,hC,rfl⟩
  have l1:=tc_lookup
  have l2:=tc_bind (.ref C)
  have hC2:=laidE_keeps (us:=us) (C:=C) C _ hC
  have X2:K.In (laidE s.heap C us):=X.keeps laidE_keeps
  have self1:(Value.ref C :: bm).contains (.ref C) = true:=by simp
  obtain ⟨h0,g0,d0,t0,o0⟩:=s
  refine wpAny_call (codeAny_of_tree ?_)
  show wpAny _ _ (callAny (.ref C) _) _ _ _
  repeat' (first | assumption | (with_reducible refine wpAny_loadPart_at hC ?_) | wp_step)
  refine ⟨rfl,codeAny_call_builtin_at (Code.quiet_builtin _ (by decide +kernel)) entry_typeCall (wpAny_check_type_call_sub hC ?_)⟩
  repeat (first | (with_reducible refine wpAny_madeBy_exc hC ?_) | (with_reducible refine wpAny_isSubtype_exc hC ?_) | (with_reducible refine wpAny_loadPart_at hC ?_) | wp_step)
  refine codeAny_call_builtin_code (Code.quiet_builtin _ V.quiet) (wpAny_check_new_subU V (by decide) T hC (codeAny_exc_new_subU V (by decide) V T hC ?_ hl))
  show wpAny _ _ _ _ _ _
  unfold isInstance
  repeat (first | (with_reducible refine wpAny_madeBy_exc laidE_exc ?_) | (with_reducible refine wpAny_isSubtype_exc laidE_exc ?_) | (with_reducible refine wpAny_loadPart_at laidE_exc ?_) | wp_step)
  refine wpAny_isSubtype_exc hC2 ?_
  rw [self1]
  refine wpAny_bind (wpAny_holding (special_fn (s:=⟨laidE h0 C us,g0,d0,t0,o0⟩) X2 (od:=none) ⟨laidE_exc,rfl,rfl,trivial⟩ kc.ini kc.fn (wpAny_mono h (fun r s' ⟨er,q⟩=>?_) fun _ _ z=>z)))
  subst er
  exact wpAny_pure q
end
abbrev withD (h:Heap) (x:Addr):Heap:=(h.push { cls:=.type "dict",data:=.dict #[] }).update x fun o=>{ cls:=o.cls,dict:=some h.objs.size,data:=o.data,slots:=o.slots }
section
variable {h:Heap} {x b:Addr} {o:Obj} {vs:Array Value}
theorem withD_at (q:h.get? x = some o) (hd:o.data = .fields vs):(withD h x).get? x = some { o with dict:=some h.objs.size }:=by
  have q1:(h.push { cls:=.type "dict",data:=.dict #[] }).get? x = some o:=Heap.get?_push_of_some _ q
  refine Heap.get?_update_self _ q1 ?_
  obtain ⟨c,d,dt,sl⟩:=o
  subst hd
  rfl
theorem withD_keeps (hb:b ≠ x) (q:h.get? b = some o):(withD h x).get? b = some o:=by
  rw [Heap.get?_update_ne _ _ _ _ hb]
  exact Heap.get?_push_of_some _ q
theorem withD_dict (q:h.get? x = some o):(withD h x).Ns1 h.objs.size fun _=>none:=by
  have lt:h.objs.size ≠ x:=Ne.symm (Nat.ne_of_lt (Heap.lt_size q))
  have e:(withD h x).get? h.objs.size = some { cls:=.type "dict",data:=.dict #[] }:=by
    rw [Heap.get?_update_ne _ _ _ _ lt]
    exact Heap.get?_push_at rfl rfl
  exact Heap.Ns1.of_empty ⟨_,#[],_,e,rfl,fun en hen=>absurd hen (by simp),fun _=>rfl⟩
end
def overBase:List Value→Bool
  | .ref _ :: r=>overBase r
  | l=>l == [.type "ValueError",.type "Exception",.type "BaseException",.type "object"]
theorem refuse_over (self:Value):∀ {l:List Value},overBase l = true→refuseLoop self "__setattr__" l = pure ()
  | [],e=>by simp [overBase] at e
  | v :: r,e=>by
    cases v with
    | ref c=>rw [refuseLoop_ref]; exact refuse_over self (l:=r) e
    | type n =>
      have e':=beq_iff_eq.mp (show (Value.type n :: r == [.type "ValueError",.type "Exception",.type "BaseException",.type "object"]) = true from e)
      rw [e']
      exact PySem.F.store_ValueError.passes self
    | _=>exact absurd (beq_iff_eq.mp (show (_ == ([.type "ValueError",.type "Exception",.type "BaseException",.type "object"]:List Value)) = true from e)) (by simp)
structure StoK (K:Frag) (C:Addr) (name:Str):Prop where
  sa:findIn K (.ref C) "__setattr__" = some (some (.builtin "object.__setattr__"))
  ob:mroIn K C (.type "object") = some true
  over:(clsIn K C).any (fun cd=>overBase cd.mro) = true
  no:findIn K (.ref C) name = some none
  hd:(clsIn K C).any (·.hasDict) = true
section
variable {prog:Program} {w:World} {A:Around} {E:Value→Shared→Prop} {s:Shared} {K:Frag} {x C:Addr} {ox:Obj} {name:Str} {v:Value} {vs:Array Value}
theorem looks_refuse {M:Model} (X:K.In s.heap) (ty:Looks M s.heap (typeOf (.ref x)) (.ref C)) (st:StoK K C name):Looks M s.heap (refuseIfOverridden (.ref x) "__setattr__") ():=by
  obtain ⟨cd,hc,hov⟩:=any_some st.over
  have row:Looks M s.heap (mroOf (.ref C)) cd.mro:=(looks_clsIn X hc).andThen .now
  exact ty.andThen (row.andThen (Looks.of_pure (refuse_over (.ref x) hov)))
theorem setattr_exc {Q:Unit→Shared→Prop} (X:K.In s.heap) (st:StoK K C name) (hx:s.heap.get? x = some ox) (hc:ox.cls = .ref C) (hd:ox.dict = none) (hdt:ox.data = .fields vs)
    (h:∀ h' tk,(∀ b o,b ≠ x→s.heap.get? b = some o→h'.get? b = some o)→h'.get? x = some { ox with dict:=some s.heap.objs.size }→h'.Ns1 s.heap.objs.size (fun y=>if y = name then some v else none)→Q () { s with heap:=h',toks:=tk }) :
    wpAny (model prog w) A (setAttr (.ref x) name v) Q E s:=by
  have inst:InstAt s.heap x ox C none:=⟨hx,hc,by unfold notCls; rw [hdt],by rw [hd]; trivial⟩
  have ty:Looks (model prog w) s.heap (typeOf (.ref x)) (.ref C):=inst.type
  have ok:Looks (model prog w) s.heap (isInstance (.ref x) (.type "object")) true:=ty.andThen (looks_mroIn X st.ob)
  have SO:=PySem.F.store_object
  refine set_plain X inst st.sa (codeAny_call_builtin SO.slot.plain SO.entry ?_)
  refine @check_slot (model prog w) _ _ { s with toks:=s.toks + 1 } "object.__setattr__" "object" "__setattr__" (.ref x) [.str name s.toks,v] [] _ SO.kind SO.split ok (SO.args _ _ _) ?_
  rw [osa_eq]
  refine wpAny_bind ((looks_refuse (s:={ s with toks:=s.toks + 1 }) X ty st).here ?_)
  refine wpAny_bind (Looks.here (s:={ s with toks:=s.toks + 1 }) ty ?_)
  refine wpAny_bind (Looks.here (s:={ s with toks:=s.toks + 1 }) (looks_findIn X st.no) ?_)
  refine wpAny_bind (wpAny_pure ?_)
  obtain ⟨cd,hcd,has⟩:=any_some st.hd
  obtain ⟨oc,od,oda,osl⟩:=ox
  dsimp only at hc hd hdt
  subst hc hd hdt
  obtain ⟨h0,g0,d0,t0,o0⟩:=s
  show wpAny _ _ (storeInOwnDict (.ref x) (.ref C) (.str name t0) name v false) _ _ ⟨h0,g0,d0,t0 + 1,o0⟩
  have X':K.In h0:=X
  refine wpAny_bind (wpAny_pure (wpAny_bind ?_))
  show wpAny _ _ (instanceDict x true) _ _ _
  refine wpAny_bind (wpAny_loadPart hx (wpAny_bind (Looks.here (s:=⟨h0,g0,d0,t0 + 1,o0⟩) (looks_clsIn X' hcd) ?_)))
  rw [has]
  dsimp only
  rw [if_neg (by simp)]
  refine wpAny_bind (wpAny_alloc' (wpAny_bind (wpAny_update' (Heap.get?_push_of_some _ hx) (wpAny_pure ?_))))
  show wpAny _ _ (storeInDict h0.objs.size (.str name t0) name v) _ _ ⟨withD h0 x,g0,d0,t0 + 1,o0⟩
  unfold storeInDict newKeyGuard
  refine wpAny_bind (wpAny_pure (wpAny_bind (wpAny_nsSet1 (withD_dict hx) fun h' ns' same=>?_)))
  obtain ⟨od',es,ep,hod,hes,few⟩:=ns'.count (Within.cons name v Within.nil)
  have few':es.size ≤ 1:=few
  refine wpAny_bind (wpAny_lookBehind hod (by rw [hes]; exact pastItsLine_dict (by rw [sizeLine_eq]; omega)) (wpAny_pure (h h' _ (fun b ob hb q=>?_) ?_ ns')))
  · exact (same.2 b (Nat.ne_of_lt (Heap.lt_size q))).trans (withD_keeps hb q)
  · exact (same.2 x (Nat.ne_of_lt (Heap.lt_size hx))).trans (withD_at hx rfl)
end
def FreN (e C:Addr) (a0:Value):HO:=.ext fun h=>∃ oe vs,h.get? e = some oe∧(oe.cls = .ref C∧vs[0]? = some a0)∧oe.data = .fields vs∧vs[1]? = some .none∧oe.dict = none
section
variable {X:Cx} {pins:List (Addr × Obj)} {σ:St} {H:Hp} {s s':Shared} {C fI e:Addr} {fd:FuncData} {k:Nat} {ps:List Str} {a0:Value}
end
theorem raise_own {M:Model} {A:Around} {E:Value→Shared→Prop} {s:Shared} {env:Env} {K:Frag} {C fI:Addr} {x:Sem Value} {Q:Flow→Shared→Prop} (kc:IniK K C fI) (hh:A.handled = none)
    (h:wpAny M A x (fun r s'=>∃ e oe vs,r = .ref e∧s'.heap.get? e = some oe∧oe.cls = .ref C∧oe.data = .fields vs∧vs[1]? = some .none∧K.In s'.heap∧E (.ref e) s') E s):wpAny M A (raiseStmt env (some x) none) Q E s:=by
  refine wpAny_bind (thn h fun r s1 ⟨e,oe,vs,er,he,hcl,hdt,hv1,X1,q⟩=>?_)
  subst er
  obtain ⟨bm,N,nm,qn,bs,hdd,sn,sub,ab,col,dd,k0,k1,k2,k3,k5,mN,hC,_,_,T⟩:=exc_of X1 kc.at_
  have isB:(Value.ref C :: bm).contains (.type "BaseException") = true:=by
    rw [List.contains_cons,T.hasType (X:="BaseException") (b:=true) (by decide)]
    rfl
  obtain ⟨oc,od,odt,osl⟩:=oe
  obtain rfl:oc = .ref C:=hcl
  obtain rfl:odt = .fields vs:=hdt
  obtain ⟨h1,g1,d1,t1,o1⟩:=s1
  repeat (first | (with_reducible refine wpAny_loadPart_at he ?_) | (with_reducible refine wpAny_loadPart_at hC ?_) | (with_reducible refine wpAny_isSubtype_exc hC ?_; rw [isB]) | rw [hv1] | wp_step)
  exact wpAny_raiseNew_none hh q
end L2
end
section
namespace L2
open PySem PySem.Spec PySem.Calls PyProof.Rows
section
variable {prog:Program} {w:World} {A:Around} {E:Value→Shared→Prop} {s:Shared} {it t:Addr} {i:Nat} {items:Array Value}
end
end L2
end
section
namespace L2
open PySem PySem.Spec PySem.Calls PyProof.Rows
section
variable {prog:Program} {w:World} {A:Around} {E:Value→Shared→Prop} {s:Shared} {z TI TO i1 i2 t1 t2:Addr} {k:Nat} {xs ys:Array Value}
end
end L2
end
section
namespace L2
open PySem PySem.Spec PySem.Calls PyProof.Rows
end L2
end
section
namespace L2
open PySem PySem.Spec PySem.Calls PyProof.Rows
end L2
end
section
namespace L2
open PySem PySem.Spec PySem.Calls PyProof.Rows
def spAE (K:PySem.W.Frag) (R:List Ar→D→Prop) (B:List Ar→Addr→Prop):Sp:=fun vs H Q E =>
  ∃ as,Ars K H as vs∧((∃ d,R as d∧∀ v H',Same H H'→Dat K H' d v→Q v H')∨∃ C,B as C∧∀ H',Same H H'→E (.ref C) none H')
section
variable {K:PySem.W.Frag} {σ:St} {H:Hp} {tA:TA} {ar:List Ar} {d:D} {R:List Ar→D→Prop} {B:List Ar→Addr→Prop} {E:XK} {Q:VK} {C:Addr}
theorem re_callAE (h:RB K tA σ H ar) (r:R ar d):RE K (tCall (spAE K R B) [] E tA) σ H d:=fun H1 s Q q =>
  h H1 s _ fun vs H2 s2 q2=>⟨ar,by rw [List.append_nil]; exact q2,.inl ⟨d,r,fun v H3 s3 q3=>q _ _ (s2.trans s3) q3⟩⟩
theorem rx_callAE (h:RB K tA σ H ar) (r:B ar C) (q:∀ H',Same H H'→E (.ref C) none H'):tCall (spAE K R B) [] E tA σ H Q :=
  h.use fun vs H2 s2 q2=>⟨ar,by rw [List.append_nil]; exact q2,.inr ⟨C,r,fun H3 s3=>q _ (s2.trans s3)⟩⟩
end
end L2
end
section
namespace L2
open PySem
def Kept (h h':Heap):Prop:=∀ (b:Addr) (o:Obj),h.objs[b]? = some o→∃ o',h'.objs[b]? = some o'∧o'.dict = o.dict
theorem Kept.refl {h:Heap}:Kept h h:=fun _ o e=>⟨o,e,rfl⟩
theorem Kept.trans {h1 h2 h3:Heap} (x:Kept h1 h2) (y:Kept h2 h3):Kept h1 h3:=fun b o e =>
  let ⟨o1,e1,d1⟩:=x b o e; let ⟨o2,e2,d2⟩:=y b o1 e1; ⟨o2,e2,d2.trans d1⟩
theorem Kept.push {h:Heap} {o:Obj}:Kept h (h.push o):=fun b u e=>by
  obtain ⟨objs,l⟩:=h
  refine ⟨u,?_,rfl⟩
  show (objs.push o)[b]? = some u
  have e:objs[b]? = some u:=e
  rw [Array.getElem?_push_lt (Array.getElem?_eq_some_iff.mp e).1]
  exact congrArg some (Array.getElem?_eq_some_iff.mp e).2
theorem Kept.update {h:Heap} {a:Addr} {f:Obj→Obj} (hf:∀ o,(f o).dict = o.dict):Kept h (h.update a f):=fun b u e=>by
  obtain ⟨objs,l⟩:=h
  have e:objs[b]? = some u:=e
  by_cases q:a = b
  · refine ⟨f u,?_,hf u⟩
    show (objs.modify a f)[b]? = some (f u)
    rw [Array.getElem?_modify,if_pos q,e]
    rfl
  · refine ⟨u,?_,rfl⟩
    show (objs.modify a f)[b]? = some u
    rw [Array.getElem?_modify,if_neg q,e]
theorem Kept.at {h h':Heap} {a:Addr} {o o':Obj} (k:Kept h h') (e:h.get? a = some o) (e':h'.get? a = some o'):o'.dict = o.dict:=by
  have r:∀ {g:Heap} {u:Obj},g.get? a = some u→g.objs[a]? = some u:=fun {g u} q=>by
    unfold Heap.get? at q
    split at q
    · cases q
    · exact q
  obtain ⟨u,eu,d⟩:=k a o (r e)
  have z:=(r e').symm.trans eu
  cases z
  exact d
def Safe {α:Type}:Sem α→Prop
  | .rule _ k=>Safe (k ())
  | .at _ k=>Safe (k ())
  | .load _ _ k=>∀ x,Safe (k x)
  | .update _ _ f k=>(∀ o,(f o).dict = o.dict)∧Safe (k ())
  | .loadIfAlive _ k=>∀ x,Safe (k x)
  | .point _ k=>Safe (k ())
  | .alloc _ k=>∀ x,Safe (k x)
  | .fresh k=>∀ x,Safe (k x)
  | .ask k=>∀ x,Safe (k x)
  | .choose _ _ k=>∀ x,Safe (k x)
  | .handled _ k=>∀ x,Safe (k x)
  | .stack k=>∀ x,Safe (k x)
  | .call ..=>False
  | .resume ..=>False
  | .os ..=>False
  | .newGen ..=>False
  | .genState ..=>False
  | .thread ..=>False
  | _=>True
theorem Safe.bind {α β:Type} {f:α→Sem β} (hf:∀ a,Safe (f a)):∀ {m:Sem α},Safe m→Safe (m >>= f):=by
  intro m hm
  show Safe (m.bind f)
  induction m with
  | pure a=>exact hf a
  | rule _ k ih=>exact ih () hm
  | «at» _ k ih=>exact ih () hm
  | load _ _ k ih=>exact fun x=>ih x (hm x)
  | update _ _ g k ih=>exact ⟨hm.1,ih () hm.2⟩
  | loadIfAlive _ k ih=>exact fun x=>ih x (hm x)
  | point _ k ih=>exact ih () hm
  | alloc _ k ih=>exact fun x=>ih x (hm x)
  | fresh k ih=>exact fun x=>ih x (hm x)
  | ask k ih=>exact fun x=>ih x (hm x)
  | choose _ _ k ih=>exact fun x=>ih x (hm x)
  | handled _ k ih=>exact fun x=>ih x (hm x)
  | stack k ih=>exact fun x=>ih x (hm x)
  | call=>exact hm.elim
  | resume=>exact hm.elim
  | os=>exact hm.elim
  | newGen=>exact hm.elim
  | genState=>exact hm.elim
  | thread=>exact hm.elim
  | _=>trivial
theorem wp_kept {α:Type} {M:Model} {Γ:Ctx} {Q:α→Pos→Shared→Prop} {E:Value→Pos→Shared→Prop} {h0:Heap}:∀ {t:Sem α} {p:Pos} {s:Shared},Safe t→Kept h0 s.heap→Sem.wp M Γ t Q E p s →
    Sem.wp M Γ t (fun a p' s'=>Q a p' s'∧Kept h0 s'.heap) E p s:=by
  intro t
  induction t with
  | pure a=>exact fun _ k h=>⟨h,k⟩
  | raise e=>exact fun _ _ h=>h
  | unsupported=>exact fun _ _ h=>h
  | finish=>exact fun _ _ h=>h
  | rule _ k ih=>exact fun hm kp h=>ih () hm kp h
  | «at» _ k ih=>exact fun hm kp h=>ih () hm kp h
  | load _ _ k ih=>exact fun hm kp ⟨o,e,h⟩=>⟨o,e,ih o (hm o) kp h⟩
  | update _ _ f k ih=>exact fun hm kp ⟨e,h⟩=>⟨e,ih () hm.2 (kp.trans (Kept.update hm.1)) h⟩
  | loadIfAlive _ k ih=>exact fun hm kp h=>ih _ (hm _) kp h
  | point _ k ih=>exact fun hm kp h=>ih () hm kp h
  | register=>exact fun _ _ h=>h
  | alloc _ k ih=>exact fun hm kp h=>ih _ (hm _) (kp.trans Kept.push) h
  | fresh k ih=>exact fun hm kp h=>ih _ (hm _) kp h
  | ask k ih=>exact fun hm kp h=>ih _ (hm _) kp h
  | choose _ _ k ih=>exact fun hm kp ⟨n,h⟩=>⟨n,ih _ (hm _) kp h⟩
  | handled _ k ih=>exact fun hm kp h=>ih _ (hm _) kp h
  | stack k ih=>exact fun hm kp h=>ih _ (hm _) kp h
  | yield=>exact fun _ _ h=>h
  | fork=>exact fun _ _ h=>h
  | await=>exact fun _ _ h=>h
  | _=>exact fun hm=>hm.elim
theorem wpAny_kept {α:Type} {M:Model} {A:Around} {t:Sem α} {Q:α→Shared→Prop} {E:Value→Shared→Prop} {s:Shared} (hs:Safe t) (h:wpAny M A t Q E s):wpAny M A t (fun a s'=>Q a s'∧Kept s.heap s'.heap) E s :=
  fun Γ p hΓ=>wp_kept hs Kept.refl (h Γ p hΓ)
theorem safe_pure {α:Type} (a:α):Safe (pure a:Sem α):=trivial
theorem safe_upd {a:Addr} {f:Obj→Obj} (h:∀ o,(f o).dict = o.dict):Safe (update a f):=⟨h,trivial⟩
theorem safe_stack:Safe stack:=fun _=>trivial
theorem safe_fieldsOf (v:Value):Safe (fieldsOf v):=by
  unfold fieldsOf
  split
  · refine Safe.bind (fun o=>?_) (fun _=>trivial)
    split <;> trivial
  · trivial
theorem safe_field (v:Value) (i:Nat):Safe (field v i):=by
  unfold field
  refine Safe.bind (fun vs=>?_) (safe_fieldsOf v)
  split <;> trivial
theorem mapFields_dict (f:Array Value→Array Value) (o:Obj):(Obj.mapFields f o).dict = o.dict:=by
  unfold Obj.mapFields
  split <;> rfl
theorem safe_setField (v:Value) (i:Nat) (x:Value):Safe (setField v i x):=by
  unfold setField
  split
  · unfold updateField
    refine Safe.bind (fun o=>?_) (fun _=>trivial)
    split
    · split
      · exact ⟨fun o=>mapFields_dict _ o,trivial⟩
      · trivial
    · trivial
  · trivial
theorem safe_behind (env:Env) (outer:List Env):Safe (behindIsImport env outer):=by
  unfold behindIsImport
  split
  · trivial
  · split
    · trivial
    · exact Safe.bind (fun _=>safe_pure _) (safe_field _ _)
theorem safe_back (env:Env) (b:Bool) (outer:List Env):Safe (keptBack env b outer):=by
  unfold keptBack
  split
  · split
    · trivial
    · have h:Safe underTheClaimsCaller:=Safe.bind (fun _=>safe_pure _) safe_stack
      exact Safe.bind (fun c=>safe_pure _) h
  · trivial
theorem safe_ready:∀ l:List Env,Safe (readyFrames l)
  | []=>trivial
  | env :: outer=>by
    unfold readyFrames
    split
    · refine Safe.bind (fun o=>?_) (fun _=>trivial)
      split
      · trivial
      · refine Safe.bind (fun i=>Safe.bind (fun b=>Safe.bind (fun _=>safe_ready outer) ?_) (safe_back _ _ _)) (safe_behind _ _)
        exact safe_upd fun _=>rfl
    · trivial
theorem safe_frame (env:Env):Safe (frameOf env):=by
  unfold frameOf
  have h:Safe frameEnvs:=Safe.bind (fun _=>safe_pure _) safe_stack
  refine Safe.bind (fun l=>?_) h
  refine Safe.bind (fun o=>?_) ?_
  · split <;> trivial
  · unfold frameObject
    split
    · trivial
    · exact Safe.bind (fun _=>safe_pure _) (safe_ready (_ :: _))
theorem safe_place (f:Addr) (b:Bool):Safe (entryPlaceOf f b):=by
  unfold entryPlaceOf
  refine Safe.bind (fun l=>?_) (fun _=>trivial)
  split <;> trivial
theorem safe_entry (a b c d e:Value) (l:List Value):Safe (EntryCells.newEntry a b c d e l):=by
  unfold EntryCells.newEntry newFields newObj
  have h:∀ d:Data,Safe (newObjAsIs (.type "traceback") d):=fun d _=>trivial
  generalize ([a,b,c,d,e] ++ if l.isEmpty = true then List.replicate 6 Value.none else l).toArray = vs
  dsimp only
  split
  · exact Safe.bind (fun _=>h _) (m:=unsupported _) trivial
  · exact h _
theorem safe_flight (e:Value) (f:Option Addr):Safe (setFlight e f):=by
  unfold setFlight
  refine Safe.bind (fun tb=>?_) (safe_field _ _)
  split
  · exact safe_setField _ _ _
  · trivial
theorem safe_note (e:Value) (env:Env):Safe (noteFrame e env):=by
  unfold noteFrame
  split
  · refine Safe.bind (fun hd=>?_) (safe_field _ _)
    have last:∀ b:Bool,Safe (do setField e 1 (← EntryCells.newEntry hd (← frameOf env) .none (rawInt ‹Addr›) .none (← entryPlaceOf ‹Addr› b))):=fun b =>
      Safe.bind (fun fr=>Safe.bind (fun pl=>Safe.bind (fun en=>safe_setField _ _ _) (safe_entry _ _ _ _ _ _)) (safe_place _ _)) (safe_frame _)
    split
    · refine Safe.bind (fun fl=>?_) (safe_field _ _)
      split
      · trivial
      · exact Safe.bind (fun _=>last _) (safe_setField _ _ _)
    · exact last _
  · trivial
theorem safe_leaving (env:Env) (e:Value):Safe (leaving env e):=Safe.bind (fun _=>safe_flight _ _) (safe_note _ _)
end L2
end
section
namespace L2
open PySem PySem.Spec PySem.Calls PyProof.Rows PySem.W PySem.Builtin PySem.Builtin.ObjectAttr
def DictAt (h:Heap) (a:Addr) (dx:Option Addr):Prop:=∃ oe,h.get? a = some oe∧oe.dict = dx
theorem Kept.dictAt {h h':Heap} {a:Addr} {dx:Option Addr} {cls a0:Value} {T:Addr} (k:Kept h h') (d:DictAt h a dx) (t:Trc h' a T cls a0):DictAt h' a dx:=by
  obtain ⟨oe,he,hd⟩:=d
  obtain ⟨o2,_,_,_,h2,_⟩:=t
  exact ⟨o2,h2,(k.at he h2).trans hd⟩
def CX2 (P:Program) (w:World):CXT:=fun outer H s E e s' =>
  ∃ a T cls a0 dx H',e = .ref a∧s'.os = s.os∧AllBare s'.gens∧Un (frs outer) [] H H' s.heap s'.heap∧HOk P w H' s'.heap ∧
    (s.heap.get? a = none∧s.heap.get? T = none∧H' a = none∧H' T = none)∧Trc s'.heap a T cls a0∧DictAt s'.heap a dx∧E cls dx H'
section
variable {X:Cx} {pins:List (Addr × Obj)} {σ:St} {H:Hp} {s s':Shared} {E:XK} {e:Value}
theorem CX2.behind (I:Inv X pins σ H s) (x:CX2 X.prog X.w X.stack H s E e s'):∃ a T cls a0 dx H',e = .ref a∧E cls dx H'∧DictAt s'.heap a dx∧s.heap.get? a = none∧H' a = none∧Inv X pins σ H' s' ∧
    Heap.FlyingW (PySem.W.hideAll s'.heap (a :: T :: frs X.stack)) X.stack a cls a0 s'.heap ∧
    ∀ h2 l',Heap.FlyingW (PySem.W.hideAll s'.heap (a :: T :: frs X.stack)) l' a cls a0 h2→s'.heap.UpToSlots h2 →
      ∃ T2,Inv X pins σ H' { s' with heap:=h2 }∧Trc h2 a T2 cls a0∧s.heap.get? T2 = none∧H' T2 = none∧Un (frs X.stack) [] H H' s.heap h2:=by
  obtain ⟨a,T,cls,a0,dx,H',rfl,os,bare,un,hok,fr,tr,da,q⟩:=x
  obtain ⟨a2,T2,c2,a02,H2,e2,⟨rfl,rfl⟩,sa,na,J,fl,back⟩:=CX1.behind (E:=fun c _ G=>c = cls∧G = H') I ⟨a,T,cls,a0,H',rfl,os,bare,un,hok,fr,tr,rfl,rfl⟩
  cases e2
  exact ⟨a,T2,_,a02,dx,_,rfl,q,da,sa,na,J,fl,back⟩
end
theorem pass2 {P:Program} {w:World} {K:PySem.W.Frag} {mg:Str→Option Value} {base:Heap} {N:List Str} {qual:Str} {scope:Scope} {f:Addr} {cd:Value} {A:Around} {outer:List Env} {s:Shared} {H:Hp} {E:XK} :
    Passes (CX2 P w) (cxOf (CX2 P w) P w K mg base N qual scope f cd A outer s H E) E:=by
  intro pins σ H1 s1 e s' I x
  obtain ⟨a,T,cls,a0,dx,H',rfl,q,da,sa,na,J,fl,back⟩:=CX2.behind I x
  refine wpAny_mono (wpAny_kept (safe_leaving _ _) (wpAny_leaves_onW (Q:=fun _ s2=>∃ h2,s2 = { s' with heap:=h2 }∧Heap.FlyingW (PySem.W.hideAll s'.heap (a :: T :: frs (envOfC qual scope s.heap.objs.size f cd :: outer))) outer a cls a0 h2∧s'.heap.UpToSlots h2)
    (L:=s.heap.objs.size) I.ok.frames rfl fl fun h2 f2 up=>⟨h2,rfl,f2,up⟩)) (fun _ s2 ⟨⟨h2,e2,f2,up⟩,kp⟩=>?_) fun _ _ z=>z
  subst e2
  obtain ⟨T2,J2,t2,sT2,nT2,_⟩:=back h2 _ f2 up
  have up0:∀ b,s1.heap.get? b = none→s.heap.get? b = none:=fun b z=>by
    cases q:s.heap.get? b with
    | none=>rfl
    | some o =>
      obtain ⟨o',r⟩:=I.base.there b o q (by show b ∉ ([]:List Addr); simp)
      rw [z] at r; cases r
  exact ⟨a,T2,cls,a0,dx,H',rfl,J2.os,J2.bare,J2.base,J2.hok,⟨up0 a sa,up0 T2 sT2,na,nT2⟩,t2,kp.dictAt da t2,q⟩
def CXn2 (P:Program) (w:World):CXT:=fun outer H s E e s' =>
  ∃ a cls a0 dx H',e = .ref a∧s'.os = s.os∧AllBare s'.gens∧Un (frs outer) [] H H' s.heap s'.heap∧HOk P w H' s'.heap ∧
    (s.heap.get? a = none∧H' a = none)∧Fre s'.heap a cls a0∧DictAt s'.heap a dx∧E cls dx H'
theorem throw2 {P:Program} {w:World} {K:PySem.W.Frag} {mg:Str→Option Value} {base:Heap} {N:List Str} {qual:Str} {scope:Scope} {f:Addr} {cd:Value} {A:Around} {outer:List Env} {s:Shared} {H:Hp} {E:XK} :
    Passes (CXn2 P w) (cxOf (CX2 P w) P w K mg base N qual scope f cd A outer s H E) E:=by
  intro pins σ H1 s1 e s' I x
  obtain ⟨a,cls,a0,dx,H',rfl,os,bare,un,hok,⟨sa,na⟩,⟨oe,vs,he,⟨hc,h0⟩,hd,hv⟩,da,q⟩:=x
  have J:Inv (cxOf (CX2 P w) P w K mg base N qual scope f cd A outer s H E) pins σ H' s':=I.call' (ch:=[]) os un hok bare (fun b z=>absurd z (by simp))
  subst hc
  refine wpAny_mono (wpAny_kept (safe_leaving _ _) (wpAny_leaving_firstW (Q:=fun _ s2=>∃ h2,s2 = { s' with heap:=h2 }∧Heap.LeftW (PySem.W.hideAll s'.heap (a :: a :: frs (envOfC qual scope s.heap.objs.size f cd :: outer))) (envOfC qual scope s.heap.objs.size f cd :: outer) a oe.cls a0 s'.heap h2) (L:=s.heap.objs.size) (a0:=a0) I.ok.frames
    (PySem.W.funFrames_hide J.stack fun env hm b hb=>.tail _ (.tail _ (List.mem_filterMap.mpr ⟨env,hm,hb⟩))) rfl he (fun b o q=>PySem.W.of_hideAll _ q) (PySem.W.hideAll_none _ (.head _)) hd hv h0 fun h2 L2=>⟨h2,rfl,L2⟩)) (fun _ s2 ⟨⟨h2,e2,k1,k2,k3,k4⟩,kp⟩=>?_) fun _ _ z=>z
  subst e2
  obtain ⟨T2,t2,hT2,kk,sl2⟩:=fly_back (T:=a) J.stack (show Heap.FlyingW _ _ a oe.cls a0 h2 from ⟨k1,PySem.W.hideAll_none _ (.head _),k2,k3⟩) k4
  have neT:T2 ≠ a:=by obtain ⟨_,_,_,_,_,_,_,_,z,_⟩:=t2; exact z
  have nT:s'.heap.get? T2 = none:=hT2.resolve_left neT
  have sT:s1.heap.get? T2 = none:=by
    cases q:s1.heap.get? T2 with
    | none=>rfl
    | some o =>
      obtain ⟨o',r⟩:=un.there T2 o q (by simp)
      rw [nT] at r; cases r
  have up0:∀ b,s1.heap.get? b = none→s.heap.get? b = none:=fun b z=>by
    cases q:s.heap.get? b with
    | none=>rfl
    | some o =>
      obtain ⟨o',r⟩:=I.base.there b o q (by show b ∉ ([]:List Addr); simp)
      rw [z] at r; cases r
  have J2:Inv (cxOf (CX2 P w) P w K mg base N qual scope f cd A outer s H E) pins σ H' { s' with heap:=h2 } :=
    I.call' (s':={ s' with heap:=h2 }) (ch:=[]) os (un_on un sa sa kk sl2) (hok_on hok na na J.stkFree kk) bare (fun b z=>absurd z (by simp))
  exact ⟨a,T2,oe.cls,a0,dx,H',rfl,J2.os,J2.bare,J2.base,J2.hok,⟨up0 a sa,up0 T2 sT,na,hok.empty nT⟩,t2,kp.dictAt da t2,q⟩
theorem Fun.ok2 {P:Program} {w:World} {K:PySem.W.Frag} {mg:Str→Option Value} {base:Heap} {x qual:Str} {st:Stmt} {f:Addr} {fd:FuncData} {N ps:List Str} {k:Nat} {sp:Sp} (F:Fun K x qual st f fd) (S:FnScope N ps (defScope st)) (len:∀ vs H Q E,sp vs H Q E→vs.length = ps.length)
    (hbody:∀ (cdv:Value) (A:Around) (outer:List Env) (s:Shared) (H:Hp) (vs:List V) (Q:VK) (E:XK),Room k (A.deeper (envOfC qual (defScope st) s.heap.objs.size f cdv))→sp vs H Q E →
      ∃ t,PSs (cxOf (CX2 P w) P w K mg base N qual (defScope st) f cdv A outer s H E) (defBody st) t∧t { nx:=fun _ H'=>Q .non H',rt:=Q } (start N vs) H):FnOk P w K mg base (CX2 P w) (k + 1) f fd ps sp:=by
  obtain ⟨oc,od,kV,doc,pm,an,cdv,ct,osl,rfl,lk,hcd⟩:=F.ex
  exact fn_of lk hcd S len fun A outer s H vs Q E hr hsp=>hbody cdv A outer s H vs Q E hr hsp
theorem own_pass {CX:CXT} {P:Program} {w:World} {K:PySem.W.Frag} {mg:Str→Option Value} {base:Heap} {N:List Str} {qual:Str} {scope:Scope} {f:Addr} {cd:Value} {A:Around} {outer:List Env} {s:Shared} {H:Hp} {E:XK} :
    PassesOwn (model P w) (cxOf CX P w K mg base N qual scope f cd A outer s H E).A (cxOf CX P w K mg base N qual scope f cd A outer s H E).env (cxOf CX P w K mg base N qual scope f cd A outer s H E).xe :=
  fun _ _ h=>wpAny_leaving_again (SameStack.refl _) h
def FreD (e C:Addr) (a0:Value) (dx:Addr):HO:=.ext fun h=>∃ oe vs,h.get? e = some oe∧(oe.cls = .ref C∧vs[0]? = some a0)∧oe.data = .fields vs∧vs[1]? = some .none∧oe.dict = some dx
abbrev withF (H:Hp) (e C:Addr) (a0:Value) (dx:Addr) (f:Str) (v:V):Hp:=upd (upd H e (FreD e C a0 dx)) dx (.xd [(f,v)])
section
variable {H:Hp} {e C dx b:Addr} {a0:Value} {f:Str} {v:V}
theorem withF_dx:withF H e C a0 dx f v dx = some (.xd [(f,v)]):=upd_same
theorem withF_e (h:dx ≠ e):withF H e C a0 dx f v e = some (FreD e C a0 dx):=(upd_ne (Ne.symm h)).trans upd_same
theorem withF_ne (h:b ≠ dx) (h':b ≠ e):withF H e C a0 dx f v b = H b:=(upd_ne h).trans (upd_ne h')
end
theorem ps_fldExc2 {X:Cx} {C:Addr} {f:Str} {o value:Expr} {ta tv:TE} {pos pos':Pos} (st:StoK X.K C f) (ha:PE X o ta) (hv:PE X value tv) (hs:swapsWith value (some (.Attribute o f pos')) pos.line X.env = pure false:=by rfl) :
    PS X (.Assign [.Attribute o f pos'] value pos) (fun D σ H=>tv σ H fun y H1=>ta σ H1 fun x H2=>∃ e a0,x = .ref e∧H2 e = some (FreN e C a0)∧∀ dx,H2 dx = none→D.nx σ (withF H2 e C a0 dx f y)):=by
  intro pins s σ H D I h
  refine plainObj_wpAny_Assign_Attribute (thn (hv pins s σ H _ I h) fun u s1 ⟨y,H1,I1,ry,q⟩=>thn (ha pins s1 σ H1 _ I1 q) fun ov s2 ⟨x,H2,I2,rx,e,a0,ex,he,q2⟩=>?_) hs
  subst ex
  obtain rfl:ov = Value.ref e:=rx
  obtain ⟨⟨oe,vs,hoe,⟨hcl,hv0⟩,hdt,hv1,hdn⟩,_,_⟩:=(show ObjOk X.prog X.w H2 s2.heap e (FreN e C a0) from I2.hok e _ he)
  refine setattr_exc I2.kIn st hoe hcl hdn hdt fun h' tk k hx' ns=>?_
  have sd:s2.heap.get? s2.heap.objs.size = none:=by
    cases q:s2.heap.get? s2.heap.objs.size with
    | none=>rfl
    | some o=>exact absurd (Heap.lt_size q) (Nat.lt_irrefl _)
  have nd:H2 s2.heap.objs.size = none:=I2.hok.empty sd
  have J:Inv X pins σ (upd H2 e (FreD e C a0 s2.heap.objs.size)) { s2 with heap:=h',toks:=tk }:=by
    refine I2.write (x:=e) (e:=e) (t':=tk) (by rw [he]; trivial) (.inl rfl) k ⟨_,hx'⟩ ?_
    exact ⟨⟨_,vs,hx',⟨hcl,hv0⟩,hdt,hv1,rfl⟩,⟨_,hx'⟩,fun h1 h2 ⟨o1,v1,e1,c1⟩ k=>⟨o1,v1,k o1 e1,c1⟩⟩
  have nb:∀ b,H2 b = none→b ≠ e:=fun b z y=>by rw [y,he] at z; cases z
  have un:Un (frs X.stack) [] H2 (upd H2 e (FreD e C a0 s2.heap.objs.size)) s2.heap h':=by
    refine ⟨fun b o q n hf hx=>k b o (nb b n) q,fun b o q n hf hx=>⟨o.slots,k b o (nb b n) q⟩,fun b o q n hx=>by rw [upd_ne (nb b n)]; exact n,fun b o q hx=>?_,fun b xs q=>?_,fun b u xs q=>?_,fun b ps q=>⟨#[],?_⟩⟩
    · by_cases hb:b = e
      · subst hb; exact ⟨_,hx'⟩
      · exact ⟨o,k b o hb q⟩
    · rw [upd_ne (fun z=>by rw [z,he] at q; cases q)]; exact q
    · rw [upd_ne (fun z=>by rw [z,he] at q; cases q)]; exact q
    · rw [Array.append_empty,upd_ne (fun z=>by rw [z,he] at q; cases q)]; exact q
  refine ⟨σ,_,Inv.track (o:=.xd [(f,y)]) I2 J un sd (by rw [upd_ne (nb _ nd)]; exact nd) (show ∃ mA,h'.Ns1 _ mA∧_ from ⟨_,ns,fun g=>?_⟩),q2 _ nd⟩
  by_cases hg:g = f
  · subst hg
    rw [if_pos rfl,List.lookup_cons_self]
    exact ry
  · rw [if_neg hg]
    have e:List.lookup g [(f,y)] = none:=by
      rw [List.lookup_cons,beq_eq_false_iff_ne.mpr hg]
      rfl
    rw [e]
    trivial
def spInit2 (C:Addr) (f:Str):Sp:=fun vs H Q _=>∃ e a0 v,vs = [.ref e,v]∧H e = some (FreN e C a0)∧∀ dx,H dx = none→Q .non (withF H e C a0 dx f v)
section
variable {X:Cx} {pins:List (Addr × Obj)} {σ:St} {H:Hp} {s s':Shared} {C fI e dx:Addr} {fd:FuncData} {k:Nat} {ps:List Str} {a0:Value} {f:Str} {v:V}
theorem after_init2 (I:Inv X pins σ H s) (hn:s.heap.get? e = none) (na:H e = none) (nd:upd H e (FreN e C a0) dx = none) {h1:Heap} (k1:∀ b o,s.heap.get? b = some o→h1.get? b = some o)
    (un:Un (frs X.stack) [] (upd H e (FreN e C a0)) (withF (upd H e (FreN e C a0)) e C a0 dx f v) h1 s'.heap) (hok:HOk X.prog X.w (withF (upd H e (FreN e C a0)) e C a0 dx f v) s'.heap) :
    H dx = none∧dx ≠ e∧Un (frs X.stack) [] H (upd H dx (.xd [(f,v)])) s.heap s'.heap∧HOk X.prog X.w (upd H dx (.xd [(f,v)])) s'.heap ∧
      ∃ oe vs,s'.heap.get? e = some oe∧(oe.cls = .ref C∧vs[0]? = some a0)∧oe.data = .fields vs∧vs[1]? = some .none∧oe.dict = some dx:=by
  have de:dx ≠ e:=fun z=>by rw [z,upd_same] at nd; cases nd
  have nd0:H dx = none:=by rw [upd_ne de] at nd; exact nd
  have off:∀ b o,s.heap.get? b = some o→b ≠ e:=fun b o q z=>by rw [z,hn] at q; cases q
  have offH:∀ b u,H b = some u→b ≠ e:=fun b u q z=>by rw [z,na] at q; cases q
  have offD:∀ b u,H b = some u→b ≠ dx:=fun b u q z=>by rw [z,nd0] at q; cases q
  have same:∀ b,b ≠ e→withF (upd H e (FreN e C a0)) e C a0 dx f v b = upd H dx (.xd [(f,v)]) b:=fun b z=>by
    by_cases hb:b = dx
    · rw [hb,withF_dx,upd_same]
    · rw [withF_ne hb z,upd_ne hb,upd_ne z]
  refine ⟨nd0,de,⟨fun b o q n hf hx=>?_,fun b o q n hf hx=>?_,fun b o q n hx=>?_,fun b o q hx=>un.there b o (k1 b o q) hx,fun b xs q=>?_,fun b u xs q=>?_,fun b ps q=>⟨#[],?_⟩⟩,fun b u q=>?_,?_⟩
  · exact un.keep b o (k1 b o q) (by rw [upd_ne (off b o q)]; exact n) hf hx
  · exact un.slot b o (k1 b o q) (by rw [upd_ne (off b o q)]; exact n) hf hx
  · have z:=un.free b o (k1 b o q) (by rw [upd_ne (off b o q)]; exact n) hx
    rw [same b (off b o q)] at z
    exact z
  · rw [upd_ne (offD b _ q)]; exact q
  · rw [upd_ne (offD b _ q)]; exact q
  · rw [Array.append_empty,upd_ne (offD b _ q)]; exact q
  · have hb:b ≠ e:=fun z=>by rw [z,upd_ne (Ne.symm de),na] at q; cases q
    refine (hok b u (by rw [same b hb]; exact q)).stay (fun _ _ _ z=>z) (fun c z=>?_) fun c xs z=>?_
    · have hc:c ≠ e:=fun y=>by rw [y,withF_e de] at z; cases z
      rw [same c hc] at z; exact z
    · have hc:c ≠ e:=fun y=>by rw [y,withF_e de] at z; cases z
      rw [same c hc] at z; exact z
  · obtain ⟨q,_,_⟩:=(show ObjOk X.prog X.w _ s'.heap e (FreD e C a0 dx) from hok e _ (withF_e de))
    exact q
theorem run_excI2 {E:XK} {u:Value} (kc:IniK X.K C fI) (FI:FnOk X.prog X.w X.K X.mg X.base CX0 k fI fd ps (spInit2 C f)) (hb:Binds X.K fd ps []) (hr:Room (k + 1) X.A) (I:Inv X pins σ H s) (ru:RelV v u) (q:∀ dx,H dx = none→E (.ref C) (some dx) (upd H dx (.xd [(f,v)]))) :
    wpAny (model X.prog X.w) X.A (call (.ref C) [u]) (fun r s'=>∃ e oe vs,r = .ref e∧s'.heap.get? e = some oe∧oe.cls = .ref C∧oe.data = .fields vs∧vs[1]? = some .none∧X.K.In s'.heap∧CXn2 X.prog X.w X.stack H s E (.ref e) s') X.xe s:=by
  refine make_excI I.kIn kc (by rw [sizeLine_eq]; simp) ?_
  have I2:Inv X pins σ H { s with heap:=laidE s.heap C [u] }:=I.kept (t':=s.toks) laidE_keeps
  have hn:s.heap.get? (s.heap.objs.size + 1) = none:=laidE_new
  have na:H (s.heap.objs.size + 1) = none:=I.hok.empty hn
  have he:(laidE s.heap C [u]).get? (s.heap.objs.size + 1) = some (bareE C s.heap.objs.size):=laidE_exc
  generalize s.heap.objs.size + 1 = e at hn na he ⊢
  have I3:Inv X pins σ (upd H e (FreN e C (.ref s.heap.objs.size))) { s with heap:=laidE s.heap C [u] } :=
    Inv.track I I2 (Un.kept laidE_keeps) hn na ⟨⟨_,_,he,⟨rfl,rfl⟩,rfl,rfl,rfl⟩,⟨_,he⟩,fun g1 g2 ⟨o1,v1,e1,c1⟩ kk=>⟨o1,v1,kk o1 e1,c1⟩⟩
  have hq:spInit2 C f [.ref e,v] (upd H e (FreN e C (.ref s.heap.objs.size))) (fun w H2=>∃ dx,upd H e (FreN e C (.ref s.heap.objs.size)) dx = none∧w = .non∧H2 = withF (upd H e (FreN e C (.ref s.heap.objs.size))) e C (.ref s.heap.objs.size) dx f v) (fun _ _ _=>True) :=
    ⟨e,_,v,rfl,upd_same,fun dx n=>⟨dx,n,rfl,rfl⟩⟩
  have hl:([Value.ref e,u] ++ []).length = ps.length:=FI.len _ _ _ _ hq
  refine wpAny_call (codeAny_mono (FI.run _ X.stack _ _ ⟨[.ref e,u],[]⟩ [.ref e,u] _ _ (fun _ _ _=>True) (hr.make C [u] []) (I3.env0.make C [u] []) (hb _ [.ref e,u] I3.kIn hl) (show Vals [V.ref e,v] [Value.ref e,u] from .cons rfl (.cons ru .nil)) hq) fun r s' hq'=>?_)
  cases r with
  | error _=>exact False.elim hq'
  | ok fl =>
    cases fl with
    | ret uu =>
      obtain ⟨_,_,os',bare',un',hok',rv,dx,nd,rfl,rfl⟩:=hq'
      obtain ⟨nd0,de,un2,hok2,oe,ws,hoe,hcl,hdt,hv1,hdx⟩:=after_init2 I hn na nd laidE_keeps un' hok'
      have I4:Inv X pins σ _ s':=I.call' (ch:=[]) os' un2 hok2 bare' (fun b z=>absurd z (by simp))
      exact ⟨rv,e,oe,ws,rfl,hoe,hcl.1,hdt,hv1,I4.kIn,e,.ref C,_,some dx,_,rfl,os',bare',un2,hok2,⟨hn,by rw [upd_ne (Ne.symm de)]; exact na⟩,⟨oe,ws,hoe,hcl,hdt,hv1⟩,⟨oe,hoe,hdx⟩,q dx nd0⟩
    | _=>exact False.elim hq'
end
theorem ps_raiseI2 {X:Cx} {C fI:Addr} {fd:FuncData} {k:Nat} {ps:List Str} {E:XK} {x f:Str} {np cpos pos:Pos} {e₀:Expr} {ta:TA} (kc:IniK X.K C fI)
    (FI:FnOk X.prog X.w X.K X.mg X.base CX0 k fI fd ps (spInit2 C f)) (hb:Binds X.K fd ps []) (hr:Room (k + 1) X.A) (ht:Passes (CXn2 X.prog X.w) X E) (hg:Gl X x) (hm:X.mg x = some (.ref C)) (ha:PA X [e₀] ta) (hcalm:X.calm = true:=by rfl)
    (he:starEach [e₀] X.env = (false,eval e₀ X.env) :: starEach [] X.env:=by rfl) (hpl:(backTo cpos (starEach [] X.env)).any (·.1) = false:=by rfl) (hd:(x == ("__debug__":Str)) = false:=by decide) :
    PS X (.Raise (some (.Call (.Name x np) [e₀] [] cpos)) none pos) (fun _ σ H=>ta σ H fun vs H1=>∃ v,vs = [v]∧∀ dx,H1 dx = none→E (.ref C) (some dx) (upd H1 dx (.xd [(f,v)]))):=by
  intro pins s σ H D I h
  rw [arm_exec_Raise]
  refine wpAny_bind (wpAny_standAt (raise_own (K:=X.K) kc (I.ok.hd hcalm) ?_))
  refine wpAny_bind (wpAny_Call_Name_kw (ld_glob I hg hm ?_ hd))
  refine PySem.W.callWith_K (h₀:=X.base) I.ok.mod.kin kc.kp (thn (ha cpos pins s σ H _ I h) fun us s1 ⟨vs,H1,I1,r,v,hv,q⟩=>⟨I1.kIn,?_⟩) he hpl
  subst hv
  obtain ⟨u,rfl,ru⟩:=vals1 r
  refine thn (run_excI2 (E:=E) kc FI hb hr I1 ru q) fun r s2 ⟨e,oe,ws,er,h1,h2,h3,h4,h5,h6⟩=>wpAny_bind (wpAny_standAt (wpAny_pure ?_))
  exact ⟨e,oe,ws,er,h1,h2,h3,h4,h5,ht pins σ H1 s1 _ _ I1 h6⟩
def ExcD (x D:Addr) (dx:Option Addr):HO:=.ext fun h=>∃ oe vs,h.get? x = some oe∧oe.cls = .ref D∧oe.data = .fields vs∧oe.dict = dx
end L2
end
section
namespace L2
open PySem PySem.Spec PySem.Calls PyProof.Rows PySem.W PySem.Builtin PySem.Builtin.ObjectAttr
theorem rc_cutB {K:PySem.W.Frag} {σ:St} {H:Hp} {t ta tb:TE} {ds:List D} {lo hi:Nat} (h:RL K t σ H ds) (h1:RE K ta σ H (.int lo)) (h2:RE K tb σ H (.int hi)):RC K (tSl (rSlL K) t (tPart ta) (tPart tb)) σ H ((ds.drop lo).take (hi - lo)):=fun H1 s Q q =>
  h H1 s _ fun v H2 s2 q2=>h1 H2 (s.trans s2) _ fun v3 H3 s3 q3=>⟨lo,q3.intE,h2 H3 (s.trans (s2.trans s3)) _ fun v4 H4 s4 q4=>⟨hi,q4.intE,by
    obtain ⟨a,vs,rfl,hq,hds⟩:=(s3.trans s4).ld q2
    refine ⟨a,vs,rfl,hq.sqL,fun p hp=>?_⟩
    rw [cut_nat]
    exact q p _ _ ((s2.trans (s3.trans s4)).free hp) (s2.trans (s3.trans (s4.trans (same_new hp _)))) upd_same ((same_new hp _).dats (Dats.takeN (Dats.dropN hds)))⟩⟩
def spAF (K:PySem.W.Frag) (f:Str) (R:List Ar→D→Prop) (B:List Ar→Addr→Int→Prop):Sp:=fun vs H Q E =>
  ∃ as,Ars K H as vs∧((∃ d,R as d∧∀ v H',Same H H'→Dat K H' d v→Q v H')∨∃ C i,B as C i∧∀ H' dx,Same H H'→H' dx = some (.xd [(f,.int i)])→E (.ref C) (some dx) H')
section
variable {K:PySem.W.Frag} {σ:St} {H:Hp} {tA:TA} {ar:List Ar} {d:D} {f:Str} {es:List D} {R:List Ar→D→Prop} {RL:List Ar→List D→Prop} {B:List Ar→Addr→Int→Prop} {E:XK} {Q:VK} {C:Addr} {i:Int}
theorem re_callAF (h:RB K tA σ H ar) (r:R ar d):RE K (tCall (spAF K f R B) [] E tA) σ H d:=fun H1 s Q q =>
  h H1 s _ fun vs H2 s2 q2=>⟨ar,by rw [List.append_nil]; exact q2,.inl ⟨d,r,fun v H3 s3 q3=>q _ _ (s2.trans s3) q3⟩⟩
theorem rx_callAF (h:RB K tA σ H ar) (r:B ar C i) (q:∀ H' dx,Same H H'→H' dx = some (.xd [(f,.int i)])→E (.ref C) (some dx) H'):tCall (spAF K f R B) [] E tA σ H Q :=
  h.use fun vs H2 s2 q2=>⟨ar,by rw [List.append_nil]; exact q2,.inr ⟨C,i,r,fun H3 dx s3=>q _ dx (s2.trans s3)⟩⟩
end
end L2
end
section
namespace L2
open PySem PySem.Spec PySem.Calls PyProof.Rows
abbrev revTO (t:Addr) (i:Int):Obj:={ cls:=.type "reversed",data:=.fields #[.ref t,rawInt i] }
theorem slot_rev_init:Slot "reversed" "__init__" "object.__init__":=.of (owner:="object") (n:="__init__") (by rw [typeLookup_type,builtinLookup_eq_fast]; kernel_rfl) (by decide +kernel) (by decide +kernel) (by decide +kernel) (by first | exact .inl (by decide +kernel) | exact .inr (by decide +kernel)) (by rw [isSubtype_type]; kernel_rfl)
theorem called_rev:TypeCalled "reversed" "reversed.__new__" "object.__init__":=⟨by decide +kernel,by decide +kernel,⟨_,_,PySem.F.mro_reversed⟩,PySem.F.made_reversed,by decide +kernel,PySem.F.sub_reversed_self,slot_rev_init⟩
theorem slot_rev_next:Slot "reversed" "__next__" "reversed.__next__":=.of (owner:="reversed") (n:="__next__") (by rw [typeLookup_type,builtinLookup_eq_fast]; kernel_rfl) (by decide +kernel) (by decide +kernel) (by decide +kernel) (by first | exact .inl (by decide +kernel) | exact .inr (by decide +kernel)) (by rw [isSubtype_type]; kernel_rfl)
theorem slot_rev_iter:Slot "reversed" "__iter__" "reversed.__iter__":=.of (owner:="reversed") (n:="__iter__") (by rw [typeLookup_type,builtinLookup_eq_fast]; kernel_rfl) (by decide +kernel) (by decide +kernel) (by decide +kernel) (by first | exact .inl (by decide +kernel) | exact .inr (by decide +kernel)) (by rw [isSubtype_type]; kernel_rfl)
theorem entry_rev_next:entryFor table "reversed.__next__" = some Builtin.«reversed.__next__»:=entryFor_of_tree (by kernel_rfl)
theorem entry_rev_iter:entryFor table "reversed.__iter__" = some Builtin.«dict_keyiterator.__iter__»:=entryFor_alias (id':="dict_keyiterator.__iter__") (by kernel_rfl) (by first | rfl | decide +kernel | (unfold String.splitOn; simp +decide [String.splitOnAux])) (by decide +kernel) (by kernel_rfl)
theorem owner_rev:Manifest.owners.lookup (String.ofList ['d','e','s','r','e','v','e','r'].reverse) = some Manifest.sig_reversed:=by kernel_rfl
theorem args_rev_next (a:Value):argsOk "reversed.__next__" ⟨[a],[]⟩:=by unfold argsOk; rw [signature?_of (id:="reversed.__next__") (n:=['_','_','t','x','e','n','_','_']) (o:=['d','e','s','r','e','v','e','r']) (by kernel_rfl) owner_rev]; kernel_rfl
theorem args_rev_iter (a:Value):argsOk "reversed.__iter__" ⟨[a],[]⟩:=by unfold argsOk; rw [signature?_of (id:="reversed.__iter__") (n:=['_','_','r','e','t','i','_','_']) (o:=['d','e','s','r','e','v','e','r']) (by kernel_rfl) owner_rev]; kernel_rfl
theorem tup_norev:typeLookup (.type "tuple") "__reversed__" = pure none:=by rw [typeLookup_type,builtinLookup_eq_fast]; kernel_rfl
theorem tup_nodict:isSubtype (.type "tuple") (.type "dict") = pure false:=by rw [isSubtype_type]; kernel_rfl
theorem tup_getitem:typeLookup (.type "tuple") "__getitem__" = pure (some (.builtin "tuple.__getitem__")):=by rw [typeLookup_type,builtinLookup_eq_fast]; kernel_rfl
theorem rev_newT (t:Addr) (items:Array Value) (n:Nat) (d2:Option Addr) (s2:Array (Option Value)) :
    Meets (Builtin.«reversed.__new__» ⟨[.type "reversed",.ref t],[]⟩) (fun _ R s=>s.heap.get? t = some { cls:=.type "tuple",dict:=d2,data:=.seq items n,slots:=s2 } ∧
      (items.size:Int) < 2 ^ 63∧R (.ok (.ret (.ref s.heap.objs.size))) { s with heap:=s.heap.push (revTO t ((items.size:Int) - 1)),toks:=s.toks + 2 }) :=
  .of_wp fun _ _ _ _ s q=>by
    obtain ⟨h0,g0,d0,t0,o0⟩:=s
    obtain ⟨a1,fit,q⟩:=q
    have isT:Heap.IsTuple (Shared.heap ⟨h0,g0,d0,t0,o0⟩) t items:=⟨_,a1,rfl,n,rfl⟩
    have self1:=PySem.F.sub_reversed_self
    wp_walk
    show wpAny _ _ (typeLookup (.type "tuple") "__reversed__") _ _ _
    rw [tup_norev]
    refine wpAny_pure ?_
    dsimp only
    wp_walk
    show wpAny _ _ (isSubtype (.type "tuple") (.type "dict")) _ _ _
    rw [tup_nodict]
    refine wpAny_pure ?_
    rw [if_neg (by decide)]
    wp_walk
    show wpAny _ _ (typeLookup (.type "tuple") "__getitem__") _ _ _
    rw [tup_getitem]
    refine wpAny_pure ?_
    dsimp only
    rw [if_pos (by decide +kernel)]
    refine wpAny_pure ?_
    rw [if_neg (by decide)]
    refine wpAny_bind ?_
    refine PyProof.Rows.len_tuple isT fit ?_
    wp_walk
    exact ⟨_,rfl,q⟩
theorem call_revT {prog:Program} {w:World} {A:Around} {E:Value→Shared→Prop} {s:Shared} {t:Addr} {items:Array Value} {Q:Value→Shared→Prop} (a1:s.heap.IsTuple t items) (fit:(items.size:Int) < 2 ^ 63)
    (q:Q (.ref s.heap.objs.size) { s with heap:=s.heap.push (revTO t ((items.size:Int) - 1)),toks:=s.toks + 2 }):wpAny (model prog w) A (call (.type "reversed") [.ref t]) Q E s:=by
  obtain ⟨⟨c2,d2,dt2,s2⟩,a1,hc,n,hd⟩:=a1
  obtain rfl:c2 = .type "tuple":=hc
  obtain rfl:dt2 = .seq items n:=hd
  refine callType_new called_rev (by decide) (PySem.F.typeCall_reversed_1 _) (PySem.F.newCall_reversed_1 _) (fun o=>PySem.F.args_object_init_2 o _) PySem.F.entry_reversed_new (rev_newT t items n d2 s2) ⟨a1,fit,?_⟩
  show _∧_
  exact ⟨⟨_,Heap.get?_push_at rfl rfl,rfl⟩,q⟩
end L2
end
section
namespace L2
open PySem PySem.Spec PySem.Calls PyProof.Rows
theorem sx {i n:Nat} (h:i < n):seqIndex? (i:Int) n = some i:=(ixN_seq (by unfold ixN; rw [if_pos (by omega),if_pos (by omega)]; rfl)).1
abbrev RIter (h:Heap) (it t:Addr) (i:Int):Prop:=h.get? it = some (revTO t i)
section
variable {prog:Program} {w:World} {A:Around} {E:Value→Shared→Prop} {s:Shared} {it t:Addr} {items:Array Value}
theorem rnext_item {i:Nat} {x:Value} {Q:Option Value→Shared→Prop} (a1:RIter s.heap it t i) (a2:s.heap.IsTuple t items) (fit:(items.size:Int) < 2 ^ 63) (hx:items[i]? = some x)
    (q:∀ h' tk,RIter h' it t ((i:Int) - 1)→Heap.SameBut it s.heap h'→Q (some x) { s with heap:=h',toks:=tk }):wpAny (model prog w) A (pyNext (.ref it)) Q E s:=by
  have ty:s.TypeIs (.ref it) "reversed":=⟨_,a1,rfl⟩
  have lt:i < items.size:=(Array.getElem?_eq_some_iff.mp hx).1
  unfold pyNext
  refine wpAny_bind (wpAny_attempt (wpAny_callSpecial?_slot (name:=Str.ofString "__next__") ty slot_rev_next (wpAny_call_entry slot_rev_next ty entry_rev_next ?_ (args_rev_next _))))
  obtain ⟨⟨c2,d2,dt2,s2⟩,b2,hc,n,hd⟩:=id a2
  obtain rfl:c2 = .type "tuple":=hc
  obtain rfl:dt2 = .seq items n:=hd
  obtain ⟨h0,g0,d0,t0,o0⟩:=s
  unfold RIter revTO rawInt at a1
  wp_walk
  show wpAny _ _ (typeLookup (.type "tuple") "__getitem__") _ _ _
  rw [tup_getitem]
  refine wpAny_pure ?_
  rw [if_neg (by decide)]
  refine wpAny_bind (wpAny_mkInt (wpAny_bind (wpAny_attempt ?_)))
  show wpAny _ _ (getItem (.ref t) (.int (i:Int) _)) _ _ _
  refine PyProof.Rows.getItem_tuple (j:=i) a2 (by omega) (by omega) (sx lt) hx ?_
  wp_walk
  exact ⟨x,rfl,wpAny_pure (q _ _ (Heap.get?_update_self _ a1 rfl) (Heap.SameBut.update ..))⟩
theorem rnext_done {Q:Option Value→Shared→Prop} (hh:A.handled = none) (a1:RIter s.heap it t (-1)) (q:∀ h',Heap.ExtBut it s.heap h'→Q none { s with heap:=h' }):wpAny (model prog w) A (pyNext (.ref it)) Q E s:=by
  have ty:s.TypeIs (.ref it) "reversed":=⟨_,a1,rfl⟩
  unfold pyNext
  refine wpAny_bind (wpAny_attempt (wpAny_callSpecial?_slot (name:=Str.ofString "__next__") ty slot_rev_next (wpAny_call_entry slot_rev_next ty entry_rev_next ?_ (args_rev_next _))))
  obtain ⟨h0,g0,d0,t0,o0⟩:=s
  unfold RIter revTO rawInt at a1
  wp_walk
  refine wpAny_raiseNew_none hh ?_
  refine wpAny_bind (wpAny_isInstance (T:="StopIteration") (b:=true) ⟨_,Heap.get?_push_size _ rfl,rfl⟩ isSubtype_stop (wpAny_pure (q _ fun b o hb e=>?_)))
  exact Heap.get?_push_of_some _ (Heap.get?_push_of_some _ ((Heap.get?_update_ne _ _ _ _ hb).trans ((Heap.get?_update_ne _ _ _ _ hb).trans e)))
theorem rev_iter {i:Int} {Q:Value→Shared→Prop} (a1:RIter s.heap it t i) (h:Q (.ref it) s):wpAny (model prog w) A (pyIter (.ref it)) Q E s:=by
  have ty:s.TypeIs (.ref it) "reversed":=⟨_,a1,rfl⟩
  refine wpAny_pyIter_slot ty slot_rev_iter (wpAny_call_entry slot_rev_iter ty entry_rev_iter ?_ (args_rev_iter _))
  show wpAny _ _ (ret (.ref it)) _ _ s
  exact wpAny_pure ⟨_,rfl,"reversed",_,ty,slot_rev_next.lookup,h⟩
end
def Itw (K:PySem.W.Frag) (a:Addr) (xs:List V):It:=⟨fun i H=>i < xs.length∧SqT K H a xs,fun i H x H'=>H' = H∧xs[xs.length - 1 - i]? = some x,fun i _=>i = xs.length⟩
theorem turn_revT {P:Program} {w:World} {K:PySem.W.Frag} {tg:Expr} (a it:Addr) (xs:List V):Turn P w K tg (Itw K a xs) [it] it (fun i h=>RIter h it a ((xs.length:Int) - 1 - (i:Int))) where
  mem:=by simp
  obj:=fun i h st b hb=>by
    have e:b = it:=by simpa using hb
    subst e
    exact ⟨_,st,fun v z=>by cases z⟩
  keep:=fun i h h' st k=>k it (by simp) _ st
  item:=by
    intro X hP hw hK hc i pins s σ H E I hf st hg
    subst hP hw hK
    obtain ⟨hi,hq⟩:=hg
    obtain ⟨its,rv,p,hz⟩:=I.tuple hq
    obtain ⟨f0,f1,f2,f3,f4,f5⟩:=hf it (by simp)
    have lr:=rv.length
    have hx:xs[xs.length - 1 - i]? = some (xs[xs.length - 1 - i]'(by omega)):=List.getElem?_eq_getElem (by omega)
    obtain ⟨u,hu,ru⟩:=rv.get hx
    have e1:(xs.length:Int) - 1 - (i:Int) = ((xs.length - 1 - i:Nat):Int):=by omega
    rw [e1] at st
    refine rnext_item st p (by rw [List.size_toArray]; rw [sizeLine_eq] at hz; omega) (x:=u) (by simpa using hu) fun h' tk st' sb=>?_
    have e2:((xs.length - 1 - i:Nat):Int) - 1 = (xs.length:Int) - 1 - ((i + 1:Nat):Int):=by omega
    rw [e2] at st'
    have I1:Inv X pins σ H { s with heap:=h',toks:=tk }:=I.turned (t':=tk) (fun b o hb e=>(sb.2 b hb).trans e) f0 f1 f3 f4 f5
    exact ⟨u,rfl,go_of (s:={ s with heap:=h',toks:=tk }) st' rfl rfl (by decide) ⟨_,H,I1,ru,⟨rfl,hx⟩,st',fun b hb=>(hf b hb).1⟩⟩
  done:=by
    intro X hP hw hK hc i pins s σ H E I hf st hg
    subst hP hw hK
    obtain ⟨f0,f1,f2,f3,f4,f5⟩:=hf it (by simp)
    have hg':i = xs.length:=hg
    subst hg'
    have e1:(xs.length:Int) - 1 - (xs.length:Int) = -1:=by omega
    rw [e1] at st
    exact rnext_done (I.ok.hd hc) st fun h' eb=>⟨rfl,I.turned (t':=s.toks) (fun b o hb e=>eb b o hb e) f0 f1 f3 f4 f5⟩
  self:=fun A i s Q E st q=>rev_iter st q
section
variable {X:Cx} {tg:Expr}
def iRevT (K:PySem.W.Frag) (ta:TA):TI:=fun σ H R=>ta σ H fun vs H1=>∃ a xs,vs = [.ref a]∧SqT K H1 a xs∧R (Itw K a xs) H1
theorem pi_revT {a:Expr} {ta:TA} {p pos:Pos} (hg:Gl X "reversed") (hm:X.mg "reversed" = none) (ha:PA X [a] ta) (hs:starEach [a] X.env = [(false,eval a X.env)]:=by rfl):PI X tg (.Call (.Name "reversed" p) [a] [] pos) (iRevT X.K ta):=by
  intro pins s σ H R I h
  refine Call_ (ld_blt I hg hm bo_reversed (PyProof.Rows.callWith_type1 (thn (ha pos pins s σ H _ I h) fun us s1 ⟨vs,H1,I1,r1,q1⟩=>?_) hs rfl))
  obtain ⟨l,xs,e,hq,q⟩:=q1
  subst e
  obtain ⟨u,rfl,ru⟩:=vals1 r1
  cases ru
  obtain ⟨its,rv,pl,hz⟩:=I1.tuple hq
  have lr:=rv.length
  refine call_revT pl (by rw [List.size_toArray]; rw [sizeLine_eq] at hz; omega) ?_
  have ez:((its.toArray.size:Nat):Int) - 1 = (xs.length:Int) - 1 - ((0:Nat):Int):=by rw [List.size_toArray,lr]; omega
  rw [ez]
  have st:RIter (s1.heap.push (revTO l ((xs.length:Int) - 1 - ((0:Nat):Int)))) s1.heap.objs.size l ((xs.length:Int) - 1 - ((0:Nat):Int)):=Heap.get?_push_size _ rfl
  refine rev_iter (s:={ s1 with heap:=s1.heap.push (revTO l ((xs.length:Int) - 1 - ((0:Nat):Int))),toks:=s1.toks + 2 }) st ?_
  refine ⟨s1.heap.objs.size,[s1.heap.objs.size],_,_,H1,rfl,I1.kept (t':=s1.toks + 2) fun b o e=>Heap.get?_push_of_some _ e,turn_revT l _ xs,st,fun b hb=>?_,q⟩
  have e:b = s1.heap.objs.size:=by simpa using hb
  subst e
  exact I1.fpOk (Nat.le_refl _) (I1.hok.fresh (Nat.le_refl _))
end
theorem for_revT {K:PySem.W.Frag} {a:Addr} {xs:List V} {g:TG} {tb:TS} {D:Ends} {σ:St} {H:Hp} (Pv:Nat→St→Hp→Prop) (h0:Pv 0 σ H) (hl:∀ i σ H,i ≤ xs.length→Pv i σ H→SqT K H a xs)
    (hs:∀ i x σ H,i < xs.length→xs[xs.length - 1 - i]? = some x→Pv i σ H→g x σ H fun σ2 H2=>tb { D with nx:=Pv (i + 1),ct:=Pv (i + 1),bk:=D.nx } σ2 H2) (hd:∀ σ H,Pv xs.length σ H→D.nx σ H) :
    ∃ W:Nat→Nat→St→Hp→Prop,(∃ m,W 0 m σ H)∧∀ i m σ H,W i m σ H →
      ((Itw K a xs).stop i H∧D.nx σ H)∨((Itw K a xs).go i H∧∃ N:St→Hp→Prop,(∀ σ' H',N σ' H'→∃ m',m' < m∧W (i + 1) m' σ' H')∧∀ x H',(Itw K a xs).yld i H x H'→g x σ H' fun σ2 H2=>tb { D with nx:=N,ct:=N,bk:=D.nx } σ2 H2):=by
  refine ⟨fun i m σ H=>m = xs.length - i∧i ≤ xs.length∧Pv i σ H,⟨xs.length,by simp,Nat.zero_le _,h0⟩,?_⟩
  rintro i m σ H ⟨rfl,hi,p⟩
  have q:=hl i σ H hi p
  by_cases hlt:i < xs.length
  · refine .inr ⟨⟨hlt,q⟩,Pv (i + 1),fun σ' H' p'=>⟨xs.length - (i + 1),by omega,rfl,hlt,p'⟩,fun x H' y=>?_⟩
    obtain ⟨e,y⟩:=y
    subst e
    exact hs i x σ _ hlt y p
  · have e:i = xs.length:=by omega
    subst e
    exact .inl ⟨rfl,hd σ H p⟩
end L2
end
section
namespace L2
open PySem PySem.Spec PySem.Calls PyProof.Rows
structure Landed (X:Cx) (pins:List (Addr × Obj)) (σ:St) (H:Hp) (a:Addr) (cls:Value) (dx:Option Addr) (s:Shared):Prop where
  ok:X.Ok
  inv:Inv X pins σ H s
  ty:PySem.W.Looks (model X.prog X.w) s.heap (typeOf (.ref a)) cls
  na:H a = none
  again:∀ (A:Around) (Q:Unit→Shared→Prop) (E:Value→Shared→Prop),(∀ h',Inv X pins σ H { s with heap:=h' }→(∀ Dx,cls = .ref Dx→Inv X pins σ (upd H a (ExcD a Dx dx)) { s with heap:=h' }∧Inv X pins σ (upd H a (ExcO a Dx)) { s with heap:=h' })→Q () { s with heap:=h' })→wpAny (model X.prog X.w) A (setFlight (.ref a) none) Q E s
theorem land2 {X:Cx} {pins pins':List (Addr × Obj)} {σ:St} {H1:Hp} {s1 s2:Shared} {E:XK} {e:Value} {xe E':Value→Shared→Prop} {R:Shared→Prop} (ok:X.Ok) (I1:Inv { X with pn:=X.pn ++ pins,xe:=xe } pins' σ H1 s1) (x1:CX2 X.prog X.w X.stack H1 s1 E e s2)
    (hR:∀ a cls dx H' s',e = .ref a→E cls dx H'→Landed X pins σ H' a cls dx s'→R s') (hst:X.stack = X.env :: X.outer:=by rfl) (hfr:X.env.frame = some X.env.locals:=by rfl) :
    wpAny (model X.prog X.w) X.A (noteFrame e X.env) (fun _ s₂=>wpAny (model X.prog X.w) X.A (setFlight e none) (fun _ s₃=>R s₃) E' s₂) E' s2:=by
  obtain ⟨a,T,cls,a0,dx,H',rfl,q,da,sa,na,J,fl,back⟩:=CX2.behind I1 x1
  have fr:X.A.frames = some (X.env :: X.outer):=by rw [← hst]; exact ok.frames
  refine wpAny_mono (wpAny_kept (safe_note _ _) (wpAny_looks_onW (Q:=fun _ s4=>∃ h4,s4 = { s2 with heap:=h4 }∧Heap.HeldW (PySem.W.hideAll s2.heap (a :: T :: frs X.stack)) (X.env :: X.outer) a cls a0 X.env.locals h4∧s2.heap.UpToSlots h4) fr hfr (by rw [← hst]; exact fl) fun h4 held up4=>⟨h4,rfl,held,up4⟩))
    (fun _ s4 ⟨⟨h4,e4,held,up4⟩,kp4⟩=>?_) fun _ _ z=>z
  subst e4
  refine wpAny_mono (wpAny_kept (safe_flight _ _) (wpAny_landsW (Q:=fun _ s5=>∃ h5,s5 = { s2 with heap:=h5 }∧Heap.FlyingW (PySem.W.hideAll s2.heap (a :: T :: frs X.stack)) (X.env :: X.outer) a cls a0 h5∧h4.UpToSlots h5) held fun h5 fl5 up5=>⟨h5,rfl,fl5,up5⟩))
    (fun _ s5 ⟨⟨h5,e5,fl5,up5⟩,kp5⟩=>?_) fun _ _ z=>z
  subst e5
  obtain ⟨T5,J5,t5,sT5,nT5,_⟩:=back h5 _ fl5 (up4.trans up5)
  have da5:DictAt h5 a dx:=(kp4.trans kp5).dictAt da t5
  have LT:PySem.W.Looks (model X.prog X.w) h5 (typeOf (.ref a)) cls:=by
    obtain ⟨oe,vs,oT,ts,he,⟨hc,_⟩,_⟩:=t5
    rw [← hc]
    exact (PySem.W.Looks.ld he).andThen .now
  refine hR a cls dx H' _ rfl q ⟨ok,J5.outTry ok,LT,na,fun A Q E2 hQ=>?_⟩
  refine wpAny_mono (wpAny_kept (safe_flight _ _) (lands_againW (Q:=fun _ s6=>∃ h6,s6 = { s2 with heap:=h6 }∧Heap.FlyingW (PySem.W.hideAll s2.heap (a :: T :: frs X.stack)) (X.env :: X.outer) a cls a0 h6∧h5.UpToSlots h6) fl5 fun h6 fl6 up6=>⟨h6,rfl,fl6,up6⟩))
    (fun _ s6 ⟨⟨h6,e6,fl6,up6⟩,kp6⟩=>?_) fun _ _ z=>z
  subst e6
  obtain ⟨T6,J6,t6,_,_,un6⟩:=back h6 _ fl6 ((up4.trans up5).trans up6)
  have da6:DictAt h6 a dx:=Kept.dictAt kp6 da5 t6
  refine hQ h6 (J6.outTry ok) fun Dx hD=>?_
  subst hD
  obtain ⟨oe,vs,oT,ts,he,⟨hc,_⟩,hdt,_⟩:=t6
  obtain ⟨oe2,he2,hdx⟩:=da6
  rw [he] at he2
  cases he2
  refine ⟨Inv.track (s:=s1) (H:=H1) (I1.outTry ok) (J6.outTry ok) un6 sa na ?_,Inv.track (s:=s1) (H:=H1) (I1.outTry ok) (J6.outTry ok) un6 sa na ?_⟩
  · exact ⟨⟨oe,vs,he,hc,hdt,hdx⟩,⟨oe,he⟩,fun h1 h2 ⟨o1,v1,e1,c1⟩ k=>⟨o1,v1,k o1 e1,c1⟩⟩
  · exact ⟨⟨oe,he,hc⟩,⟨oe,he⟩,fun h1 h2 ⟨o1,e1,c1⟩ k=>⟨o1,k o1 e1,c1⟩⟩
section
variable {X:Cx} {pins:List (Addr × Obj)} {σ:St} {H:Hp} {a:Addr} {cls C:Value} {dx:Option Addr} {s:Shared} {D:Ends} {x n:Str} {i:Nat} {np hpos:Pos} {b₀:Stmt} {suite:List Stmt} {rest:List ExceptHandler} {th:TS} {b:Bool}
theorem hand_asO (L:Landed X pins σ H a cls dx s) (hg:Gl X x) (hm:X.mg x = some C) (hN:X.N.Nodup) (hi:X.N[i]? = some n) (hl:X.env.kindOf n = some .local) (hh:∀ e:Value,PSs (X.hand e) (b₀ :: suite) th) (hx:PySem.W.exmOne X.K cls C = some b)
    (h1:b = true→∃ Dx,cls = .ref Dx∧th (D.gone i) (σ.set i (some (.ref a))) (upd H a (ExcO a Dx))) (h2:b = false→wpAny (model X.prog X.w) X.A (handleBy (.ref a) X.env rest) (SP X pins D) X.xe s) (hd:(x == ("__debug__":Str)) = false:=by decide) :
    wpAny (model X.prog X.w) X.A (handleBy (.ref a) X.env (.ExceptHandler (some (.Name x np)) (some n) (b₀ :: suite) hpos :: rest)) (SP X pins D) X.xe s:=by
  refine wpAny_handleBy_cons (codeAny_handlers_test (ld_glob (X:=X.hand (.ref a)) L.inv.hand hg hm ?_ hd)) (by intro q; cases q)
  refine (PySem.W.exm_one L.inv.kIn L.ty hx).here ?_
  cases b with
  | false=>exact h2 rfl
  | true =>
    obtain ⟨Dx,hD,q⟩:=h1 rfl
    refine codeAny_handlers_suite_as (L.again _ _ _ fun h6 J6 I6=>?_)
    refine store_ok (X:=X.hand (.ref a)) (v:=.ref a) ((I6 Dx hD).2.hand (e:=.ref a)) hN hi (.inl hl) rfl (fun s7 I7=>?_) (.inr hl)
    refine wpAny_mono (hh (.ref a) pins s7 _ _ (D.gone i) I7 q) (fun f s3 hs=>?_) (fun _ _ z=>z.elim)
    cases f with
    | next=>obtain ⟨σ3,H3,I3,q3⟩:=hs; exact Inv.gone (I3.unhand L.ok) hN hi hl fun s' J'=>⟨_,H3,J',q3⟩
    | brk=>obtain ⟨σ3,H3,I3,q3⟩:=hs; exact Inv.gone (I3.unhand L.ok) hN hi hl fun s' J'=>⟨_,H3,J',q3⟩
    | cont=>obtain ⟨σ3,H3,I3,q3⟩:=hs; exact Inv.gone (I3.unhand L.ok) hN hi hl fun s' J'=>⟨_,H3,J',q3⟩
    | ret u=>obtain ⟨v,σ3,H3,I3,r3,q3⟩:=hs; exact Inv.gone (I3.unhand L.ok) hN hi hl fun s' J'=>⟨v,_,H3,J',r3,q3⟩
theorem hand_pl (L:Landed X pins σ H a cls dx s) (hg:Gl X x) (hm:X.mg x = some C) (hh:∀ e:Value,PSs (X.hand e) (b₀ :: suite) th) (hx:PySem.W.exmOne X.K cls C = some b)
    (h1:b = true→th D σ H) (h2:b = false→wpAny (model X.prog X.w) X.A (handleBy (.ref a) X.env rest) (SP X pins D) X.xe s) (hd:(x == ("__debug__":Str)) = false:=by decide) :
    wpAny (model X.prog X.w) X.A (handleBy (.ref a) X.env (.ExceptHandler (some (.Name x np)) none (b₀ :: suite) hpos :: rest)) (SP X pins D) X.xe s:=by
  refine wpAny_handleBy_cons (codeAny_handlers_test (ld_glob (X:=X.hand (.ref a)) L.inv.hand hg hm ?_ hd)) (by intro q; cases q)
  refine (PySem.W.exm_one L.inv.kIn L.ty hx).here ?_
  cases b with
  | false=>exact h2 rfl
  | true =>
    refine codeAny_handlers_suite (L.again _ _ _ fun h6 J6 _=>?_)
    refine wpAny_mono (hh (.ref a) pins _ σ H D J6.hand (h1 rfl)) (fun f s3 hs=>?_) (fun _ _ z=>z.elim)
    cases f with
    | next=>obtain ⟨σ3,H3,I3,q3⟩:=hs; exact ⟨σ3,H3,I3.unhand L.ok,q3⟩
    | brk=>obtain ⟨σ3,H3,I3,q3⟩:=hs; exact ⟨σ3,H3,I3.unhand L.ok,q3⟩
    | cont=>obtain ⟨σ3,H3,I3,q3⟩:=hs; exact ⟨σ3,H3,I3.unhand L.ok,q3⟩
    | ret u=>obtain ⟨v,σ3,H3,I3,r3,q3⟩:=hs; exact ⟨v,σ3,H3,I3.unhand L.ok,r3,q3⟩
end
theorem ps_tryG {X:Cx} {body:List Stmt} {t:(St→XK)→TS} {hs:List ExceptHandler} {pos:Pos} {E:Ends→St→XK}
    (hb:∀ (pn:List (Addr × Obj)) (xe:Value→Shared→Prop) (E:St→XK),PassesS (CX2 X.prog X.w) { X with pn:=pn,xe:=xe } E→PSs { X with pn:=pn,xe:=xe } body (t E))
    (hand:∀ (pins:List (Addr × Obj)) (D:Ends) (σ:St) (H:Hp) (a:Addr) (cls:Value) (dx:Option Addr) (s:Shared),Landed X pins σ H a cls dx s→E D σ cls dx H→wpAny (model X.prog X.w) X.A (handleBy (.ref a) X.env hs) (SP X pins D) X.xe s)
    (hst:X.stack = X.env :: X.outer:=by rfl) (hfr:X.env.frame = some X.env.locals:=by rfl) (hne:∃ h t,hs = h :: t) :
    PS X (.Try body hs [] [] pos) (fun D σ H=>t (E D) D σ H):=by
  intro pins s σ H D I h
  obtain ⟨h0,t0,rfl⟩:=hne
  refine wpAny_Try_except (wpAny_mono (hb (X.pn ++ pins) (fun e s₁=>wpAny (model X.prog X.w) X.A (noteFrame e X.env) (fun _ s₂=>wpAny (model X.prog X.w) X.A (setFlight e none) (fun _ s₃ =>
    wpAny (model X.prog X.w) X.A (handleBy e X.env (h0 :: t0)) (SP X pins D) X.xe s₃) X.xe s₂) X.xe s₁) _ ?_ [] s σ H D I.inTry h) (fun f s1 hf=>?_) fun e s1 z=>z)
  · intro pins' σ' H1 s1 e s2 I1 x1
    refine land2 I.ok I1 x1 (fun a cls dx H' s' he q L=>?_) hst hfr
    subst he
    exact hand pins D σ' H' a cls dx s' L q
  · cases f with
    | next=>obtain ⟨σ3,H3,I3,q3⟩:=hf; exact pss_nil pins s1 σ3 H3 D (I3.outTry I.ok) q3
    | brk=>obtain ⟨σ3,H3,I3,q3⟩:=hf; exact ⟨σ3,H3,I3.outTry I.ok,q3⟩
    | cont=>obtain ⟨σ3,H3,I3,q3⟩:=hf; exact ⟨σ3,H3,I3.outTry I.ok,q3⟩
    | ret u=>obtain ⟨v,σ3,H3,I3,r3,q3⟩:=hf; exact ⟨v,σ3,H3,I3.outTry I.ok,r3,q3⟩
theorem ps_try2 {X:Cx} {body:List Stmt} {t:(St→XK)→TS} {th:TS} {x:Str} {C:Value} {np hpos pos:Pos} {b₀:Stmt} {suite:List Stmt}
    (hb:∀ (pn:List (Addr × Obj)) (xe:Value→Shared→Prop) (E:St→XK),PassesS (CX2 X.prog X.w) { X with pn:=pn,xe:=xe } E→PSs { X with pn:=pn,xe:=xe } body (t E))
    (hg:Gl X x) (hm:X.mg x = some C) (hh:∀ e:Value,PSs (X.hand e) (b₀ :: suite) th)
    (hst:X.stack = X.env :: X.outer:=by rfl) (hfr:X.env.frame = some X.env.locals:=by rfl) (hd:(x == ("__debug__":Str)) = false:=by decide) :
    PS X (.Try body [.ExceptHandler (some (.Name x np)) none (b₀ :: suite) hpos] [] [] pos) (fun D σ H=>t (fun σ' cls _ H'=>PySem.W.exmOne X.K cls C = some true∧th D σ' H') D σ H) :=
  ps_tryG (E:=fun D σ' cls _ H'=>PySem.W.exmOne X.K cls C = some true∧th D σ' H') hb (fun _ _ _ _ _ _ _ _ L q=>hand_pl L hg hm hh q.1 (fun _=>q.2) (fun z=>nomatch z) hd) hst hfr ⟨_,_,rfl⟩
theorem ps_tryAsO {X:Cx} {body:List Stmt} {t:(St→XK)→TS} {th:TS} {x n:Str} {i:Nat} {C:Value} {np hpos pos:Pos} {b₀:Stmt} {suite:List Stmt}
    (hb:∀ (pn:List (Addr × Obj)) (xe:Value→Shared→Prop) (E:St→XK),PassesS (CX2 X.prog X.w) { X with pn:=pn,xe:=xe } E→PSs { X with pn:=pn,xe:=xe } body (t E))
    (hg:Gl X x) (hm:X.mg x = some C) (hN:X.N.Nodup) (hi:X.N[i]? = some n) (hl:X.env.kindOf n = some .local) (hh:∀ e:Value,PSs (X.hand e) (b₀ :: suite) th)
    (hst:X.stack = X.env :: X.outer:=by rfl) (hfr:X.env.frame = some X.env.locals:=by rfl) (hd:(x == ("__debug__":Str)) = false:=by decide) :
    PS X (.Try body [.ExceptHandler (some (.Name x np)) (some n) (b₀ :: suite) hpos] [] [] pos)
      (fun D σ H=>t (fun σ' cls _ H'=>PySem.W.exmOne X.K cls C = some true∧∃ Dx,cls = .ref Dx∧∀ a,H' a = none→th (D.gone i) (σ'.set i (some (.ref a))) (upd H' a (ExcO a Dx))) D σ H) :=
  ps_tryG (E:=fun D σ' cls _ H'=>PySem.W.exmOne X.K cls C = some true∧∃ Dx,cls = .ref Dx∧∀ a,H' a = none→th (D.gone i) (σ'.set i (some (.ref a))) (upd H' a (ExcO a Dx))) hb (fun _ _ _ _ a _ _ _ L q=>hand_asO L hg hm hN hi hl hh q.1 (fun _=>q.2.elim fun Dx h=>⟨Dx,h.1,h.2 a L.na⟩) (fun z=>nomatch z) hd) hst hfr ⟨_,_,rfl⟩
theorem ps_raise2 {X:Cx} {C:Addr} {E:XK} {x:Str} {np cpos pos:Pos} {e₀:Expr} {rest:List Expr} {ta:TA} {B Bn newId nid initId inN:String} {bmB bmN:List Value}
    (Fn:ExcBaseFacts Bn newId inN bmN) (hBn:bmB.contains (.type Bn) = true) (F:ExcBaseFacts B nid initId bmB) (hc:excAt X.K C bmB newId none = true)
    (ht:Passes (CXn2 X.prog X.w) X E) (hg:Gl X x) (hm:X.mg x = some (.ref C)) (ha:PA X (e₀ :: rest) ta) (hcalm:X.calm = true:=by rfl)
    (he:starEach (e₀ :: rest) X.env = (false,eval e₀ X.env) :: starEach rest X.env:=by rfl)
    (hplain:(backTo cpos (starEach rest X.env)).any (·.1) = false:=by rfl) (hd:(x == ("__debug__":Str)) = false:=by decide) :
    PS X (.Raise (some (.Call (.Name x np) (e₀ :: rest) [] cpos)) none pos) (fun _ σ H=>ta σ H fun vs H1=>vs.length ≤ sizeLine∧E (.ref C) none H1):=by
  intro pins s σ H D I h
  obtain ⟨bm,N,nm,qn,bs,hdd,sn,sub,ab,col,dd,k0,k1,k2,k3,k5,mN,hC,hN,hni,T⟩:=exc_of I.mod.kin hc
  refine wpAny_Raise_call_subU (C:=C) (nm:=nm) (q:=qn) (N:=N) (bs:=bs) (bm:=bm) (hdct:=hdd) (sn:=sn) (sub:=sub) (ab:=ab) (col:=col) (dd:=dd) (k0:=k0) (k1:=k1) (k2:=k2) (k3:=k3) (k5:=k5)
    Fn hBn F (mN:=mN) (T.hasType F.hasBase) (I.ok.hd hcalm) (by rw [he]; show (false || (backTo cpos (starEach rest X.env)).any (·.1)) = false; rw [hplain]; rfl) hni (ld_glob I hg hm ⟨rfl,?_⟩ hd)
  have w:=ha cpos pins s σ H _ I h
  rw [he] at w ⊢
  refine Calls.evalArgs_plain (thn w fun us s2 ⟨vs,H1,I1,r,z,q⟩=>⟨rfl,by rw [← r.length]; exact z,I1.bk _ _ hC,hN.keeps I1.bk,T.keeps I1.bk,fun h' e hm=>?_⟩)
  obtain ⟨t,h1,h2,h3⟩:=hm.there
  exact ht pins σ H1 s2 _ _ I1 ⟨e,.ref C,.ref t,none,H1,rfl,rfl,I1.bare,Un.kept hm.keeps,I1.hok.kept hm.keeps,⟨hm.new,I1.hok.empty hm.new⟩,⟨_,_,h1,⟨rfl,rfl⟩,rfl,rfl⟩,⟨_,h1,rfl⟩,q⟩
theorem pe_meth0S {X:Cx} {CX:CXT} {k:Nat} {f C:Addr} {fd:FuncData} {ps:List Str} {sp:Sp} {dvs:List V} {ds:List Value} {E:St→XK} {m:Str} {pos apos:Pos} {o:Expr} {ta:TE} {pl:Sem Bool} (he:PE X o ta) (c:Cls X.K C) (hm:Meth X.K C m f) (F:FnOk X.prog X.w X.K X.mg X.base CX k f fd ps sp) (hr:Room k X.A) (hb:Binds X.K fd ps ds) (hd:Vals dvs ds) (hx:PassesS CX X E)
    (ht:eval (.Call (.Attribute o m apos) [] [] pos) X.env = (do
      let ov ← eval o X.env
      standAt apos.atName
      let (f,first) ← holding [ov] (getMethod ov m pl)
      callWith pos f first (backTo pos (starEach [] X.env)) (backToKw pos (keywordEach [] X.env))):=by rfl) :
    PE X (.Call (.Attribute o m apos) [] [] pos) (fun σ=>tMeth C m sp dvs (E σ) ta tNil σ):=by
  intro pins s σ H Q I h
  refine PySem.W.methodCall_KW (pl:=pl) (thn (he pins s σ H _ I h) fun u s1 ⟨x,H1,I1,rx,a,dx,fs,ex,ea,l,q⟩=>?_) ht
  subst ex
  obtain rfl:u = Value.ref a:=rx
  refine getmeth_ok I1 ea c hm l ?_
  exact PySem.W.callWith_K0 (first:=[.ref a]) I1.kIn hm.kp (run_fnS (us:=[.ref a]) (vs:=[.ref a]) F hr hb hd hx I1 (.cons rfl .nil) q)
theorem FunD.ok2 {P:Program} {w:World} {K:PySem.W.Frag} {mg:Str→Option Value} {base:Heap} {x qual:Str} {st:Stmt} {f T:Addr} {fd:FuncData} {ds:List Value} {N ps:List Str} {k:Nat} {sp:Sp} (F:FunD K x qual st f fd T ds) (S:FnScope N ps (defScope st)) (len:∀ vs H Q E,sp vs H Q E→vs.length = ps.length)
    (hbody:∀ (cdv:Value) (A:Around) (outer:List Env) (s:Shared) (H:Hp) (vs:List V) (Q:VK) (E:XK),Room k (A.deeper (envOfC qual (defScope st) s.heap.objs.size f cdv))→sp vs H Q E →
      ∃ t,PSs (cxOf (CX2 P w) P w K mg base N qual (defScope st) f cdv A outer s H E) (defBody st) t∧t { nx:=fun _ H'=>Q .non H',rt:=Q } (start N vs) H):FnOk P w K mg base (CX2 P w) (k + 1) f fd ps sp:=by
  obtain ⟨oc,od,kV,doc,pm,an,cdv,ct,osl,rfl,lk,hcd⟩:=F.ex
  exact fn_of lk hcd S len fun A outer s H vs Q E hr hsp=>hbody cdv A outer s H vs Q E hr hsp
theorem pe_callMK {X:Cx} {E:St→XK} {o sl e:Expr} {es:List Expr} {kws:List Keyword} {ks:List Str} {ps0 pos:Pos} {tf:TE} {t tk:TA} (menu:List (Addr × Sp × (List V→List V→List V))) (hf:PE X (.Subscript o sl ps0) tf) (ha:PA X (e :: es) t) (hkw:PK X kws tk)
    (hm:∀ f sp gV,(f,sp,gV) ∈ menu→PySem.W.keepIn X.K (.ref f) = true∧∃ (CX:CXT) (k:Nat) (fd:FuncData) (ps:List Str) (g:List Value→List Value→List Value),FnOk X.prog X.w X.K X.mg X.base CX k f fd ps sp∧Room k X.A∧KBinds X.K fd ps ks g gV∧PassesS CX X E)
    (hall:(backToKw pos (keywordEach kws X.env)).all (·.1.isSome) = true:=by rfl) (hks:(backToKw pos (keywordEach kws X.env)).filterMap (·.1) = ks:=by rfl)
    (he:starEach (e :: es) X.env = (false,eval e X.env) :: starEach es X.env:=by rfl)
    (hpl:((backTo pos (starEach (e :: es) X.env)).any (·.1) || (backToKw pos (keywordEach kws X.env)).any (·.1.isNone)) = false:=by rfl) :
    PE X (.Call (.Subscript o sl ps0) (e :: es) kws pos) (fun σ H Q=>tf σ H fun x H1=>∃ f sp gV,x = .ref f∧(f,sp,gV) ∈ menu∧t σ H1 fun vs H2=>tk σ H2 fun ws H3=>sp (gV vs ws) H3 Q (E σ)):=by
  intro pins s σ H Q I h
  have ee:eval (.Call (.Subscript o sl ps0) (e :: es) kws pos) X.env = (do callWith pos (← eval (.Subscript o sl ps0) X.env) [] (backTo pos (starEach (e :: es) X.env)) (backToKw pos (keywordEach kws X.env))):=by rfl
  rw [ee]
  refine wpAny_bind ?_
  refine thn (hf pins s σ H _ I h) fun u s1 ⟨x,H1,I1,rx,f,sp,gV,ex,hmem,q⟩=>?_
  subst ex
  obtain rfl:u = Value.ref f:=rx
  obtain ⟨hk,CX,k,fd,ps,g,F,hr,hb,hx⟩:=hm f sp gV hmem
  refine PySem.W.callWith_KW (h₀:=X.base) I1.ok.mod.kin hk hall (thn (ha pos pins s1 σ H1 _ I1 q) fun us s2 ⟨vs,H2,I2,r,q2⟩=>?_) hpl he
  refine thn (hkw pos pins s2 σ H2 _ I2 q2) fun ws s3 ⟨zs,H3,I3,rz,q3⟩=>⟨I3.kIn,?_⟩
  rw [hks]
  have r2:=hb.rel r rz
  have hl:(g us ws).length = ps.length:=by rw [← r2.length]; exact F.len _ _ _ _ q3
  refine wpAny_call (codeAny_mono (F.run X.A X.stack s3 H3 ⟨us,ks.zip ws⟩ (g us ws) (gV vs zs) Q (E σ) hr I3.env0 (hb.to s3 us ws I3.kIn hl) r2 q3) fun r s' hq=>?_)
  cases r with
  | error e=>exact hx pins σ H3 s3 e s' I3 hq
  | ok fl =>
    cases fl with
    | ret u=>exact I3.after hq
    | next=>exact False.elim hq
    | brk=>exact False.elim hq
    | cont=>exact False.elim hq
end L2
end
section
namespace My
open PySem L2 PyProof.Rows
abbrev TTO:List (Str × KTD.Dat):=[("load",.flat (.int 3)),("skip",.flat (.int 9)),("zero",.flat (.int 9))]
abbrev WAY:List D:=[.str "skip",.str "jump",.str "zero",.str "none",.str "call",.str "back"]
abbrev INS:List D:=[.tup [.str "end",.int 0],.tup [.str "put",.int 1],.tup [.str "far",.int 2],.tup [.str "load",.int 1],.tup [.str "add",.int 0],.tup [.str "sub",.int 0],.tup [.str "mul",.int 0],.tup [.str "less",.int 0],.tup [.str "skip",.int 1],.tup [.str "jump",.int 2],.tup [.str "zero",.int 1],.tup [.str "none",.int 2],.tup [.str "more",.int 1],.tup [.str "twice",.int 0],.tup [.str "about",.int 0],.tup [.str "call",.int 2],.tup [.str "back",.int 0]]
def clsAt (s:Stmt) (j:Nat):Stmt:=match s with
  | .ClassDef _ _ _ b _ _ _ _ _ _ _=>b.getD j (.Pass ⟨0,0,0,0⟩)
  | _=>.Pass ⟨0,0,0,0⟩
abbrev s_is_whole:Stmt:=top 19
theorem sc_is_whole:FnScope ["thing","low","high"] ["thing","low","high"] (defScope s_is_whole):=⟨rfl,rfl,rfl,by decide +kernel,rfl,by decide +kernel,by decide +kernel⟩
abbrev s_need_size:Stmt:=top 20
theorem sc_need_size:FnScope ["size","most"] ["size","most"] (defScope s_need_size):=⟨rfl,rfl,rfl,by decide +kernel,rfl,by decide +kernel,by decide +kernel⟩
abbrev s_need_args:Stmt:=top 21
theorem sc_need_args:FnScope ["args","size"] ["args","size"] (defScope s_need_args):=⟨rfl,rfl,rfl,by decide +kernel,rfl,by decide +kernel,by decide +kernel⟩
abbrev s_worth_of_both:Stmt:=top 23
theorem sc_worth_of_both:FnScope ["kind","first","second","size"] ["kind","first","second","size"] (defScope s_worth_of_both):=⟨rfl,rfl,rfl,by decide +kernel,rfl,by decide +kernel,by decide +kernel⟩
abbrev s_is_code:Stmt:=top 33
theorem sc_is_code:FnScope ["thing"] ["thing"] (defScope s_is_code):=⟨rfl,rfl,rfl,by decide +kernel,rfl,by decide +kernel,by decide +kernel⟩
abbrev s_need_code:Stmt:=top 34
theorem sc_need_code:FnScope ["code"] ["code"] (defScope s_need_code):=⟨rfl,rfl,rfl,by decide +kernel,rfl,by decide +kernel,by decide +kernel⟩
abbrev s_instruction_at:Stmt:=top 35
theorem sc_instruction_at:FnScope ["cells","place","name","many","behind"] ["cells","place"] (defScope s_instruction_at):=⟨rfl,rfl,rfl,by decide +kernel,rfl,by decide +kernel,by decide +kernel⟩
abbrev s_number_told:Stmt:=top 36
theorem sc_number_told:FnScope ["behind","number","cell"] ["behind"] (defScope s_number_told):=⟨rfl,rfl,rfl,by decide +kernel,rfl,by decide +kernel,by decide +kernel⟩
abbrev s_Machine___init__:Stmt:=clsAt (top 37) 0
theorem sc_Machine___init__:FnScope ["self","cells","given","size","pile"] ["self","cells","given","size","pile"] (defScope s_Machine___init__):=⟨rfl,rfl,rfl,by decide +kernel,rfl,by decide +kernel,by decide +kernel⟩
abbrev s_Machine_take:Stmt:=clsAt (top 37) 1
theorem sc_Machine_take:FnScope ["self"] ["self"] (defScope s_Machine_take):=⟨rfl,rfl,rfl,by decide +kernel,rfl,by decide +kernel,by decide +kernel⟩
abbrev s_Machine_push:Stmt:=clsAt (top 37) 2
theorem sc_Machine_push:FnScope ["self","number"] ["self","number"] (defScope s_Machine_push):=⟨rfl,rfl,rfl,by decide +kernel,rfl,by decide +kernel,by decide +kernel⟩
abbrev s_Machine_way:Stmt:=clsAt (top 37) 4
theorem sc_Machine_way:FnScope ["self","name","number","onward"] ["self","name","number","onward"] (defScope s_Machine_way):=⟨rfl,rfl,rfl,by decide +kernel,rfl,by decide +kernel,by decide +kernel⟩
abbrev s_Machine_finish:Stmt:=clsAt (top 37) 5
theorem sc_Machine_finish:FnScope ["self"] ["self"] (defScope s_Machine_finish):=⟨rfl,rfl,rfl,by decide +kernel,rfl,by decide +kernel,by decide +kernel⟩
abbrev s_Machine_change:Stmt:=clsAt (top 37) 6
theorem sc_Machine_change:FnScope ["self","name","number","upper","lower"] ["self","name","number"] (defScope s_Machine_change):=⟨rfl,rfl,rfl,by decide +kernel,rfl,by decide +kernel,by decide +kernel⟩
abbrev s_Machine_step:Stmt:=clsAt (top 37) 3
theorem sc_Machine_step:FnScope ["self","name","behind","number","onward"] ["self"] (defScope s_Machine_step):=⟨rfl,rfl,rfl,by decide +kernel,rfl,by decide +kernel,by decide +kernel⟩
abbrev s_started:Stmt:=top 38
theorem sc_started:FnScope ["code","args","size","steps"] ["code","args","size","steps"] (defScope s_started):=⟨rfl,rfl,rfl,by decide +kernel,rfl,by decide +kernel,by decide +kernel⟩
abbrev s_run:Stmt:=top 39
theorem sc_run:FnScope ["code","args","size","steps","machine","done"] ["code","args","size","steps"] (defScope s_run):=⟨rfl,rfl,rfl,by decide +kernel,rfl,by decide +kernel,by decide +kernel⟩
abbrev s_trace:Stmt:=top 40
theorem sc_trace:FnScope ["code","args","size","steps","machine","rows","row"] ["code","args","size","steps"] (defScope s_trace):=⟨rfl,rfl,rfl,by decide +kernel,rfl,by decide +kernel,by decide +kernel⟩
abbrev s_listed:Stmt:=top 41
theorem sc_listed:FnScope ["code","rows","place","name","behind"] ["code"] (defScope s_listed):=⟨rfl,rfl,rfl,by decide +kernel,rfl,by decide +kernel,by decide +kernel⟩
abbrev s__law_draw:Stmt:=top 43
theorem sc__law_draw:FnScope ["_law_script","_law_town","_law_many","_law_one","_law_at","_law_mixed"] ["_law_script","_law_town","_law_many"] (defScope s__law_draw):=⟨rfl,rfl,rfl,by decide +kernel,rfl,by decide +kernel,by decide +kernel⟩
abbrev s__law_pick:Stmt:=top 44
theorem sc__law_pick:FnScope ["_law_script","_law_town","_law_some"] ["_law_script","_law_town","_law_some"] (defScope s__law_pick):=⟨rfl,rfl,rfl,by decide +kernel,rfl,by decide +kernel,by decide +kernel⟩
abbrev s__law_which:Stmt:=top 45
theorem sc__law_which:FnScope ["_law_e","_law_own"] ["_law_e"] (defScope s__law_which):=⟨rfl,rfl,rfl,by decide +kernel,rfl,by decide +kernel,by decide +kernel⟩
abbrev s__law_ask:Stmt:=top 46
theorem sc__law_ask:FnScope ["_law_what","_law_code","_law_args","_law_base","_law_most","_law_e"] ["_law_what","_law_code","_law_args","_law_base","_law_most"] (defScope s__law_ask):=⟨rfl,rfl,rfl,by decide +kernel,rfl,by decide +kernel,by decide +kernel⟩
abbrev s_law:Stmt:=top 47
theorem sc_law:FnScope ["_law_script","_law_town","_law_bad","_law_odd","_law_wrong","_law_most","_law_good","_law_what"] ["_law_script"] (defScope s_law):=⟨rfl,rfl,rfl,by decide +kernel,rfl,by decide +kernel,by decide +kernel⟩
def clsDef (s:Stmt):Stmt:=match s with
  | .ClassDef _ _ _ (d :: _) _ _ _ _ _ _ _=>d
  | _=>.Pass ⟨0,0,0,0⟩
abbrev s_Fault__init:Stmt:=clsDef (top 14)
theorem sc_Fault__init:FnScope ["self","place"] ["self","place"] (defScope s_Fault__init):=⟨rfl,rfl,rfl,by decide +kernel,rfl,by decide +kernel,by decide +kernel⟩
set_option genInjectivity false in
set_option genSizeOfSpec false in
structure Txt (K:PySem.W.Frag) (mg:Str→Option Value) where
  a_is_whole:Addr
  d_is_whole:FuncData
  f_is_whole:Fun K "is_whole" "is_whole" s_is_whole a_is_whole d_is_whole
  m_is_whole:mg "is_whole" = some (.ref a_is_whole)
  a_need_size:Addr
  d_need_size:FuncData
  u_need_size:Addr
  q_need_size:Tok
  f_need_size:FunD K "need_size" "need_size" s_need_size a_need_size d_need_size u_need_size [.int 10000 q_need_size]
  m_need_size:mg "need_size" = some (.ref a_need_size)
  a_need_args:Addr
  d_need_args:FuncData
  f_need_args:Fun K "need_args" "need_args" s_need_args a_need_args d_need_args
  m_need_args:mg "need_args" = some (.ref a_need_args)
  a_worth_of_both:Addr
  d_worth_of_both:FuncData
  f_worth_of_both:Fun K "worth_of_both" "worth_of_both" s_worth_of_both a_worth_of_both d_worth_of_both
  m_worth_of_both:mg "worth_of_both" = some (.ref a_worth_of_both)
  a_is_code:Addr
  d_is_code:FuncData
  f_is_code:Fun K "is_code" "is_code" s_is_code a_is_code d_is_code
  m_is_code:mg "is_code" = some (.ref a_is_code)
  a_need_code:Addr
  d_need_code:FuncData
  f_need_code:Fun K "need_code" "need_code" s_need_code a_need_code d_need_code
  m_need_code:mg "need_code" = some (.ref a_need_code)
  a_instruction_at:Addr
  d_instruction_at:FuncData
  f_instruction_at:Fun K "instruction_at" "instruction_at" s_instruction_at a_instruction_at d_instruction_at
  m_instruction_at:mg "instruction_at" = some (.ref a_instruction_at)
  a_number_told:Addr
  d_number_told:FuncData
  f_number_told:Fun K "number_told" "number_told" s_number_told a_number_told d_number_told
  m_number_told:mg "number_told" = some (.ref a_number_told)
  a_started:Addr
  d_started:FuncData
  f_started:Fun K "started" "started" s_started a_started d_started
  m_started:mg "started" = some (.ref a_started)
  a_run:Addr
  d_run:FuncData
  f_run:Fun K "run" "run" s_run a_run d_run
  m_run:mg "run" = some (.ref a_run)
  a_trace:Addr
  d_trace:FuncData
  f_trace:Fun K "trace" "trace" s_trace a_trace d_trace
  m_trace:mg "trace" = some (.ref a_trace)
  a_listed:Addr
  d_listed:FuncData
  f_listed:Fun K "listed" "listed" s_listed a_listed d_listed
  m_listed:mg "listed" = some (.ref a_listed)
  a__law_draw:Addr
  d__law_draw:FuncData
  f__law_draw:Fun K "_law_draw" "_law_draw" s__law_draw a__law_draw d__law_draw
  m__law_draw:mg "_law_draw" = some (.ref a__law_draw)
  a__law_pick:Addr
  d__law_pick:FuncData
  f__law_pick:Fun K "_law_pick" "_law_pick" s__law_pick a__law_pick d__law_pick
  m__law_pick:mg "_law_pick" = some (.ref a__law_pick)
  a__law_which:Addr
  d__law_which:FuncData
  f__law_which:Fun K "_law_which" "_law_which" s__law_which a__law_which d__law_which
  m__law_which:mg "_law_which" = some (.ref a__law_which)
  a__law_ask:Addr
  d__law_ask:FuncData
  f__law_ask:Fun K "_law_ask" "_law_ask" s__law_ask a__law_ask d__law_ask
  m__law_ask:mg "_law_ask" = some (.ref a__law_ask)
  a_law:Addr
  d_law:FuncData
  f_law:Fun K "law" "law" s_law a_law d_law
  m_law:mg "law" = some (.ref a_law)
  a_Machine:Addr
  g_Machine:mg "Machine" = some (.ref a_Machine)
  cl_Machine:Cls K a_Machine
  a_Machine___init__:Addr
  d_Machine___init__:FuncData
  f_Machine___init__:Fun K "__init__" "Machine.__init__" s_Machine___init__ a_Machine___init__ d_Machine___init__
  mk_Machine:Mk K a_Machine a_Machine___init__
  a_Machine_take:Addr
  d_Machine_take:FuncData
  f_Machine_take:Fun K "take" "Machine.take" s_Machine_take a_Machine_take d_Machine_take
  mt_Machine_take:Meth K a_Machine "take" a_Machine_take
  a_Machine_push:Addr
  d_Machine_push:FuncData
  f_Machine_push:Fun K "push" "Machine.push" s_Machine_push a_Machine_push d_Machine_push
  mt_Machine_push:Meth K a_Machine "push" a_Machine_push
  a_Machine_way:Addr
  d_Machine_way:FuncData
  f_Machine_way:Fun K "way" "Machine.way" s_Machine_way a_Machine_way d_Machine_way
  mt_Machine_way:Meth K a_Machine "way" a_Machine_way
  a_Machine_finish:Addr
  d_Machine_finish:FuncData
  f_Machine_finish:Fun K "finish" "Machine.finish" s_Machine_finish a_Machine_finish d_Machine_finish
  mt_Machine_finish:Meth K a_Machine "finish" a_Machine_finish
  a_Machine_change:Addr
  d_Machine_change:FuncData
  f_Machine_change:Fun K "change" "Machine.change" s_Machine_change a_Machine_change d_Machine_change
  mt_Machine_change:Meth K a_Machine "change" a_Machine_change
  a_Machine_step:Addr
  d_Machine_step:FuncData
  f_Machine_step:Fun K "step" "Machine.step" s_Machine_step a_Machine_step d_Machine_step
  mt_Machine_step:Meth K a_Machine "step" a_Machine_step
  na_cells:NoAttr K a_Machine "cells"
  na_given:NoAttr K a_Machine "given"
  na_size:NoAttr K a_Machine "size"
  na_pile:NoAttr K a_Machine "pile"
  na_place:NoAttr K a_Machine "place"
  na_kept:NoAttr K a_Machine "kept"
  na_ended:NoAttr K a_Machine "ended"
  t_MOST_CELLS:Tok
  g_MOST_CELLS:mg "MOST_CELLS" = some (.int 1000 t_MOST_CELLS)
  t_MOST_CELL:Tok
  g_MOST_CELL:mg "MOST_CELL" = some (.int 99 t_MOST_CELL)
  t_MANY_ARGS:Tok
  g_MANY_ARGS:mg "MANY_ARGS" = some (.int 4 t_MANY_ARGS)
  t_MOST_SIZE:Tok
  g_MOST_SIZE:mg "MOST_SIZE" = some (.int 10000 t_MOST_SIZE)
  t_MOST_STEPS:Tok
  g_MOST_STEPS:mg "MOST_STEPS" = some (.int 100000 t_MOST_STEPS)
  t_MOST_PILE:Tok
  g_MOST_PILE:mg "MOST_PILE" = some (.int 64 t_MOST_PILE)
  t_MOST_KEPT:Tok
  g_MOST_KEPT:mg "MOST_KEPT" = some (.int 16 t_MOST_KEPT)
  a_MOST_TOLD:Addr
  g_MOST_TOLD:mg "MOST_TOLD" = some (.ref a_MOST_TOLD)
  t_MOST_TOLD:TabK K a_MOST_TOLD TTO
  a_INSTRUCTIONS:Addr
  g_INSTRUCTIONS:mg "INSTRUCTIONS" = some (.ref a_INSTRUCTIONS)
  c_INSTRUCTIONS:datOk K (.tup INS) (.ref a_INSTRUCTIONS) = true
  a_WAYS:Addr
  g_WAYS:mg "WAYS" = some (.ref a_WAYS)
  c_WAYS:datOk K (.tup WAY) (.ref a_WAYS) = true
  a_PieceError:Addr
  g_PieceError:mg "PieceError" = some (.ref a_PieceError)
  a_NoSize:Addr
  g_NoSize:mg "NoSize" = some (.ref a_NoSize)
  a_NoTree:Addr
  g_NoTree:mg "NoTree" = some (.ref a_NoTree)
  a_NoArgs:Addr
  g_NoArgs:mg "NoArgs" = some (.ref a_NoArgs)
  a_NoCode:Addr
  g_NoCode:mg "NoCode" = some (.ref a_NoCode)
  a_NoSteps:Addr
  g_NoSteps:mg "NoSteps" = some (.ref a_NoSteps)
  a_Late:Addr
  g_Late:mg "Late" = some (.ref a_Late)
  a_NoPiece:Addr
  g_NoPiece:mg "NoPiece" = some (.ref a_NoPiece)
  a_NoSet:Addr
  g_NoSet:mg "NoSet" = some (.ref a_NoSet)
  a_NoCover:Addr
  g_NoCover:mg "NoCover" = some (.ref a_NoCover)
  a_NoParts:Addr
  g_NoParts:mg "NoParts" = some (.ref a_NoParts)
  a_NoName:Addr
  g_NoName:mg "NoName" = some (.ref a_NoName)
  a_Taken:Addr
  g_Taken:mg "Taken" = some (.ref a_Taken)
  a_Fault:Addr
  g_Fault:mg "Fault" = some (.ref a_Fault)
  a_Broken:Addr
  g_Broken:mg "Broken" = some (.ref a_Broken)
  i_Fault:Addr
  di_Fault:FuncData
  fi_Fault:Fun K "__init__" "Fault.__init__" s_Fault__init i_Fault di_Fault
  c_Fault:IniK K a_Fault i_Fault
  so_Fault:StoK K a_Fault "place"
  x_Fault:ExcK K a_Fault
  r_NoSize:excAt K a_NoSize [.type "ValueError",.type "Exception",.type "BaseException",.type "object"] "ValueError.__new__" none = true
  x_NoSize:ExcK K a_NoSize
  r_NoArgs:excAt K a_NoArgs [.type "ValueError",.type "Exception",.type "BaseException",.type "object"] "ValueError.__new__" none = true
  x_NoArgs:ExcK K a_NoArgs
  r_NoCode:excAt K a_NoCode [.type "ValueError",.type "Exception",.type "BaseException",.type "object"] "ValueError.__new__" none = true
  x_NoCode:ExcK K a_NoCode
  r_NoSteps:excAt K a_NoSteps [.type "ValueError",.type "Exception",.type "BaseException",.type "object"] "ValueError.__new__" none = true
  x_NoSteps:ExcK K a_NoSteps
  r_Late:excAt K a_Late [.type "ValueError",.type "Exception",.type "BaseException",.type "object"] "ValueError.__new__" none = true
  x_Late:ExcK K a_Late
  e_NoSize_PieceError:PySem.W.exmOne K (.ref a_NoSize) (.ref a_PieceError) = some true
  e_NoArgs_PieceError:PySem.W.exmOne K (.ref a_NoArgs) (.ref a_PieceError) = some true
  e_NoCode_PieceError:PySem.W.exmOne K (.ref a_NoCode) (.ref a_PieceError) = some true
  e_NoSteps_PieceError:PySem.W.exmOne K (.ref a_NoSteps) (.ref a_PieceError) = some true
  e_Late_PieceError:PySem.W.exmOne K (.ref a_Late) (.ref a_PieceError) = some true
  e_Fault_PieceError:PySem.W.exmOne K (.ref a_Fault) (.ref a_PieceError) = some true
  e_Fault_Fault:PySem.W.exmOne K (.ref a_Fault) (.ref a_Fault) = some true
  k_NoSize_NoSize:PySem.W.kitOne K (.ref a_NoSize) (.ref a_NoSize) = some true
  k_NoSize_NoTree:PySem.W.kitOne K (.ref a_NoSize) (.ref a_NoTree) = some false
  k_NoSize_NoArgs:PySem.W.kitOne K (.ref a_NoSize) (.ref a_NoArgs) = some false
  k_NoSize_NoCode:PySem.W.kitOne K (.ref a_NoSize) (.ref a_NoCode) = some false
  k_NoSize_NoSteps:PySem.W.kitOne K (.ref a_NoSize) (.ref a_NoSteps) = some false
  k_NoSize_Late:PySem.W.kitOne K (.ref a_NoSize) (.ref a_Late) = some false
  k_NoSize_NoPiece:PySem.W.kitOne K (.ref a_NoSize) (.ref a_NoPiece) = some false
  k_NoSize_NoSet:PySem.W.kitOne K (.ref a_NoSize) (.ref a_NoSet) = some false
  k_NoSize_NoCover:PySem.W.kitOne K (.ref a_NoSize) (.ref a_NoCover) = some false
  k_NoSize_NoParts:PySem.W.kitOne K (.ref a_NoSize) (.ref a_NoParts) = some false
  k_NoSize_NoName:PySem.W.kitOne K (.ref a_NoSize) (.ref a_NoName) = some false
  k_NoSize_Taken:PySem.W.kitOne K (.ref a_NoSize) (.ref a_Taken) = some false
  k_NoSize_Fault:PySem.W.kitOne K (.ref a_NoSize) (.ref a_Fault) = some false
  k_NoSize_Broken:PySem.W.kitOne K (.ref a_NoSize) (.ref a_Broken) = some false
  k_NoArgs_NoSize:PySem.W.kitOne K (.ref a_NoArgs) (.ref a_NoSize) = some false
  k_NoArgs_NoTree:PySem.W.kitOne K (.ref a_NoArgs) (.ref a_NoTree) = some false
  k_NoArgs_NoArgs:PySem.W.kitOne K (.ref a_NoArgs) (.ref a_NoArgs) = some true
  k_NoArgs_NoCode:PySem.W.kitOne K (.ref a_NoArgs) (.ref a_NoCode) = some false
  k_NoArgs_NoSteps:PySem.W.kitOne K (.ref a_NoArgs) (.ref a_NoSteps) = some false
  k_NoArgs_Late:PySem.W.kitOne K (.ref a_NoArgs) (.ref a_Late) = some false
  k_NoArgs_NoPiece:PySem.W.kitOne K (.ref a_NoArgs) (.ref a_NoPiece) = some false
  k_NoArgs_NoSet:PySem.W.kitOne K (.ref a_NoArgs) (.ref a_NoSet) = some false
  k_NoArgs_NoCover:PySem.W.kitOne K (.ref a_NoArgs) (.ref a_NoCover) = some false
  k_NoArgs_NoParts:PySem.W.kitOne K (.ref a_NoArgs) (.ref a_NoParts) = some false
  k_NoArgs_NoName:PySem.W.kitOne K (.ref a_NoArgs) (.ref a_NoName) = some false
  k_NoArgs_Taken:PySem.W.kitOne K (.ref a_NoArgs) (.ref a_Taken) = some false
  k_NoArgs_Fault:PySem.W.kitOne K (.ref a_NoArgs) (.ref a_Fault) = some false
  k_NoArgs_Broken:PySem.W.kitOne K (.ref a_NoArgs) (.ref a_Broken) = some false
  k_NoCode_NoSize:PySem.W.kitOne K (.ref a_NoCode) (.ref a_NoSize) = some false
  k_NoCode_NoTree:PySem.W.kitOne K (.ref a_NoCode) (.ref a_NoTree) = some false
  k_NoCode_NoArgs:PySem.W.kitOne K (.ref a_NoCode) (.ref a_NoArgs) = some false
  k_NoCode_NoCode:PySem.W.kitOne K (.ref a_NoCode) (.ref a_NoCode) = some true
  k_NoCode_NoSteps:PySem.W.kitOne K (.ref a_NoCode) (.ref a_NoSteps) = some false
  k_NoCode_Late:PySem.W.kitOne K (.ref a_NoCode) (.ref a_Late) = some false
  k_NoCode_NoPiece:PySem.W.kitOne K (.ref a_NoCode) (.ref a_NoPiece) = some false
  k_NoCode_NoSet:PySem.W.kitOne K (.ref a_NoCode) (.ref a_NoSet) = some false
  k_NoCode_NoCover:PySem.W.kitOne K (.ref a_NoCode) (.ref a_NoCover) = some false
  k_NoCode_NoParts:PySem.W.kitOne K (.ref a_NoCode) (.ref a_NoParts) = some false
  k_NoCode_NoName:PySem.W.kitOne K (.ref a_NoCode) (.ref a_NoName) = some false
  k_NoCode_Taken:PySem.W.kitOne K (.ref a_NoCode) (.ref a_Taken) = some false
  k_NoCode_Fault:PySem.W.kitOne K (.ref a_NoCode) (.ref a_Fault) = some false
  k_NoCode_Broken:PySem.W.kitOne K (.ref a_NoCode) (.ref a_Broken) = some false
  k_NoSteps_NoSize:PySem.W.kitOne K (.ref a_NoSteps) (.ref a_NoSize) = some false
  k_NoSteps_NoTree:PySem.W.kitOne K (.ref a_NoSteps) (.ref a_NoTree) = some false
  k_NoSteps_NoArgs:PySem.W.kitOne K (.ref a_NoSteps) (.ref a_NoArgs) = some false
  k_NoSteps_NoCode:PySem.W.kitOne K (.ref a_NoSteps) (.ref a_NoCode) = some false
  k_NoSteps_NoSteps:PySem.W.kitOne K (.ref a_NoSteps) (.ref a_NoSteps) = some true
  k_NoSteps_Late:PySem.W.kitOne K (.ref a_NoSteps) (.ref a_Late) = some false
  k_NoSteps_NoPiece:PySem.W.kitOne K (.ref a_NoSteps) (.ref a_NoPiece) = some false
  k_NoSteps_NoSet:PySem.W.kitOne K (.ref a_NoSteps) (.ref a_NoSet) = some false
  k_NoSteps_NoCover:PySem.W.kitOne K (.ref a_NoSteps) (.ref a_NoCover) = some false
  k_NoSteps_NoParts:PySem.W.kitOne K (.ref a_NoSteps) (.ref a_NoParts) = some false
  k_NoSteps_NoName:PySem.W.kitOne K (.ref a_NoSteps) (.ref a_NoName) = some false
  k_NoSteps_Taken:PySem.W.kitOne K (.ref a_NoSteps) (.ref a_Taken) = some false
  k_NoSteps_Fault:PySem.W.kitOne K (.ref a_NoSteps) (.ref a_Fault) = some false
  k_NoSteps_Broken:PySem.W.kitOne K (.ref a_NoSteps) (.ref a_Broken) = some false
  k_Late_NoSize:PySem.W.kitOne K (.ref a_Late) (.ref a_NoSize) = some false
  k_Late_NoTree:PySem.W.kitOne K (.ref a_Late) (.ref a_NoTree) = some false
  k_Late_NoArgs:PySem.W.kitOne K (.ref a_Late) (.ref a_NoArgs) = some false
  k_Late_NoCode:PySem.W.kitOne K (.ref a_Late) (.ref a_NoCode) = some false
  k_Late_NoSteps:PySem.W.kitOne K (.ref a_Late) (.ref a_NoSteps) = some false
  k_Late_Late:PySem.W.kitOne K (.ref a_Late) (.ref a_Late) = some true
  k_Late_NoPiece:PySem.W.kitOne K (.ref a_Late) (.ref a_NoPiece) = some false
  k_Late_NoSet:PySem.W.kitOne K (.ref a_Late) (.ref a_NoSet) = some false
  k_Late_NoCover:PySem.W.kitOne K (.ref a_Late) (.ref a_NoCover) = some false
  k_Late_NoParts:PySem.W.kitOne K (.ref a_Late) (.ref a_NoParts) = some false
  k_Late_NoName:PySem.W.kitOne K (.ref a_Late) (.ref a_NoName) = some false
  k_Late_Taken:PySem.W.kitOne K (.ref a_Late) (.ref a_Taken) = some false
  k_Late_Fault:PySem.W.kitOne K (.ref a_Late) (.ref a_Fault) = some false
  k_Late_Broken:PySem.W.kitOne K (.ref a_Late) (.ref a_Broken) = some false
  k_Fault_NoSize:PySem.W.kitOne K (.ref a_Fault) (.ref a_NoSize) = some false
  k_Fault_NoTree:PySem.W.kitOne K (.ref a_Fault) (.ref a_NoTree) = some false
  k_Fault_NoArgs:PySem.W.kitOne K (.ref a_Fault) (.ref a_NoArgs) = some false
  k_Fault_NoCode:PySem.W.kitOne K (.ref a_Fault) (.ref a_NoCode) = some false
  k_Fault_NoSteps:PySem.W.kitOne K (.ref a_Fault) (.ref a_NoSteps) = some false
  k_Fault_Late:PySem.W.kitOne K (.ref a_Fault) (.ref a_Late) = some false
  k_Fault_NoPiece:PySem.W.kitOne K (.ref a_Fault) (.ref a_NoPiece) = some false
  k_Fault_NoSet:PySem.W.kitOne K (.ref a_Fault) (.ref a_NoSet) = some false
  k_Fault_NoCover:PySem.W.kitOne K (.ref a_Fault) (.ref a_NoCover) = some false
  k_Fault_NoParts:PySem.W.kitOne K (.ref a_Fault) (.ref a_NoParts) = some false
  k_Fault_NoName:PySem.W.kitOne K (.ref a_Fault) (.ref a_NoName) = some false
  k_Fault_Taken:PySem.W.kitOne K (.ref a_Fault) (.ref a_Taken) = some false
  k_Fault_Fault:PySem.W.kitOne K (.ref a_Fault) (.ref a_Fault) = some true
  k_Fault_Broken:PySem.W.kitOne K (.ref a_Fault) (.ref a_Broken) = some false
  k_NoSize_ValueError:PySem.W.kitOne K (.ref a_NoSize) (.type "ValueError") = some true
  k_NoArgs_ValueError:PySem.W.kitOne K (.ref a_NoArgs) (.type "ValueError") = some true
  k_NoCode_ValueError:PySem.W.kitOne K (.ref a_NoCode) (.type "ValueError") = some true
  k_NoSteps_ValueError:PySem.W.kitOne K (.ref a_NoSteps) (.type "ValueError") = some true
  k_Late_ValueError:PySem.W.kitOne K (.ref a_Late) (.type "ValueError") = some true
  k_Fault_ValueError:PySem.W.kitOne K (.ref a_Fault) (.type "ValueError") = some true
  n_len:mg "len" = none
  n_isinstance:mg "isinstance" = none
  n_int:mg "int" = none
  n_bool:mg "bool" = none
  n_list:mg "list" = none
  n_tuple:mg "tuple" = none
  n_range:mg "range" = none
  n_all:mg "all" = none
  n_reversed:mg "reversed" = none
  n_ValueError:mg "ValueError" = none
section
variable {P:Program} {w:World} {K:PySem.W.Frag} {mg:Str→Option Value} {base:Heap} {k:Nat}
theorem len1 {α:Type} {us:List α} (h:us.length = 1):∃ a0,us = [a0]:=match us,h with | [a0],_=>⟨a0,rfl⟩
theorem len2 {α:Type} {us:List α} (h:us.length = 2):∃ a0 a1,us = [a0,a1]:=match us,h with | [a0,a1],_=>⟨a0,a1,rfl⟩
theorem len3 {α:Type} {us:List α} (h:us.length = 3):∃ a0 a1 a2,us = [a0,a1,a2]:=match us,h with | [a0,a1,a2],_=>⟨a0,a1,a2,rfl⟩
theorem len4 {α:Type} {us:List α} (h:us.length = 4):∃ a0 a1 a2 a3,us = [a0,a1,a2,a3]:=match us,h with | [a0,a1,a2,a3],_=>⟨a0,a1,a2,a3,rfl⟩
theorem len5 {α:Type} {us:List α} (h:us.length = 5):∃ a0 a1 a2 a3 a4,us = [a0,a1,a2,a3,a4]:=match us,h with | [a0,a1,a2,a3,a4],_=>⟨a0,a1,a2,a3,a4,rfl⟩
theorem bi_Fault (T:Txt K mg):Binds K T.di_Fault ["self","place"] []:=T.fi_Fault.binds (ps:=["self","place"]) fun _ _ _ _ _ _ us hl=>match us,hl with | [_,_],_=>rfl
theorem ok_Fault__init (T:Txt K mg):FnOk P w K mg base CX0 (k + 1) T.i_Fault T.di_Fault ["self","place"] (spInit2 T.a_Fault "place"):=by
  refine T.fi_Fault.ok sc_Fault__init (fun vs H Q E ⟨e,a0,v,h,_⟩=>by rw [h]; rfl) (fun cdv A outer s H vs Q E hr ⟨e,a0,v,h,h2,q⟩=>?_)
  have nd:=sc_Fault__init.nd
  refine ⟨_,(pss_one (ps_fldExc2 T.so_Fault (pv 0) (pv 1))),?_⟩
  subst h
  exact ⟨_,rfl,_,rfl,e,a0,rfl,h2,q⟩
theorem b_is_whole (T:Txt K mg):Binds K T.d_is_whole ["thing","low","high"] []:=T.f_is_whole.binds (ps:=["thing","low","high"]) fun _ _ _ _ _ _ us hl=>by obtain ⟨_,_,_,rfl⟩:=len3 hl; rfl
theorem b_need_size (T:Txt K mg):Binds K T.d_need_size ["size","most"] [.int 10000 T.q_need_size]:=by
  obtain ⟨oc,od,kV,doc,pm,an,cdv,ct,osl,e,lk,hcd⟩:=T.f_need_size.ex
  obtain ⟨o,n,l,h⟩:=T.f_need_size.df
  intro s us hK hl
  have hl':us.length = 1:=by simpa using hl
  match us,hl' with
  | [u0],_=>rw [e]; exact .of_defaults (T:=T.u_need_size) rfl (hK _ _ l) h rfl rfl
theorem v_need_size (T:Txt K mg):Vals [V.int 10000] [Value.int 10000 T.q_need_size]:=.cons ⟨_,rfl⟩ .nil
theorem b_need_args (T:Txt K mg):Binds K T.d_need_args ["args","size"] []:=T.f_need_args.binds (ps:=["args","size"]) fun _ _ _ _ _ _ us hl=>by obtain ⟨_,_,rfl⟩:=len2 hl; rfl
theorem b_worth_of_both (T:Txt K mg):Binds K T.d_worth_of_both ["kind","first","second","size"] []:=T.f_worth_of_both.binds (ps:=["kind","first","second","size"]) fun _ _ _ _ _ _ us hl=>by obtain ⟨_,_,_,_,rfl⟩:=len4 hl; rfl
theorem b_is_code (T:Txt K mg):Binds K T.d_is_code ["thing"] []:=T.f_is_code.binds (ps:=["thing"]) fun _ _ _ _ _ _ us hl=>by obtain ⟨_,rfl⟩:=len1 hl; rfl
theorem b_need_code (T:Txt K mg):Binds K T.d_need_code ["code"] []:=T.f_need_code.binds (ps:=["code"]) fun _ _ _ _ _ _ us hl=>by obtain ⟨_,rfl⟩:=len1 hl; rfl
theorem b_instruction_at (T:Txt K mg):Binds K T.d_instruction_at ["cells","place"] []:=T.f_instruction_at.binds (ps:=["cells","place"]) fun _ _ _ _ _ _ us hl=>by obtain ⟨_,_,rfl⟩:=len2 hl; rfl
theorem b_number_told (T:Txt K mg):Binds K T.d_number_told ["behind"] []:=T.f_number_told.binds (ps:=["behind"]) fun _ _ _ _ _ _ us hl=>by obtain ⟨_,rfl⟩:=len1 hl; rfl
theorem b_Machine___init__ (T:Txt K mg):Binds K T.d_Machine___init__ ["self","cells","given","size","pile"] []:=T.f_Machine___init__.binds (ps:=["self","cells","given","size","pile"]) fun _ _ _ _ _ _ us hl=>by obtain ⟨_,_,_,_,_,rfl⟩:=len5 hl; rfl
theorem b_Machine_take (T:Txt K mg):Binds K T.d_Machine_take ["self"] []:=T.f_Machine_take.binds (ps:=["self"]) fun _ _ _ _ _ _ us hl=>by obtain ⟨_,rfl⟩:=len1 hl; rfl
theorem b_Machine_push (T:Txt K mg):Binds K T.d_Machine_push ["self","number"] []:=T.f_Machine_push.binds (ps:=["self","number"]) fun _ _ _ _ _ _ us hl=>by obtain ⟨_,_,rfl⟩:=len2 hl; rfl
theorem b_Machine_way (T:Txt K mg):Binds K T.d_Machine_way ["self","name","number","onward"] []:=T.f_Machine_way.binds (ps:=["self","name","number","onward"]) fun _ _ _ _ _ _ us hl=>by obtain ⟨_,_,_,_,rfl⟩:=len4 hl; rfl
theorem b_Machine_finish (T:Txt K mg):Binds K T.d_Machine_finish ["self"] []:=T.f_Machine_finish.binds (ps:=["self"]) fun _ _ _ _ _ _ us hl=>by obtain ⟨_,rfl⟩:=len1 hl; rfl
theorem b_Machine_change (T:Txt K mg):Binds K T.d_Machine_change ["self","name","number"] []:=T.f_Machine_change.binds (ps:=["self","name","number"]) fun _ _ _ _ _ _ us hl=>by obtain ⟨_,_,_,rfl⟩:=len3 hl; rfl
theorem b_Machine_step (T:Txt K mg):Binds K T.d_Machine_step ["self"] []:=T.f_Machine_step.binds (ps:=["self"]) fun _ _ _ _ _ _ us hl=>by obtain ⟨_,rfl⟩:=len1 hl; rfl
theorem b_started (T:Txt K mg):Binds K T.d_started ["code","args","size","steps"] []:=T.f_started.binds (ps:=["code","args","size","steps"]) fun _ _ _ _ _ _ us hl=>by obtain ⟨_,_,_,_,rfl⟩:=len4 hl; rfl
def g_run {α:Type}:List α→List α→List α
  | [x0,x1],[y0,y1]=>[x0,x1,y0,y1]
  | _,_=>[]
theorem b_run (T:Txt K mg):KBinds K T.d_run ["code","args","size","steps"] ["size","steps"] g_run g_run:=by
  obtain ⟨oc,od,kV,doc,pm,an,cdv,ct,osl,e,lk,hcd⟩:=T.f_run.ex
  refine ⟨fun s us ws hK hl=>?_,fun {vs us zs ws} h1 h2=>?_⟩
  · unfold g_run at hl ⊢
    split at hl
    · rw [e]; exact .of_eq rfl
    · cases hl
  · cases h1 with
    | nil=>exact .nil
    | cons r1 t1 =>
      cases t1 with
      | nil=>exact .nil
      | cons r2 t2 =>
        cases t2 with
        | cons _ _=>exact .nil
        | nil =>
          cases h2 with
          | nil=>exact .nil
          | cons p1 z1 =>
            cases z1 with
            | nil=>exact .nil
            | cons p2 z2 =>
              cases z2 with
              | cons _ _=>exact .nil
              | nil=>exact (.cons r1 (.cons r2 (.cons p1 (.cons p2 .nil))))
def g_trace {α:Type}:List α→List α→List α
  | [x0,x1],[y0,y1]=>[x0,x1,y0,y1]
  | _,_=>[]
theorem b_trace (T:Txt K mg):KBinds K T.d_trace ["code","args","size","steps"] ["size","steps"] g_trace g_trace:=by
  obtain ⟨oc,od,kV,doc,pm,an,cdv,ct,osl,e,lk,hcd⟩:=T.f_trace.ex
  refine ⟨fun s us ws hK hl=>?_,fun {vs us zs ws} h1 h2=>?_⟩
  · unfold g_trace at hl ⊢
    split at hl
    · rw [e]; exact .of_eq rfl
    · cases hl
  · cases h1 with
    | nil=>exact .nil
    | cons r1 t1 =>
      cases t1 with
      | nil=>exact .nil
      | cons r2 t2 =>
        cases t2 with
        | cons _ _=>exact .nil
        | nil =>
          cases h2 with
          | nil=>exact .nil
          | cons p1 z1 =>
            cases z1 with
            | nil=>exact .nil
            | cons p2 z2 =>
              cases z2 with
              | cons _ _=>exact .nil
              | nil=>exact (.cons r1 (.cons r2 (.cons p1 (.cons p2 .nil))))
theorem b_listed (T:Txt K mg):Binds K T.d_listed ["code"] []:=T.f_listed.binds (ps:=["code"]) fun _ _ _ _ _ _ us hl=>by obtain ⟨_,rfl⟩:=len1 hl; rfl
theorem b__law_draw (T:Txt K mg):Binds K T.d__law_draw ["_law_script","_law_town","_law_many"] []:=T.f__law_draw.binds (ps:=["_law_script","_law_town","_law_many"]) fun _ _ _ _ _ _ us hl=>by obtain ⟨_,_,_,rfl⟩:=len3 hl; rfl
theorem b__law_pick (T:Txt K mg):Binds K T.d__law_pick ["_law_script","_law_town","_law_some"] []:=T.f__law_pick.binds (ps:=["_law_script","_law_town","_law_some"]) fun _ _ _ _ _ _ us hl=>by obtain ⟨_,_,_,rfl⟩:=len3 hl; rfl
theorem b__law_which (T:Txt K mg):Binds K T.d__law_which ["_law_e"] []:=T.f__law_which.binds (ps:=["_law_e"]) fun _ _ _ _ _ _ us hl=>by obtain ⟨_,rfl⟩:=len1 hl; rfl
theorem b__law_ask (T:Txt K mg):Binds K T.d__law_ask ["_law_what","_law_code","_law_args","_law_base","_law_most"] []:=T.f__law_ask.binds (ps:=["_law_what","_law_code","_law_args","_law_base","_law_most"]) fun _ _ _ _ _ _ us hl=>by obtain ⟨_,_,_,_,_,rfl⟩:=len5 hl; rfl
def wholeD (d:D) (lo hi:Int):Bool:=match d with
  | .int i=>decide (lo ≤ i) && decide (i ≤ hi)
  | _=>false
def Rwhole (ds:List D) (d:D):Prop:=∃ x lo hi,ds = [x,.int lo,.int hi]∧d = .bl (wholeD x lo hi)
theorem ok_is_whole (T:Txt K mg)  : FnOk P w K mg base CX0 (k + 1) T.a_is_whole T.d_is_whole ["thing","low","high"] (spD K Rwhole):=by
  refine T.f_is_whole.ok sc_is_whole (fun vs H Q E h=>?_) (fun cdv A outer s H vs Q E hr h=>?_)
  · obtain ⟨ds,d,hd,⟨x,lo,hi,rfl,rfl⟩,_⟩:=h; exact hd.length.symm
  have nd:=sc_is_whole.nd
  obtain ⟨ds,d,hd,⟨x,lo,hi,rfl,rfl⟩,post⟩:=h
  obtain ⟨v0,v1,v2,rfl,h0,h1,h2⟩:=dats3 hd
  have g1:=h1.intE
  have g2:=h2.intE
  subst g1 g2
  refine ⟨_,(pss_one (ps_ret (pe_and (pe_callB (call_isi hi_int) rfl T.n_isinstance bo_isinstance (pa_cons (pv 0) (pa_cons (pe_bltn (v:=.ty "int") rfl T.n_int bo_int rfl) pa_nil))) (pe_and (pe_not (pe_callB (call_isi hi_bool) rfl T.n_isinstance bo_isinstance (pa_cons (pv 0) (pa_cons (pe_bltn (v:=.ty "bool") rfl T.n_bool bo_bool rfl) pa_nil)))) (pe_one (pe_chain op_le op_le (pv 1) (pv 0) (pv 2))))))),?_⟩
  refine rs_ret (K:=K) (d:=.bl (wholeD x lo hi)) ?_ post
  cases x with
  | int i=>exact RE.as (re_and (re_isi (re_var h0)) fun _=>re_and (re_not (re_isi (re_var h0))) fun _=>re_chain (re_var h1) (re_var h0) fun _=>re_var h2) rfl
  | bl y=>exact RE.as (re_and (c:=false) (re_isi (re_var h0)) fun _=>RE.as (re_and (c:=true) (re_not (re_isi (re_var h0))) fun z=>nomatch z) rfl) rfl
  | non=>exact RE.as (re_and (c:=true) (re_isi (re_var h0)) fun z=>nomatch z) rfl
  | str y=>exact RE.as (re_and (c:=true) (re_isi (re_var h0)) fun z=>nomatch z) rfl
  | tup y=>exact RE.as (re_and (c:=true) (re_isi (re_var h0)) fun z=>nomatch z) rfl
  | lst=>exact RE.as (re_and (c:=true) (re_isi (re_var h0)) fun z=>nomatch z) rfl
end
end My
end
section
namespace My
open PySem L2 PyProof.Rows
section
variable {P:Program} {w:World} {K:PySem.W.Frag} {mg:Str→Option Value} {base:Heap} {k:Nat}
theorem pickI {ns:List Int} {k:Int} (h0:0 ≤ k) (h1:k < (ns.length:Int)):∃ z,atI (ns.map V.int) k = some (.int z):=by
  have hk:k.toNat < ns.length:=by omega
  refine ⟨ns[k.toNat],?_⟩
  have e:k = ((k.toNat:Nat):Int):=by omega
  have q:atI (ns.map V.int) ((k.toNat:Nat):Int) = some (.int ns[k.toNat]):=atI_nat (by rw [List.getElem?_map,List.getElem?_eq_getElem hk] <;> rfl)
  rw [← e] at q
  exact q
theorem ok__law_draw (T:Txt K mg)  : FnOk P w K mg base CX0 (k + 1) T.a__law_draw T.d__law_draw ["_law_script","_law_town","_law_many"] (spDraw K):=by
  refine T.f__law_draw.ok sc__law_draw (fun vs H Q E h=>?_) (fun cdv A outer s H vs Q E hr h=>?_)
  · obtain ⟨a,t,ns,m,p,q,rest,rfl,_⟩:=h; rfl
  have nd:=sc__law_draw.nd
  obtain ⟨a,t,ns,m,p,q,rest,rfl,hS,hT,hp,hm,hm2,post⟩:=h
  refine ⟨_,(pss_cons (ps_if (pt_cmpR op_gt (pe_ix ix_list (pv 1) pe_int (fun _ _=>rfl)) pe_int (nomark _)) (pss_cons (ps_set (i:=3) nd rfl (Or.inl rfl) (pe_op op_mod (pe_ix ix_list (pv 1) pe_int (fun _ _=>rfl)) (pv 2)))
  (pss_cons (ps_asg (pe_op op_fdiv (pe_ix ix_list (pv 1) pe_int (fun _ _=>rfl)) (pv 2)) (pg_sub (pv 1) pe_int set_list))
  (pss_one (ps_ret (pv 3))))) pss_nil)
  (pss_cons (ps_set (i:=4) nd rfl (Or.inl rfl) (pe_ix ix_list (pv 1) pe_int (fun _ _=>rfl)))
  (pss_cons (ps_augS (pv 1) pe_int get_list pe_int ip_add set_list)
  (pss_cons (ps_if (pt_cmpR (op_eqL hr) (pv 0) (pe_lst pa_nil) (nomark _)) (pss_one (ps_ret (pe_op op_mod (pv 4) (pv 2)))) pss_nil)
  (pss_cons (ps_if (PW.pt (pw_and (pt_cmpR op_lt (pv 4) (pe_callB call_len_seq rfl T.n_len bo_len (pa_c (pv 0) pa_nil)) (nomark _)) (pw_and1 (pt_cmpR op_ge (pe_ix ix_list (pv 0) (pv 4) (fun _ _=>rfl)) (pe_op op_pow pe_int pe_int) (nomark _))))) (pss_cons (ps_asg (pe_op op_mod (pe_op op_fdiv (pe_ix ix_list (pv 0) (pv 4) (fun _ _=>rfl)) (pv 2)) (pe_op op_mulB (pe_op op_pow pe_int pe_int) (pe_op op_pow pe_int pe_int))) (pg_sub (pv 1) pe_int set_list))
  (pss_one (ps_ret (pe_op op_mod (pe_ix ix_list (pv 0) (pv 4) (fun _ _=>rfl)) (pv 2))))) pss_nil)
  (pss_cons (ps_set (i:=5) nd rfl (Or.inl rfl) (pe_op op_mod (pe_op op_add (pe_op op_add (pe_op op_mul (pe_ix ix_list (pv 0) (pe_op op_mod (pv 4) (pe_callB call_len_seq rfl T.n_len bo_len (pa_c (pv 0) pa_nil))) (fun _ _=>rfl)) pe_int) (pe_op op_mul pe_int (pv 4))) pe_int) pe_int))
  (pss_one (ps_ret (pe_op op_mod (pe_op op_mod (pe_op op_mod (pe_op op_pow (pv 5) pe_int) pe_int) pe_int) (pv 2)))))))))),?_⟩
  refine ⟨_,rfl,t,_,1,_,rfl,rfl,SqL.of hT,at1,q,0,rfl,rfl,_,rfl,?_⟩
  refine ite2 (fun c=>?_) (fun c=>?_)
  · refine ⟨_,rfl,t,_,1,_,rfl,rfl,SqL.of hT,at1,_,rfl,q,m,rfl,rfl,hm,?_⟩
    refine ⟨_,rfl,t,_,1,_,rfl,rfl,SqL.of hT,at1,_,rfl,q,m,rfl,rfl,⟨hm,by omega⟩,?_⟩
    refine ⟨_,rfl,t,_,1,1,rfl,rfl,hT,ix1,?_⟩
    refine ⟨_,rfl,?_⟩
    exact post (q % m) _ p (q / m) (But.upd (Same.refl H).but) upd_same hp (Int.emod_nonneg _ (by omega)) (Int.emod_lt_of_pos _ hm)
  refine ⟨_,rfl,t,_,0,_,rfl,rfl,SqL.of hT,at0,?_⟩
  refine ⟨_,rfl,t,_,0,_,rfl,rfl,Int.le_refl 0,SqL.of hT,rfl,p,1,rfl,rfl,t,_,0,0,rfl,rfl,hT,ix0,?_⟩
  refine ⟨_,rfl,(by show 0 ≤ sizeLine; decide),fun l hl=>?_⟩
  have bt1:But t H (upd H t (.lst ((V.int p :: .int q :: rest).set 0 (.int (p + 1))))):=But.upd (Same.refl H).but
  have hlt:l ≠ t:=fun z=>by rw [z,upd_same] at hl; cases hl
  have bt3:=bt1.trans (same_new hl (.lst [])).but
  have ht3:upd (upd H t (.lst ((V.int p :: .int q :: rest).set 0 (.int (p + 1))))) l (.lst []) t = some (.lst (.int (p + 1) :: .int q :: rest)):=by
    rw [upd_ne (Ne.symm hlt)]; exact upd_same
  have hS3:=(hS.but bt3 hT).sqL
  have hlen:((ns.map V.int).length:Int) = (ns.length:Int):=by rw [List.length_map]
  refine ⟨a,l,_,[],ns.map D.int,[],rfl,rfl,hS3,SqL.of upd_same,dats_ints ns,Dats.nil,noLs_ints ns,(by unfold noLs; rfl),(by rw [deepDs_ints]; decide),_,rfl,?_⟩
  show (if eqDs (ns.map D.int) [] = true then _ else _)
  rw [eqDs_nil]
  refine ite2 (fun c0=>?_) (fun c0=>?_)
  · refine ⟨_,rfl,_,rfl,p,m,rfl,rfl,hm,?_⟩
    exact post _ _ (p + 1) q bt3 ht3 (by omega) (Int.emod_nonneg _ (by omega)) (Int.emod_lt_of_pos _ hm)
  have hl0:(0:Int) < ((ns.map V.int).length:Int):=by
    rw [hlen]
    cases ns with
    | nil=>exact absurd rfl c0
    | cons n ns=>rw [List.length_cons]; omega
  refine ⟨_,rfl,_,rfl,a,_,rfl,.inl hS3,p,_,rfl,rfl,_,rfl,?_⟩
  refine ite2 (fun c1=>?_) (fun c1=>?_)
  · have c1':p < ((ns.map V.int).length:Int):=of_decide_eq_true c1
    obtain ⟨z,hz⟩:=pickI (ns:=ns) hp (by rw [← hlen]; exact c1')
    refine ⟨_,rfl,_,rfl,a,_,p,_,rfl,rfl,hS3,hz,10,18,rfl,rfl,⟨by decide,by decide,by decide⟩,z,_,rfl,rfl,_,rfl,?_⟩
    refine ite2 (fun c2=>?_) (fun c2=>?_)
    · refine ⟨_,rfl,_,rfl,a,_,p,_,rfl,rfl,hS3,hz,_,rfl,z,m,rfl,rfl,⟨hm,by omega⟩,10,60,rfl,rfl,⟨by decide,by decide,by decide⟩,10,60,rfl,rfl,⟨by decide,by decide,by decide⟩,_,_,rfl,rfl,IntMulOk.of_bits (by decide +kernel) (by decide +kernel),_,_,rfl,rfl,(by show (0:Int) < 10 ^ (60:Int).toNat * 10 ^ (60:Int).toNat; decide +kernel),?_⟩
      refine ⟨_,rfl,t,_,1,1,rfl,rfl,ht3,ix1,?_⟩
      refine ⟨_,rfl,_,rfl,a,_,p,_,rfl,rfl,(hS.but bt3.upd hT).sqL,hz,_,rfl,z,m,rfl,rfl,hm,?_⟩
      exact post _ _ (p + 1) _ bt3.upd upd_same (by omega) (Int.emod_nonneg _ (by omega)) (Int.emod_lt_of_pos _ hm)
    · refine ⟨_,rfl,_,rfl,_,rfl,a,_,rfl,.inl hS3,p,_,rfl,rfl,hl0,?_⟩
      obtain ⟨z2,hz2⟩:=pickI (ns:=ns) (Int.emod_nonneg p (by omega:((ns.map V.int).length:Int) ≠ 0)) (by rw [← hlen]; exact Int.emod_lt_of_pos p hl0)
      refine ⟨a,_,_,_,rfl,rfl,hS3,hz2,z2,1103515245,rfl,rfl,.inr ⟨by decide,by decide⟩,_,rfl,7919,p,rfl,rfl,.inl ⟨by decide,by decide⟩,_,_,rfl,rfl,_,_,rfl,rfl,_,_,rfl,rfl,(by show (0:Int) < 2147483647; decide),?_⟩
      have m1:=Int.emod_nonneg (z2 * 1103515245 + 7919 * p + 12345) (by decide:(2147483647:Int) ≠ 0)
      have m2:=Int.emod_lt_of_pos (z2 * 1103515245 + 7919 * p + 12345) (by decide:(0:Int) < 2147483647)
      refine ⟨_,rfl,_,5,rfl,rfl,⟨by decide,by decide,by omega⟩,_,_,rfl,rfl,(by show (0:Int) < 2147483647; decide),_,_,rfl,rfl,(by show (0:Int) < 999983; decide),_,rfl,_,m,rfl,rfl,hm,?_⟩
      exact post _ _ (p + 1) q bt3 ht3 (by omega) (Int.emod_nonneg _ (by omega)) (Int.emod_lt_of_pos _ hm)
  · refine ⟨_,rfl,_,rfl,_,rfl,a,_,rfl,.inl hS3,p,_,rfl,rfl,hl0,?_⟩
    obtain ⟨z2,hz2⟩:=pickI (ns:=ns) (Int.emod_nonneg p (by omega:((ns.map V.int).length:Int) ≠ 0)) (by rw [← hlen]; exact Int.emod_lt_of_pos p hl0)
    refine ⟨a,_,_,_,rfl,rfl,hS3,hz2,z2,1103515245,rfl,rfl,.inr ⟨by decide,by decide⟩,_,rfl,7919,p,rfl,rfl,.inl ⟨by decide,by decide⟩,_,_,rfl,rfl,_,_,rfl,rfl,_,_,rfl,rfl,(by show (0:Int) < 2147483647; decide),?_⟩
    have m1:=Int.emod_nonneg (z2 * 1103515245 + 7919 * p + 12345) (by decide:(2147483647:Int) ≠ 0)
    have m2:=Int.emod_lt_of_pos (z2 * 1103515245 + 7919 * p + 12345) (by decide:(0:Int) < 2147483647)
    refine ⟨_,rfl,_,5,rfl,rfl,⟨by decide,by decide,by omega⟩,_,_,rfl,rfl,(by show (0:Int) < 2147483647; decide),_,_,rfl,rfl,(by show (0:Int) < 999983; decide),_,rfl,_,m,rfl,rfl,hm,?_⟩
    exact post _ _ (p + 1) q bt3 ht3 (by omega) (Int.emod_nonneg _ (by omega)) (Int.emod_lt_of_pos _ hm)
def spPick (K:PySem.W.Frag):Sp:=fun vs H Q _=>∃ (a t l:Addr) (ns:List Int) (xs:List V) (p q:Int) (rest:List V),vs = [.ref a,.ref t,.ref l]∧Scr K H a ns∧SqL K H l xs∧l ≠ t∧0 < xs.length∧xs.length ≤ 1000000 ∧
  H t = some (.lst (.int p :: .int q :: rest))∧0 ≤ p∧∀ (i:Nat) (x:V) (H':Hp) (p' q':Int),But t H H'→H' t = some (.lst (.int p' :: .int q' :: rest))→0 ≤ p'→xs[i]? = some x→Q x H'
theorem ok__law_pick (T:Txt K mg) (F__law_draw:FnOk P w K mg base CX0 k T.a__law_draw T.d__law_draw ["_law_script","_law_town","_law_many"] (spDraw K)):FnOk P w K mg base CX0 (k + 1) T.a__law_pick T.d__law_pick ["_law_script","_law_town","_law_some"] (spPick K):=by
  refine T.f__law_pick.ok sc__law_pick (fun vs H Q E h=>?_) (fun cdv A outer s H vs Q E hr h=>?_)
  · obtain ⟨a,t,l,ns,xs,p,q,rest,rfl,_⟩:=h; rfl
  have nd:=sc__law_pick.nd
  obtain ⟨a,t,l,ns,xs,p,q,rest,rfl,hS,hL,hlt,hx0,hx1,hT,hp,post⟩:=h
  refine ⟨_,(pss_one (ps_ret (pe_ix ix_list (pv 2) (pe_call F__law_draw hr rfl T.m__law_draw T.f__law_draw.kp (b__law_draw T) .nil pass0 (pa_c (pv 0) (pa_c (pv 1) (pa_c (pe_callB call_len_seq rfl T.n_len bo_len (pa_c (pv 2) pa_nil)) pa_nil)))) (fun _ _=>rfl)))),?_⟩
  refine ⟨_,rfl,_,rfl,_,rfl,_,rfl,l,xs,rfl,.inl hL,a,t,ns,(xs.length:Int),p,q,rest,rfl,hS,hT,hp,by omega,by omega,fun r H1 p1 q1 b1 t1 g1 r0 r1=>?_⟩
  have hr':r.toNat < xs.length:=by omega
  have er:r = ((r.toNat:Nat):Int):=by omega
  have z:atI xs ((r.toNat:Nat):Int) = some xs[r.toNat]:=atI_nat (List.getElem?_eq_getElem hr')
  rw [← er] at z
  exact ⟨l,xs,r,xs[r.toNat],rfl,rfl,b1.sqL hlt hL,z,post r.toNat _ H1 p1 q1 b1 t1 g1 (List.getElem?_eq_getElem hr')⟩
end
end My
end
section
namespace My
open PySem L2 PyProof.Rows
section
variable {P:Program} {w:World} {K:PySem.W.Frag} {mg:Str→Option Value} {base:Heap} {k:Nat}
def two (o:Str) (x y b:Int):Int:=if o = "less" then (if x < y then 1 else 0) else if o = "add" then (x + y) % b else if o = "sub" then (x - y) % b else x * y % b
def Rboth (ds:List D) (d:D):Prop:=∃ o x y b,ds = [.str o,.int x,.int y,.int b]∧2 ≤ b∧b ≤ 10000∧0 ≤ x∧x < b∧0 ≤ y∧y < b∧d = .int (two o x y b)
theorem dats4 {K:PySem.W.Frag} {H:Hp} {a b c e:D} {vs:List V} (h:Dats K H [a,b,c,e] vs):∃ u v w x,vs = [u,v,w,x]∧Dat K H a u∧Dat K H b v∧Dat K H c w∧Dat K H e x:=by
  obtain ⟨u,r,e,h1,h⟩:=h.consE
  obtain ⟨v,w,x,q,h2⟩:=dats3 h
  subst q e
  exact ⟨u,v,w,x,rfl,h1,h2⟩
theorem ok_worth_of_both (T:Txt K mg)  : FnOk P w K mg base CX0 (k + 1) T.a_worth_of_both T.d_worth_of_both ["kind","first","second","size"] (spD K Rboth):=by
  refine T.f_worth_of_both.ok sc_worth_of_both (fun vs H Q E h=>?_) (fun cdv A outer s H vs Q E hr h=>?_)
  · obtain ⟨ds,d,hd,⟨o,x,y,b,rfl,_⟩,_⟩:=h; exact hd.length.symm
  have nd:=sc_worth_of_both.nd
  obtain ⟨ds,d,hd,⟨o,x,y,b,rfl,hb,hb2,hx,hx2,hy,hy2,rfl⟩,post⟩:=h
  obtain ⟨v0,v1,v2,v3,rfl,q0,q1,q2,q3⟩:=dats4 hd
  refine ⟨_,(pss_cons (ps_if (pt_cmpR op_eq (pv 0) pe_str (nomark _)) (pss_one (ps_ret (pe_ifExp (pt_cmpR op_lt (pv 1) (pv 2) (nomark _)) pe_int pe_int))) pss_nil)
  (pss_cons (ps_if (pt_cmpR op_eq (pv 0) pe_str (nomark _)) (pss_one (ps_ret (pe_op op_mod (pe_op op_add (pv 1) (pv 2)) (pv 3)))) pss_nil)
  (pss_cons (ps_if (pt_cmpR op_eq (pv 0) pe_str (nomark _)) (pss_one (ps_ret (pe_op op_mod (pe_op op_sub (pv 1) (pv 2)) (pv 3)))) pss_nil)
  (pss_one (ps_ret (pe_op op_mod (pe_op op_mul (pv 1) (pv 2)) (pv 3))))))),?_⟩
  refine rs_ifr (K:=K) (b:=decide (o = "less")) (rt_test (re_eqS (re_var q0) re_str)) (fun c H1 s1=>?_) (fun c H1 s1=>?_)
  · refine rs_ret (K:=K) (d:=.int (two o x y b)) ?_ fun v H' s q=>post v H' (s1.trans s) q
    have e:two o x y b = if x < y then 1 else 0:=by unfold two; rw [if_pos (of_decide_eq_true c)]
    rw [e]
    refine re_if (b:=decide (x < y)) (rt_test (re_cmp (p:=fun i j=>decide (i < j)) (re_var (s1.dat q1)) (re_var (s1.dat q2)))) (fun c2=>?_) (fun c2=>?_)
    · rw [if_pos (of_decide_eq_true c2)]; exact re_int
    · rw [if_neg (of_decide_eq_false c2)]; exact re_int
  have q0:=s1.dat q0
  have q1:=s1.dat q1
  have q2:=s1.dat q2
  have q3:=s1.dat q3
  have n1:=of_decide_eq_false c
  refine rs_ifr (K:=K) (b:=decide (o = "add")) (rt_test (re_eqS (re_var q0) re_str)) (fun c H2 s2=>?_) (fun c H2 s2=>?_)
  · refine rs_ret (K:=K) (d:=.int (two o x y b)) ?_ fun v H' s q=>post v H' (s1.trans (s2.trans s)) q
    have e:two o x y b = (x + y) % b:=by unfold two; rw [if_neg n1,if_pos (of_decide_eq_true c)]
    rw [e]
    exact re_mod (re_add (re_var (s2.dat q1)) (re_var (s2.dat q2))) (re_var (s2.dat q3)) (by omega)
  have q0:=s2.dat q0
  have q1:=s2.dat q1
  have q2:=s2.dat q2
  have q3:=s2.dat q3
  have n2:=of_decide_eq_false c
  refine rs_ifr (K:=K) (b:=decide (o = "sub")) (rt_test (re_eqS (re_var q0) re_str)) (fun c H3 s3=>?_) (fun c H3 s3=>?_)
  · refine rs_ret (K:=K) (d:=.int (two o x y b)) ?_ fun v H' s q=>post v H' (s1.trans (s2.trans (s3.trans s))) q
    have e:two o x y b = (x - y) % b:=by unfold two; rw [if_neg n1,if_neg n2,if_pos (of_decide_eq_true c)]
    rw [e]
    exact re_mod (re_sub (re_var (s3.dat q1)) (re_var (s3.dat q2))) (re_var (s3.dat q3)) (by omega)
  have n3:=of_decide_eq_false c
  refine rs_ret (K:=K) (d:=.int (two o x y b)) ?_ fun v H' s q=>post v H' (s1.trans (s2.trans (s3.trans s))) q
  have e:two o x y b = x * y % b:=by unfold two; rw [if_neg n1,if_neg n2,if_neg n3]
  rw [e]
  exact re_mod (re_mul (re_var (s3.dat q1)) (re_var (s3.dat q2)) (.inr ⟨by omega,by omega⟩)) (re_var (s3.dat q3)) (by omega)
def argsD (d:D) (b:Int):Bool:=match d with
  | .tup ds=>decide ((ds.length:Int) = 4) && (ds.map fun x=>wholeD x 0 (b - 1)).all id
  | _=>false
def RneedS (ds:List D) (d:D):Prop:=∃ x,ds = [x,.int 10000]∧wholeD x 2 10000 = true∧d = .non
def BneedS (N:Addr) (ds:List D) (C:Addr):Prop:=∃ x,ds = [x,.int 10000]∧wholeD x 2 10000 = false∧C = N
def RneedA (ds:List D) (d:D):Prop:=∃ x b,ds = [x,.int b]∧2 ≤ b∧b ≤ 10000∧argsD x b = true∧d = .non
def BneedA (N:Addr) (ds:List D) (C:Addr):Prop:=∃ x b,ds = [x,.int b]∧2 ≤ b∧b ≤ 10000∧argsD x b = false∧C = N
theorem bnot_t {b:Bool} (h:(!b) = true):b = false:=by cases b with | true=>cases h | false=>rfl
theorem bnot_f {b:Bool} (h:(!b) = false):b = true:=by cases b with | true=>rfl | false=>cases h
theorem args_bits {s:Int} (h1:2 ≤ s) (h2:s ≤ 10000):(s - 1).natAbs.log2 < 1920:=by
  have h3:(s - 1).natAbs ≤ 10000:=by omega
  have h4:(s - 1).natAbs ≠ 0:=by omega
  rw [Nat.log2_lt h4]
  exact Nat.lt_of_le_of_lt h3 (Nat.lt_of_lt_of_le (by decide:10000 < 2 ^ 14) (Nat.pow_le_pow_right (by decide) (by decide)))
theorem ok_need_size (T:Txt K mg) (F_is_whole:FnOk P w K mg base CX0 k T.a_is_whole T.d_is_whole ["thing","low","high"] (spD K Rwhole)):FnOk P w K mg base (CX2 P w) (k + 1) T.a_need_size T.d_need_size ["size","most"] (spE K RneedS (BneedS T.a_NoSize)):=by
  refine T.f_need_size.ok2 sc_need_size (fun vs H Q E h=>?_) (fun cdv A outer s H vs Q E hr h=>?_)
  · obtain ⟨ds,hd,h⟩:=h; rcases h with ⟨d,⟨x,rfl,_⟩,_⟩ | ⟨C,⟨x,rfl,_⟩,_⟩ <;> exact hd.length.symm
  have nd:=sc_need_size.nd
  obtain ⟨ds,hd,h⟩:=h
  obtain ⟨x,rfl⟩:∃ x,ds = [x,.int 10000]:=by rcases h with ⟨d,⟨x,e,_⟩,_⟩ | ⟨C,⟨x,e,_⟩,_⟩ <;> exact ⟨x,e⟩
  obtain ⟨v0,v1,rfl,h0,h1⟩:=dats2 hd
  have e1:=h1.intE
  subst e1
  refine ⟨_,(pss_one (ps_if (pt_not (pt_truth (pe_call F_is_whole hr rfl T.m_is_whole T.f_is_whole.kp (b_is_whole T) .nil pass0 (pa_c (pv 0) (pa_c pe_int (pa_c (pv 1) pa_nil)))) (fun _=>rfl))) (pss_one (ps_raise2 PySem.F.excBase_ValueError rfl PySem.F.excBase_ValueError T.r_NoSize throw2 rfl T.g_NoSize (pa_c (pe_fstr2 (pv 1) (by decide)) pa_nil))) pss_nil)),?_⟩
  refine rs_if (b:=!wholeD x 2 10000) (rt_not (rt_truth (re_call (ra_cons (re_var h0) (ra_cons re_int (ra_cons (re_var h1) ra_nil))) ⟨x,2,10000,rfl,rfl⟩))) (fun c H1 s1=>?_) (fun c H1 s1=>?_)
  · rcases h with ⟨d,⟨y,e,h1,_⟩,_⟩ | ⟨C,⟨y,e,h1,rfl⟩,post⟩
    · cases e
      rw [h1] at c; cases c
    · exact ⟨_,rfl,10000,rfl,by decide +kernel,fun y=>⟨small (by simp),post _ s1⟩⟩
  · rcases h with ⟨d,⟨y,e,h1,rfl⟩,post⟩ | ⟨C,⟨y,e,h1,rfl⟩,post⟩
    · exact post _ _ s1 Dat.nonI
    · cases e
      rw [h1] at c; cases c
theorem ok_need_args (T:Txt K mg) (F_is_whole:FnOk P w K mg base CX0 k T.a_is_whole T.d_is_whole ["thing","low","high"] (spD K Rwhole)):FnOk P w K mg base (CX2 P w) (k + 1) T.a_need_args T.d_need_args ["args","size"] (spE K RneedA (BneedA T.a_NoArgs)):=by
  refine T.f_need_args.ok2 sc_need_args (fun vs H Q E h=>?_) (fun cdv A outer s H vs Q E hr h=>?_)
  · obtain ⟨ds,hd,h⟩:=h; rcases h with ⟨d,⟨x,b,rfl,_⟩,_⟩ | ⟨C,⟨x,b,rfl,_⟩,_⟩ <;> exact hd.length.symm
  have nd:=sc_need_args.nd
  obtain ⟨ds,hd,h⟩:=h
  obtain ⟨x,b,rfl,hb1,hb2⟩:∃ x b,ds = [x,.int b]∧2 ≤ b∧b ≤ 10000:=by rcases h with ⟨d,⟨x,b,e,h1,h2,_⟩,_⟩ | ⟨C,⟨x,b,e,h1,h2,_⟩,_⟩ <;> exact ⟨x,b,e,h1,h2⟩
  obtain ⟨v0,v1,rfl,q0,q1⟩:=dats2 hd
  have bad:argsD x b = false→∀ H',Same H H'→E (.ref T.a_NoArgs) none H':=fun c=>by
    rcases h with ⟨d,⟨y,b',e,_,_,h1,_⟩,_⟩ | ⟨C,⟨y,b',e,_,_,h1,rfl⟩,post⟩
    · cases e
      rw [h1] at c; cases c
    · exact post
  have good:argsD x b = true→∀ H',Same H H'→Q .non H':=fun c=>by
    rcases h with ⟨d,⟨y,b',e,_,_,h1,rfl⟩,post⟩ | ⟨C,⟨y,b',e,_,_,h1,rfl⟩,post⟩
    · exact fun H' s=>post _ _ s Dat.nonI
    · cases e
      rw [h1] at c; cases c
  refine ⟨_,(pss_cons (ps_if (PW.pt (pw_or (pt_not (pt_truth (pe_callB (call_isi hi_tuple) rfl T.n_isinstance bo_isinstance (pa_cons (pv 0) (pa_cons (pe_bltn (v:=.ty "tuple") rfl T.n_tuple bo_tuple rfl) pa_nil))) (fun _=>rfl))) (pw_or1 (pt_cmpR op_ne (pe_callB call_len_seq rfl T.n_len bo_len (pa_c (pv 0) pa_nil)) (pe_glob (v:=.int 4) rfl T.g_MANY_ARGS ⟨_,rfl⟩) (nomark _))))) (pss_one (ps_raise2 PySem.F.excBase_ValueError rfl PySem.F.excBase_ValueError T.r_NoArgs throw2 rfl T.g_NoArgs (pa_c pe_str pa_nil))) pss_nil)
  (pss_one (ps_if (pt_not (pt_truth (pe_callB (call_all rfl) rfl T.n_all bo_all (pa_c (pe_comp (own:=["number"]) (fr:=[1]) (N':=["number","size"]) (pi_tup (pv 0)) rfl (by show blkChk ["args","size"] (fun x=>(defScope s_need_args).names.lookup x) _ _ _ _ = true; decide +kernel) rfl (fun _ _ _ _ _=>(pg_name (i:=0) (by show List.Nodup [("number":Str),("size":Str)]; decide +kernel) rfl (Or.inl rfl))) (fun _ _ _ _ _=>pifs_nil) (fun _ _ _ _ _=>(pe_call F_is_whole hr rfl T.m_is_whole T.f_is_whole.kp (b_is_whole T) .nil pass0 (pa_c (pv 0) (pa_c pe_int (pa_c (pe_op op_sub (pv 1) pe_int) pa_nil)))))) pa_nil)) (fun _=>rfl))) (pss_one (ps_raise2 PySem.F.excBase_ValueError rfl PySem.F.excBase_ValueError T.r_NoArgs throw2 rfl T.g_NoArgs (pa_c (pe_fstr2 (pe_op op_sub (pv 1) pe_int) (by decide)) pa_nil))) pss_nil))),?_⟩
  by_cases hx:∃ xs,x = .tup xs
  · obtain ⟨xs,rfl⟩:=hx
    refine rs_ifr (K:=K) (b:=!decide ((xs.length:Int) = 4)) ?_ (fun c H1 s1=>?_) (fun c H1 s1=>?_)
    · exact RT.as (rt_or (rt_not (rt_truth (re_isi (re_var q0)))) fun _=>rt_test (re_neI (re_len (re_var q0)) re_int)) rfl
    · have e:argsD (.tup xs) b = false:=by
        unfold argsD
        dsimp only
        rw [bnot_t c]
        rfl
      exact ⟨small (by decide),bad e _ s1⟩
    have hl:=of_decide_eq_true (bnot_f c)
    have e0:argsD (.tup xs) b = (xs.map fun x=>wholeD x 0 (b - 1)).all id:=by
      show (_ && _) = _
      rw [bnot_f c]
      rfl
    have q0':=s1.dat q0
    have q1':=s1.dat q1
    refine rs_if (b:=!(xs.map fun x=>wholeD x 0 (b - 1)).all id) (rt_not (rt_truth (re_all_tup (re_var q0') (by omega) (xs.map fun x=>wholeD x 0 (b - 1)) (by simp) rfl (fun H2 i c v b' s2 hc hb hv=>?_)))) (fun c H2 s2=>?_) (fun c H2 s2=>?_)
    · rw [List.getElem?_map,hc] at hb
      cases hb
      exact re_call (R:=Rwhole) (ra_cons (re_var hv) (ra_cons re_int (ra_cons (re_sub (re_var (s2.dat q1')) re_int) ra_nil))) ⟨_,_,_,rfl,rfl⟩
    · have e:=e0.trans (bnot_t c)
      refine RE.use (re_sub (re_var (K:=K) (k:=1) (s2.dat q1')) (re_int (i:=1))) fun v H3 s3 q3=>⟨b - 1,q3.intE,args_bits hb1 hb2,fun y=>⟨small (by simp),bad e _ (s1.trans (s2.trans s3))⟩⟩
    · exact good (e0.trans (bnot_f c)) _ (s1.trans s2)
  · have e1:isiD x "tuple" = false:=by
      cases x with
      | tup xs=>exact absurd ⟨xs,rfl⟩ hx
      | _=>rfl
    have e:argsD x b = false:=by
      cases x with
      | tup xs=>exact absurd ⟨xs,rfl⟩ hx
      | _=>rfl
    refine rs_ifr (K:=K) (b:=true) ?_ (fun c H1 s1=>?_) (fun c=>nomatch c)
    · exact RT.as (rt_or (b:=true) (c:=true) (RT.as (rt_not (rt_truth (re_isi (re_var q0)))) (by rw [e1]; rfl)) fun c=>nomatch c) rfl
    · exact ⟨small (by decide),bad e _ s1⟩
end
end My
end
section
namespace My
open PySem L2 PyProof.Rows
section
variable {P:Program} {w:World} {K:PySem.W.Frag} {mg:Str→Option Value} {base:Heap} {k:Nat}
def cellB (d:D):Bool:=wholeD d 0 99
def codeB (ds:List D):Bool:=(decide (1 ≤ (ds.length:Int)) && decide ((ds.length:Int) ≤ 1000)) && (ds.map cellB).all id
def codeA:Ar→Bool
  | .l ds=>codeB ds
  | .d _=>false
def okA:Ar→Prop
  | .l _=>True
  | .d x=>isiD x "list" = false
def RcodeA (as:List Ar) (d:D):Prop:=∃ a,as = [a]∧okA a∧d = .bl (codeA a)
theorem ok_is_code (T:Txt K mg) (F_is_whole:FnOk P w K mg base CX0 k T.a_is_whole T.d_is_whole ["thing","low","high"] (spD K Rwhole)):FnOk P w K mg base CX0 (k + 1) T.a_is_code T.d_is_code ["thing"] (spA K RcodeA):=by
  refine T.f_is_code.ok sc_is_code (fun vs H Q E h=>?_) (fun cdv A outer s H vs Q E hr h=>?_)
  · obtain ⟨as,d,hd,⟨a,rfl,_⟩,_⟩:=h; exact hd.length.symm
  have nd:=sc_is_code.nd
  obtain ⟨as,d,hd,⟨a,rfl,hok,rfl⟩,post⟩:=h
  obtain ⟨v0,rfl,h0⟩:=ars1 hd
  refine ⟨_,(pss_cons (ps_if (PW.pt (pw_or (pt_not (pt_truth (pe_callB (call_isi hi_list) rfl T.n_isinstance bo_isinstance (pa_cons (pv 0) (pa_cons (pe_bltn (v:=.ty "list") rfl T.n_list bo_list rfl) pa_nil))) (fun _=>rfl))) (pw_or1 (pt_not (pt_chain op_le op_le pe_int (pe_callB call_len_seq rfl T.n_len bo_len (pa_c (pv 0) pa_nil)) (pe_glob (v:=.int 1000) rfl T.g_MOST_CELLS ⟨_,rfl⟩)))))) (pss_one (ps_ret pe_bl)) pss_nil)
  (pss_one (ps_ret (pe_callB (call_all rfl) rfl T.n_all bo_all (pa_c (pe_comp (own:=["cell"]) (fr:=[]) (N':=["cell"]) (pi_list (pv 0)) rfl (by show blkChk ["thing"] (fun x=>(defScope s_is_code).names.lookup x) _ _ _ _ = true; decide +kernel) rfl (fun _ _ _ _ _=>(pg_name (i:=0) (by show List.Nodup [("cell":Str)]; decide +kernel) rfl (Or.inl rfl))) (fun _ _ _ _ _=>pifs_nil) (fun _ _ _ _ _=>(pe_call F_is_whole hr rfl T.m_is_whole T.f_is_whole.kp (b_is_whole T) .nil pass0 (pa_c (pv 0) (pa_c pe_int (pa_c (pe_glob (v:=.int 99) rfl T.g_MOST_CELL ⟨_,rfl⟩) pa_nil)))))) pa_nil))))),?_⟩
  cases a with
  | d x =>
    have h0:Dat K H x v0:=h0
    have hok:isiD x "list" = false:=hok
    refine rs_ifr (K:=K) (b:=true) (RT.as (rt_or (b:=true) (c:=true) (RT.as (rt_not (rt_truth (re_isi (re_var h0)))) (by rw [hok]; rfl)) fun z=>nomatch z) rfl) (fun _ H1 s1=>?_) (fun c=>nomatch c)
    exact rs_ret (K:=K) (d:=.bl false) re_bl fun v H2 s2 q=>post v H2 (s1.trans s2) q
  | l ds =>
  have h0:LD K H ds v0:=h0
  refine rs_ifr (K:=K) (b:=!(decide (1 ≤ (ds.length:Int)) && decide ((ds.length:Int) ≤ 1000))) ?_ (fun c H1 s1=>?_) (fun c H1 s1=>?_)
  · exact RT.as (rt_or (b:=false) (RT.as (rt_not (rt_truth (re_isi (re_var h0.lst)))) rfl) fun _=>rt_not (rt_test (re_chain (p:=fun i j=>decide (i ≤ j)) (r:=fun i j=>decide (i ≤ j)) re_int (re_lenL (rl_var h0)) fun _=>re_int))) (Bool.false_or _)
  · refine rs_ret (K:=K) (d:=.bl false) re_bl fun v H2 s2 q=>post v H2 (s1.trans s2) ?_
    have e:codeA (.l ds) = false:=by
      show codeB ds = false
      unfold codeB
      have z:(decide (1 ≤ (ds.length:Int)) && decide ((ds.length:Int) ≤ 1000)) = false:=(Bool.not_eq_true' _).mp c
      rw [z]
      rfl
    rw [e]
    exact q
  · have z:(decide (1 ≤ (ds.length:Int)) && decide ((ds.length:Int) ≤ 1000)) = true:=(Bool.not_eq_false' _).mp c
    have l1000:ds.length ≤ 1000:=by rw [Bool.and_eq_true] at z; have:=of_decide_eq_true z.2; omega
    have e:codeA (.l ds) = (ds.map cellB).all id:=by show codeB ds = _; unfold codeB; rw [z]; rfl
    rw [e] at post
    refine rs_ret (K:=K) (d:=.bl ((ds.map cellB).all id)) (re_allC (bs:=ds.map cellB) (rc_listL (rl_var (s1.ld h0)) l1000 _ (by simp) rfl (fun G j x v d s2 hc hd hv=>?_))) fun v H2 s2 q=>post v H2 (s1.trans s2) q
    rw [List.getElem?_map,List.getElem?_map,hc] at hd
    cases hd
    exact re_call (R:=Rwhole) (ra_cons (re_var (k:=0) hv) (ra_cons re_int (ra_cons re_int ra_nil))) ⟨x,0,99,rfl,rfl⟩
def RncA (as:List Ar) (d:D):Prop:=∃ a,as = [a]∧okA a∧codeA a = true∧d = .non
def BncA (N:Addr) (as:List Ar) (C:Addr):Prop:=∃ a,as = [a]∧okA a∧codeA a = false∧C = N
theorem rb_one {σ:L2.St} {H:Hp} {a:Ar} {v:V} {k:Nat} (h:ArI K H a v) (e:σ[k]? = some (some v):=by rfl):RB K (tCons (tVar k) tNil) σ H [a]:=by
  cases a with
  | d x=>exact rb_d (re_var (k:=k) (show Dat K H x v from h) e) rb_nil
  | l ds=>exact rb_l (rl_var (k:=k) (show LD K H ds v from h) e) rb_nil
theorem ok_need_code (T:Txt K mg) (F_is_code:FnOk P w K mg base CX0 k T.a_is_code T.d_is_code ["thing"] (spA K RcodeA)):FnOk P w K mg base (CX2 P w) (k + 1) T.a_need_code T.d_need_code ["code"] (spAE K RncA (BncA T.a_NoCode)):=by
  refine T.f_need_code.ok2 sc_need_code (fun vs H Q E h=>?_) (fun cdv A outer s H vs Q E hr h=>?_)
  · obtain ⟨as,hd,h⟩:=h; rcases h with ⟨d,⟨a,rfl,_⟩,_⟩ | ⟨C,⟨a,rfl,_⟩,_⟩ <;> exact hd.length.symm
  have nd:=sc_need_code.nd
  obtain ⟨as,hd,h⟩:=h
  refine ⟨_,(pss_one (ps_if (pt_not (pt_truth (pe_call F_is_code hr rfl T.m_is_code T.f_is_code.kp (b_is_code T) .nil pass0 (pa_c (pv 0) pa_nil)) (fun _=>rfl))) (pss_one (ps_raise2 PySem.F.excBase_ValueError rfl PySem.F.excBase_ValueError T.r_NoCode throw2 rfl T.g_NoCode (pa_c pe_str pa_nil))) pss_nil)),?_⟩
  rcases h with ⟨d,⟨a,rfl,hok,hB,rfl⟩,post⟩ | ⟨C,⟨a,rfl,hok,hB,rfl⟩,post⟩
  · obtain ⟨v0,rfl,h0⟩:=ars1 hd
    exact rs_if (b:=false) (RT.as (rt_not (rt_truth (re_callA (K:=K) (R:=RcodeA) (rb_one h0) ⟨a,rfl,hok,rfl⟩))) (by rw [hB]; rfl)) (fun c=>nomatch c) (fun _ H1 s1=>post _ H1 s1 Dat.nonI)
  · obtain ⟨v0,rfl,h0⟩:=ars1 hd
    exact rs_if (b:=true) (RT.as (rt_not (rt_truth (re_callA (K:=K) (R:=RcodeA) (rb_one h0) ⟨a,rfl,hok,rfl⟩))) (by rw [hB]; rfl)) (fun _ H1 s1=>⟨small (by decide),post H1 s1⟩) (fun c=>nomatch c)
end
end My
end
section
namespace My
open PySem L2 PyProof.Rows
section
variable {P:Program} {w:World} {K:PySem.W.Frag} {mg:Str→Option Value} {base:Heap} {k:Nat}
abbrev NM:List Str:=["end","put","far","load","add","sub","mul","less","skip","jump","zero","none","more","twice","about","call","back"]
def behN (i:Int):Nat:=if i ∈ ([2,9,11,15]:List Int) then 2 else if i ∈ ([1,3,8,10,12]:List Int) then 1 else 0
structure okC (cs:List Int):Prop where
  l0:1 ≤ cs.length
  l1:cs.length ≤ 900
  c:∀ (i:Nat) (c:Int),cs[i]? = some c→0 ≤ c∧c ≤ 99
abbrev cD (cs:List Int):List D:=cs.map D.int
def behC (cs:List Int) (p m:Nat):List D:=((cD cs).drop (p + 1)).take m
def nmC (c:Int):Str:=NM.getD c.toNat ""
def rowD (cs:List Int) (p:Nat) (c:Int):D:=.tup [.int p,.str (nmC c),.tup (behC cs p (behN c))]
def badC (cs:List Int) (p:Nat) (c:Int):Bool:=decide (16 < c) || decide (cs.length ≤ p + behN c)
theorem ins_row:∀ i:Nat,i < 17→INS[i]? = some (.tup [.str (NM.getD i ""),.int ((behN i:Nat):Int)]):=by
  intro i hi
  match i,hi with
  | 0,_=>rfl
  | 1,_=>rfl
  | 2,_=>rfl
  | 3,_=>rfl
  | 4,_=>rfl
  | 5,_=>rfl
  | 6,_=>rfl
  | 7,_=>rfl
  | 8,_=>rfl
  | 9,_=>rfl
  | 10,_=>rfl
  | 11,_=>rfl
  | 12,_=>rfl
  | 13,_=>rfl
  | 14,_=>rfl
  | 15,_=>rfl
  | 16,_=>rfl
  | n + 17,h=>omega
theorem beh_le2 (c:Int):behN c ≤ 2:=by
  unfold behN
  split
  · exact Nat.le_refl _
  · split <;> omega
theorem cD_at {cs:List Int} {p:Nat} {c:Int} (h:cs[p]? = some c):(cD cs)[p]? = some (.int c):=by
  rw [List.getElem?_map,h]
  rfl
theorem behC_len {cs:List Int} {p m:Nat}:(behC cs p m).length = min m (cs.length - (p + 1)):=by
  unfold behC
  rw [List.length_take,List.length_drop,List.length_map]
theorem bad_f {cs:List Int} {p:Nat} {c:Int} (h:badC cs p c = false):c ≤ 16∧p + behN c < cs.length:=by
  unfold badC at h
  rw [Bool.or_eq_false_iff] at h
  have h1:=of_decide_eq_false h.1
  have h2:=of_decide_eq_false h.2
  omega
theorem bad_t {cs:List Int} {p:Nat} {c:Int} (h:badC cs p c = true):16 < c∨(c ≤ 16∧cs.length ≤ p + behN c):=by
  unfold badC at h
  rw [Bool.or_eq_true] at h
  by_cases h16:16 < c
  · exact .inl h16
  · rcases h with h | h
    · exact absurd (of_decide_eq_true h) h16
    · exact .inr ⟨by omega,of_decide_eq_true h⟩
def Rinst (as:List Ar) (d:D):Prop:=∃ (cs:List Int) (p:Nat) (c:Int),as = [.l (cD cs),.d (.int p)]∧okC cs∧cs[p]? = some c∧badC cs p c = false∧d = .tup [.str (nmC c),.tup (behC cs p (behN c))]
def badP (cs:List Int) (p:Nat):Bool:=match cs[p]? with
  | none=>true
  | some c=>badC cs p c
def Binst (N:Addr) (as:List Ar) (C:Addr) (i:Int):Prop:=∃ (cs:List Int) (p:Nat),as = [.l (cD cs),.d (.int p)]∧okC cs∧badP cs p = true∧C = N∧i = p
theorem ok_instruction_at (T:Txt K mg) (F_Fault__init:FnOk P w K mg base CX0 k T.i_Fault T.di_Fault ["self","place"] (spInit2 T.a_Fault "place")):FnOk P w K mg base (CX2 P w) (k + 1 + 1) T.a_instruction_at T.d_instruction_at ["cells","place"] (spAF K "place" Rinst (Binst T.a_Fault)):=by
  refine T.f_instruction_at.ok2 sc_instruction_at (fun vs H Q E h=>?_) (fun cdv A outer s H vs Q E hr h=>?_)
  · obtain ⟨as,hd,h⟩:=h; rcases h with ⟨d,⟨cs,p,c,rfl,_⟩,_⟩ | ⟨C,i,⟨cs,p,rfl,_⟩,_⟩ <;> exact hd.length.symm
  have nd:=sc_instruction_at.nd
  obtain ⟨as,hd,h⟩:=h
  refine ⟨_,(pss_cons (ps_if (PW.pt (pw_or (pt_cmpR op_ge (pv 1) (pe_callB call_len_seq rfl T.n_len bo_len (pa_c (pv 0) pa_nil)) (nomark _)) (pw_or1 (pt_cmpR op_ge (pe_ix ix_list (pv 0) (pv 1) (fun _ _=>rfl)) (pe_callB call_len_seq rfl T.n_len bo_len (pa_c (pe_glob (v:=.ref T.a_INSTRUCTIONS) rfl T.g_INSTRUCTIONS rfl) pa_nil)) (nomark _))))) (pss_one (ps_raiseI2 T.c_Fault F_Fault__init (bi_Fault T) hr throw2 rfl T.g_Fault (pa_c (pv 1) pa_nil))) pss_nil)
  (pss_cons (ps_asg (pe_ix ix_tup (pe_glob (v:=.ref T.a_INSTRUCTIONS) rfl T.g_INSTRUCTIONS rfl) (pe_ix ix_list (pv 0) (pv 1) (fun _ _=>rfl)) (fun _ _=>rfl)) (pg_tup rfl (pgs_cons (pg_name (i:=2) nd rfl (Or.inl rfl)) (pgs_cons (pg_name (i:=3) nd rfl (Or.inl rfl)) pgs_nil))))
  (pss_cons (ps_set (i:=4) nd rfl (Or.inl rfl) (pe_callTy call_tuple_of rfl T.n_tuple bo_tuple (pa_c (pe_slice sl_list (pv 0) (po_some (pe_op op_add (pv 1) pe_int)) (po_some (pe_op op_add (pe_op op_add (pv 1) pe_int) (pv 3)))) pa_nil)))
  (pss_cons (ps_if (pt_cmpR op_lt (pe_callB call_len_seq rfl T.n_len bo_len (pa_c (pv 4) pa_nil)) (pv 3) (nomark _)) (pss_one (ps_raiseI2 T.c_Fault F_Fault__init (bi_Fault T) hr throw2 rfl T.g_Fault (pa_c (pv 1) pa_nil))) pss_nil)
  (pss_one (ps_ret (pe_tup (pa_c (pv 2) (pa_c (pv 4) pa_nil))))))))),?_⟩
  rcases h with ⟨d,⟨cs,p,c,rfl,ok,hc,hb,rfl⟩,post⟩ | ⟨C,i,⟨cs,p,rfl,ok,hbp,rfl,rfl⟩,post⟩
  · obtain ⟨v0,v1,rfl,h0,h1⟩:=ars2 hd
    have h0:LD K H (cD cs) v0:=h0
    have h1:Dat K H (.int (p:Int)) v1:=h1
    obtain rfl:=h1.intE
    have hp:p < cs.length:=(List.getElem?_eq_some_iff.mp hc).1
    obtain ⟨c0,c99⟩:=ok.c p c hc
    have ec:c = ((c.toNat:Nat):Int):=by omega
    have hc':=cD_at hc
    obtain ⟨h16,hlt⟩:=bad_f hb
    have lb:(behC cs p (behN c)).length = behN c:=by rw [behC_len]; omega
    refine rs_ifr (K:=K) (b:=false) (RT.as (rt_or (b:=false) (c:=false) (RT.as (rt_test (re_cmp (p:=fun i j=>decide (j ≤ i)) (re_var h1) (re_lenL (rl_var h0)))) (decide_eq_false (by rw [List.length_map]; omega))) fun _=>RT.as (rt_test (re_cmp (p:=fun i j=>decide (j ≤ i)) (re_ixL (k:=p) (rl_var h0) (re_var h1) hc') (re_len (re_con T.c_INSTRUCTIONS)))) (decide_eq_false (by show ¬ (17:Int) ≤ c; omega))) rfl) (fun c=>nomatch c) (fun _ H1 s1=>?_)
    have h0:=s1.ld h0
    have h1:=s1.dat h1
    have hi:=ins_row c.toNat (by omega)
    rw [← ec] at hi
    refine rs_unp2 (K:=K) (d:=.str (nmC c)) (e:=.int (behN c)) (re_ix (k:=c.toNat) (re_con T.c_INSTRUCTIONS) (RE.as (re_ixL (k:=p) (rl_var h0) (re_var h1) hc') (congrArg D.int ec)) hi) fun v2 v3 H2 s2 h2 h3=>?_
    have h0:=s2.ld h0
    have h1:=s2.dat h1
    have el:(p:Int) + 1 = ((p + 1:Nat):Int):=by omega
    have eh:(p:Int) + 1 + (behN c:Int) = ((p + 1 + behN c:Nat):Int):=by omega
    refine rs_setr (K:=K) (d:=.tup (behC cs p (behN c))) (RE.as (re_tupleC (rc_cutB (lo:=p + 1) (hi:=p + 1 + behN c) (rl_var h0) (RE.as (re_add (re_var h1) re_int) (congrArg D.int el)) (RE.as (re_add (re_add (re_var h1) re_int) (re_var h3)) (congrArg D.int eh)))) (by unfold behC; rw [show p + 1 + behN c - (p + 1) = behN c by omega])) fun v4 H3 s3 h4=>?_
    refine rs_ifr (K:=K) (b:=false) (RT.as (rt_test (re_cmp (p:=fun i j=>decide (i < j)) (re_len (re_var h4)) (re_var (s3.dat h3)))) (decide_eq_false (by rw [lb]; omega))) (fun c=>nomatch c) (fun _ H4 s4=>?_)
    exact rs_ret (K:=K) (d:=.tup [.str (nmC c),.tup (behC cs p (behN c))]) (re_tup (ra_cons (re_var (s4.dat (s3.dat h2))) (ra_cons (re_var (s4.dat h4)) ra_nil))) fun v H' s q=>post v H' (s1.trans (s2.trans (s3.trans (s4.trans s)))) q
  · unfold badP at hbp
    split at hbp
    · rename_i hn
      obtain ⟨v0,v1,rfl,h0,h1⟩:=ars2 hd
      have h0:LD K H (cD cs) v0:=h0
      have h1:Dat K H (.int (p:Int)) v1:=h1
      obtain rfl:=h1.intE
      have hp:cs.length ≤ p:=List.getElem?_eq_none_iff.mp hn
      refine rs_ifr (K:=K) (b:=true) (RT.as (rt_or (b:=true) (c:=true) (RT.as (rt_test (re_cmp (p:=fun i j=>decide (j ≤ i)) (re_var h1) (re_lenL (rl_var h0)))) (decide_eq_true (by rw [List.length_map]; omega))) fun z=>nomatch z) rfl) (fun _ H1 s1=>?_) (fun c=>nomatch c)
      exact ⟨_,rfl,_,rfl,fun dx n=>post _ dx (s1.trans (same_new n _)) upd_same⟩
    rename_i c hc
    have hb:=hbp
    obtain ⟨v0,v1,rfl,h0,h1⟩:=ars2 hd
    have h0:LD K H (cD cs) v0:=h0
    have h1:Dat K H (.int (p:Int)) v1:=h1
    obtain rfl:=h1.intE
    have hp:p < cs.length:=(List.getElem?_eq_some_iff.mp hc).1
    obtain ⟨c0,c99⟩:=ok.c p c hc
    have ec:c = ((c.toNat:Nat):Int):=by omega
    have hc':=cD_at hc
    rcases bad_t hb with h16 | ⟨h16,hlt⟩
    · refine rs_ifr (K:=K) (b:=true) (RT.as (rt_or (b:=false) (c:=true) (RT.as (rt_test (re_cmp (p:=fun i j=>decide (j ≤ i)) (re_var h1) (re_lenL (rl_var h0)))) (decide_eq_false (by rw [List.length_map]; omega))) fun _=>RT.as (rt_test (re_cmp (p:=fun i j=>decide (j ≤ i)) (re_ixL (k:=p) (rl_var h0) (re_var h1) hc') (re_len (re_con T.c_INSTRUCTIONS)))) (decide_eq_true (by show (17:Int) ≤ c; omega))) rfl) (fun _ H1 s1=>?_) (fun c=>nomatch c)
      exact ⟨_,rfl,_,rfl,fun dx n=>post _ dx (s1.trans (same_new n _)) upd_same⟩
    · have lb:(behC cs p (behN c)).length < behN c:=by rw [behC_len]; omega
      refine rs_ifr (K:=K) (b:=false) (RT.as (rt_or (b:=false) (c:=false) (RT.as (rt_test (re_cmp (p:=fun i j=>decide (j ≤ i)) (re_var h1) (re_lenL (rl_var h0)))) (decide_eq_false (by rw [List.length_map]; omega))) fun _=>RT.as (rt_test (re_cmp (p:=fun i j=>decide (j ≤ i)) (re_ixL (k:=p) (rl_var h0) (re_var h1) hc') (re_len (re_con T.c_INSTRUCTIONS)))) (decide_eq_false (by show ¬ (17:Int) ≤ c; omega))) rfl) (fun c=>nomatch c) (fun _ H1 s1=>?_)
      have h0:=s1.ld h0
      have h1:=s1.dat h1
      have hi:=ins_row c.toNat (by omega)
      rw [← ec] at hi
      refine rs_unp2 (K:=K) (d:=.str (nmC c)) (e:=.int (behN c)) (re_ix (k:=c.toNat) (re_con T.c_INSTRUCTIONS) (RE.as (re_ixL (k:=p) (rl_var h0) (re_var h1) hc') (congrArg D.int ec)) hi) fun v2 v3 H2 s2 h2 h3=>?_
      have h0:=s2.ld h0
      have h1:=s2.dat h1
      have el:(p:Int) + 1 = ((p + 1:Nat):Int):=by omega
      have eh:(p:Int) + 1 + (behN c:Int) = ((p + 1 + behN c:Nat):Int):=by omega
      refine rs_setr (K:=K) (d:=.tup (behC cs p (behN c))) (RE.as (re_tupleC (rc_cutB (lo:=p + 1) (hi:=p + 1 + behN c) (rl_var h0) (RE.as (re_add (re_var h1) re_int) (congrArg D.int el)) (RE.as (re_add (re_add (re_var h1) re_int) (re_var h3)) (congrArg D.int eh)))) (by unfold behC; rw [show p + 1 + behN c - (p + 1) = behN c by omega])) fun v4 H3 s3 h4=>?_
      refine rs_ifr (K:=K) (b:=true) (RT.as (rt_test (re_cmp (p:=fun i j=>decide (i < j)) (re_len (re_var h4)) (re_var (s3.dat h3)))) (decide_eq_true (by omega))) (fun _ H4 s4=>?_) (fun c=>nomatch c)
      exact ⟨_,rfl,_,rfl,fun dx n=>post _ dx (s1.trans (s2.trans (s3.trans (s4.trans (same_new n _))))) upd_same⟩
def numI (ns:List Int):Int:=ns.foldr (fun c acc=>acc * 100 + c) 0
def Rnum (ds:List D) (d:D):Prop:=∃ ns:List Int,ds = [.tup (ns.map D.int)]∧ns.length ≤ 2∧(∀ n ∈ ns,0 ≤ n∧n ≤ 99)∧d = .int (numI ns)
theorem num_bd {ns:List Int}:ns.length ≤ 2→(∀ n ∈ ns,0 ≤ n∧n ≤ 99)→0 ≤ numI ns∧numI ns ≤ 9999:=by
  intro h2 h
  match ns,h2 with
  | [],_=>exact ⟨Int.le_refl _,by decide⟩
  | [a],_ =>
    have ha:=h a (by simp)
    show 0 ≤ (0:Int) * 100 + a∧(0:Int) * 100 + a ≤ 9999
    omega
  | [a,b],_ =>
    have ha:=h a (by simp)
    have hb:=h b (by simp)
    show 0 ≤ ((0:Int) * 100 + b) * 100 + a∧((0:Int) * 100 + b) * 100 + a ≤ 9999
    omega
theorem ok_number_told (T:Txt K mg)  : FnOk P w K mg base CX0 (k + 1) T.a_number_told T.d_number_told ["behind"] (spD K Rnum):=by
  refine T.f_number_told.ok sc_number_told (fun vs H Q E h=>?_) (fun cdv A outer s H vs Q E hr h=>?_)
  · obtain ⟨ds,d,hd,⟨ns,rfl,_⟩,_⟩:=h; exact hd.length.symm
  have nd:=sc_number_told.nd
  obtain ⟨ds,d,hd,⟨ns,rfl,l2,hb,rfl⟩,post⟩:=h
  obtain ⟨v0,rfl,h0⟩:=dats1 hd
  refine ⟨_,(pss_cons (ps_set (i:=1) nd rfl (Or.inl rfl) pe_int)
  (pss_cons (ps_for PassesOwn.never rfl (pi_revT rfl T.n_reversed (pa_c (pv 0) pa_nil)) (pg_name (i:=2) nd rfl (Or.inl rfl)) (pss_one (ps_set (i:=1) nd rfl (Or.inl rfl) (pe_op op_add (pe_op op_mul (pv 1) pe_int) (pv 2)))))
  (pss_one (ps_ret (pv 1))))),?_⟩
  refine rs_setr (K:=K) (d:=.int 0) re_int fun v1 H1 s1 q1=>?_
  obtain rfl:=q1.intE
  obtain ⟨a,vs,rfl,hq,hds⟩:=(s1.dat h0).tupE
  have ev:=datIs hds
  have ll:=hds.length
  rw [List.length_map] at ll
  refine rs_seq ⟨_,rfl,a,vs,rfl,hq,for_revT (K:=K) (a:=a) (xs:=vs) (fun i σ G=>∃ z:Option V,σ = [some (.ref a),some (.int (numI (ns.drop (ns.length - i)))),z]∧Same H1 G) ?_ ?_ ?_ ?_⟩
  · refine ⟨none,?_,Same.refl _⟩
    rw [Nat.sub_zero,List.drop_length]
    rfl
  · rintro i σ G hi ⟨z,rfl,sG⟩
    exact sG.sqT hq
  · rintro i x σ G hi hx ⟨z,rfl,sG⟩
    refine rg_name ?_
    dsimp only
    rw [ev,List.getElem?_map,List.length_map] at hx
    obtain ⟨c,hc,rfl⟩:=Option.map_eq_some_iff.mp hx
    have hcb:=hb c (List.mem_of_getElem? hc)
    have nb:=num_bd (ns:=ns.drop (ns.length - i)) (by rw [List.length_drop]; omega) (fun n hn=>hb n (List.mem_of_mem_drop hn))
    have e:ns.drop (ns.length - (i + 1)) = c :: ns.drop (ns.length - i):=by
      have h1:ns.length - (i + 1) < ns.length:=by omega
      rw [List.drop_eq_getElem_cons h1]
      have h2:ns.length - (i + 1) + 1 = ns.length - i:=by omega
      rw [h2]
      congr 1
      have h3:ns.length - 1 - i = ns.length - (i + 1):=by omega
      rw [h3,List.getElem?_eq_getElem h1] at hc
      exact Option.some.inj hc
    refine rs_set (K:=K) (d:=.int (numI (ns.drop (ns.length - i)) * 100 + c)) (re_add (re_mul (re_var (k:=1) (Dat.intI _)) re_int (.inr ⟨by omega,by omega⟩)) (re_var (k:=2) (Dat.intI c))) fun v H' s d=>⟨some (.int c),?_,sG.trans s⟩
    rw [e,d.intE]
    rfl
  · rintro σ G ⟨z,rfl,sG⟩
    have e:ns.drop (ns.length - vs.length) = ns:=by rw [← ll,Nat.sub_self]; rfl
    rw [e]
    exact ⟨_,rfl,post _ _ (s1.trans sG) (Dat.intI _)⟩
end
end My
end
section
namespace My
open PySem L2 PyProof.Rows
section
variable {P:Program} {w:World} {K:PySem.W.Frag} {mg:Str→Option Value} {base:Heap} {k:Nat}
structure MS where
  pile:List Int
  place:Nat
  kept:List Nat
  ended:Bool
structure MC where
  cs:List Int
  as:List Int
  b:Int
structure okMC (mc:MC):Prop where
  cs:okC mc.cs
  as:mc.as.length = 4
  ai:∀ x ∈ mc.as,0 ≤ x∧x < mc.b
  b2:2 ≤ mc.b
  b9:mc.b ≤ 10000
structure okMS (mc:MC) (st:MS):Prop where
  p:∀ x ∈ st.pile,0 ≤ x∧x < mc.b
  l:st.pile.length ≤ 64
  k:st.kept.length ≤ 16
def takeM (st:MS):Option (Int × MS):=match st.pile with
  | []=>none
  | x :: r=>some (x,{ st with pile:=r })
def pushM (mc:MC) (n:Int) (st:MS):Option MS:=if st.pile.length = 64 then none else some { st with pile:=(n % mc.b) :: st.pile }
def wayM (nm:Str) (num on:Nat) (st:MS):Option (Nat × MS) :=
  if nm ∈ (["skip","jump"]:List Str) then some (on + num,st)
  else if nm ∈ (["zero","none"]:List Str) then (takeM st).map fun p=>(if p.1 = 0 then on + num else on,p.2)
  else if nm = "call" then (if st.kept.length = 16 then none else some (num,{ st with kept:=on :: st.kept }))
  else match st.kept with
    | []=>none
    | k :: r=>some (k,{ st with kept:=r })
def finishM (st:MS):Option MS:=if st.pile.length = 1 then some { st with ended:=true } else none
def changeM (mc:MC) (nm:Str) (num:Nat) (st:MS):Option MS :=
  if nm ∈ (["put","far"]:List Str) then pushM mc num st
  else if nm = "load" then pushM mc (mc.as.getD num 0) st
  else (takeM st).bind fun u =>
    if nm = "more" then pushM mc (u.1 + num) u.2
    else if nm = "twice" then (pushM mc u.1 u.2).bind fun s=>pushM mc u.1 s
    else if nm = "about" then (takeM u.2).bind fun l=>(pushM mc u.1 l.2).bind fun s=>pushM mc l.1 s
    else (takeM u.2).bind fun l=>pushM mc (two nm l.1 u.1 mc.b) l.2
structure MA where
  m:Addr
  dx:Addr
  lp:Addr
  lk:Addr
  lc:Addr
  vg:V
def mF (A:MA) (mc:MC) (st:MS):List (Str × V):=[("cells",.ref A.lc),("given",A.vg),("size",.int mc.b),("pile",.ref A.lp),("place",.int st.place),("kept",.ref A.lk),("ended",.bl st.ended)]
def pV (l:List Int):List V:=l.reverse.map V.int
def kpV (l:List Nat):List V:=l.reverse.map fun (n:Nat)=>V.int n
theorem pV_cons (x:Int) (l:List Int):pV (x :: l) = pV l ++ [.int x]:=by unfold pV; rw [List.reverse_cons,List.map_append]; rfl
theorem kpV_cons (x:Nat) (l:List Nat):kpV (x :: l) = kpV l ++ [.int x]:=by unfold kpV; rw [List.reverse_cons,List.map_append]; rfl
theorem pV_len (l:List Int):(pV l).length = l.length:=by unfold pV; rw [List.length_map,List.length_reverse]
theorem kpV_len (l:List Nat):(kpV l).length = l.length:=by unfold kpV; rw [List.length_map,List.length_reverse]
structure MacAt (K:PySem.W.Frag) (C:Addr) (A:MA) (mc:MC) (st:MS) (H:Hp):Prop where
  ins:H A.m = some (.ins C A.dx (mF A mc st))
  cells:H A.lc = some (.lst (mc.cs.map V.int))
  given:Dat K H (.tup (mc.as.map D.int)) A.vg
  pile:H A.lp = some (.lst (pV st.pile))
  kept:H A.lk = some (.lst (kpV st.kept))
  ne:A.lp ≠ A.lk
  c1:A.lc ≠ A.lp
  c2:A.lc ≠ A.lk
def ButM (A:MA) (H H':Hp):Prop:=∀ x o,x ≠ A.m→x ≠ A.lp→x ≠ A.lk→H x = some o→H' x = some o
theorem ButM.trans {A:MA} {H H1 H2:Hp} (a:ButM A H H1) (b:ButM A H1 H2):ButM A H H2:=fun x o n1 n2 n3 e=>b x o n1 n2 n3 (a x o n1 n2 n3 e)
theorem sBut {A:MA} {H H':Hp} (s:Same H H'):ButM A H H':=fun x o _ _ _ e=>s x o e
theorem ButM.lp {A:MA} {H:Hp} {o:HO}:ButM A H (upd H A.lp o):=fun x u _ n _ e=>by rw [upd_ne n]; exact e
theorem ButM.lk {A:MA} {H:Hp} {o:HO}:ButM A H (upd H A.lk o):=fun x u _ _ n e=>by rw [upd_ne n]; exact e
theorem ButM.m {A:MA} {H:Hp} {o:HO}:ButM A H (upd H A.m o):=fun x u n _ _ e=>by rw [upd_ne n]; exact e
section
variable {C:Addr} {A:MA} {mc:MC} {st:MS} {H H':Hp}
theorem MacAt.same (M:MacAt K C A mc st H) (s:Same H H'):MacAt K C A mc st H':=⟨s _ _ M.ins,s _ _ M.cells,s.dat M.given,s _ _ M.pile,s _ _ M.kept,M.ne,M.c1,M.c2⟩
theorem MacAt.np (M:MacAt K C A mc st H):A.m ≠ A.lp:=fun z=>by have:=M.ins; rw [z,M.pile] at this; cases this
theorem MacAt.nk (M:MacAt K C A mc st H):A.m ≠ A.lk:=fun z=>by have:=M.ins; rw [z,M.kept] at this; cases this
theorem grow_one {b:Addr} {o o':HO} (h:H b = some o) (ho:(∃ xs,o = .lst xs)∨∃ C dx fs,o = .ins C dx fs) (hl:∀ xs,o = .lst xs→∃ ys,o' = .lst ys):Grow K H (upd H b o'):=by
  refine ⟨fun a xs q=>?_,fun a xs q=>?_⟩
  · rcases q with (q | ⟨u,q⟩) | q
    · refine .inl (.inl ?_)
      rw [upd_ne (fun z=>?_)]
      · exact q
      · rw [z,h] at q; rcases ho with ⟨_,rfl⟩ | ⟨_,_,_,rfl⟩ <;> cases q
    · refine .inl (.inr ⟨u,?_⟩)
      rw [upd_ne (fun z=>?_)]
      · exact q
      · rw [z,h] at q; rcases ho with ⟨_,rfl⟩ | ⟨_,_,_,rfl⟩ <;> cases q
    · exact .inr q
  · by_cases hab:a = b
    · subst hab
      rcases q with (q | ⟨u,q⟩) | q
      · rw [h] at q
        cases q
        obtain ⟨ys,rfl⟩:=hl _ rfl
        exact ⟨ys,SqL.of upd_same⟩
      · rw [h] at q; rcases ho with ⟨_,rfl⟩ | ⟨_,_,_,rfl⟩ <;> cases q
      · exact ⟨xs,.inr q⟩
    · rcases q with (q | ⟨u,q⟩) | q
      · exact ⟨xs,.inl (.inl (by rw [upd_ne hab]; exact q))⟩
      · exact ⟨xs,.inl (.inr ⟨u,by rw [upd_ne hab]; exact q⟩)⟩
      · exact ⟨xs,.inr q⟩
theorem MacAt.setPile (M:MacAt K C A mc st H) (r:List Int):MacAt K C A mc { st with pile:=r } (upd H A.lp (.lst (pV r))) :=
  ⟨by rw [upd_ne M.np]; exact M.ins,by rw [upd_ne M.c1]; exact M.cells,Dat.mono (grow_one M.pile (.inl ⟨_,rfl⟩) fun _ _=>⟨_,rfl⟩) _ M.given,upd_same,by rw [upd_ne (Ne.symm M.ne)]; exact M.kept,M.ne,M.c1,M.c2⟩
theorem MacAt.setKept (M:MacAt K C A mc st H) (r:List Nat):MacAt K C A mc { st with kept:=r } (upd H A.lk (.lst (kpV r))) :=
  ⟨by rw [upd_ne M.nk]; exact M.ins,by rw [upd_ne M.c2]; exact M.cells,Dat.mono (grow_one M.kept (.inl ⟨_,rfl⟩) fun _ _=>⟨_,rfl⟩) _ M.given,by rw [upd_ne M.ne]; exact M.pile,upd_same,M.ne,M.c1,M.c2⟩
theorem MacAt.nc (M:MacAt K C A mc st H):A.m ≠ A.lc:=fun z=>by have:=M.ins; rw [z,M.cells] at this; cases this
theorem MacAt.setM (M:MacAt K C A mc st H) {st':MS} {fs:List (Str × V)} (e:fs = mF A mc st') (hp:st'.pile = st.pile) (hk:st'.kept = st.kept):MacAt K C A mc st' (upd H A.m (.ins C A.dx fs)):=by
  subst e
  exact ⟨upd_same,by rw [upd_ne (Ne.symm M.nc)]; exact M.cells,Dat.mono (grow_one M.ins (.inr ⟨_,_,_,rfl⟩) fun _ z=>by cases z) _ M.given,by rw [upd_ne (Ne.symm M.np),hp]; exact M.pile,by rw [upd_ne (Ne.symm M.nk),hk]; exact M.kept,M.ne,M.c1,M.c2⟩
theorem put_place (p:Nat):putF "place" (.int p) (mF A mc st) = mF A mc { st with place:=p }:=by kernel_rfl
theorem put_ended (b:Bool):putF "ended" (.bl b) (mF A mc st) = mF A mc { st with ended:=b }:=by kernel_rfl
theorem fld_at {i:Nat} {f:Str} {v:V} {σ:L2.St} {Q:VK} (M:MacAt K C A mc st H) (c:Cls K C) (n:NoAttr K C f) (q:Q v H) (l:(mF A mc st).lookup f = some v:=by kernel_rfl) (e:σ[i]? = some (some (.ref A.m)):=by rfl):tFld K (tVar i) f σ H Q :=
  ⟨_,e,A.m,C,A.dx,_,v,rfl,M.ins,c,n,l,q⟩
theorem re_fldI {i:Nat} {f:Str} {z:Int} {σ:L2.St} (M:MacAt K C A mc st H) (c:Cls K C) (n:NoAttr K C f) (l:(mF A mc st).lookup f = some (.int z):=by kernel_rfl) (e:σ[i]? = some (some (.ref A.m)):=by rfl):RE K (tFld K (tVar i) f) σ H (.int z) :=
  fun _ s _ q=>fld_at (M.same s) c n (q _ _ (Same.refl _) (Dat.intI z)) l e
theorem re_fldB {i:Nat} {f:Str} {z:Bool} {σ:L2.St} (M:MacAt K C A mc st H) (c:Cls K C) (n:NoAttr K C f) (l:(mF A mc st).lookup f = some (.bl z):=by kernel_rfl) (e:σ[i]? = some (some (.ref A.m)):=by rfl):RE K (tFld K (tVar i) f) σ H (.bl z) :=
  fun _ s _ q=>fld_at (M.same s) c n (q _ _ (Same.refl _) (Dat.blI z)) l e
theorem rl_fldP {i:Nat} {σ:L2.St} (M:MacAt K C A mc st H) (c:Cls K C) (n:NoAttr K C "pile") (e:σ[i]? = some (some (.ref A.m)):=by rfl):RL K (tFld K (tVar i) "pile") σ H (st.pile.reverse.map D.int) :=
  fun _ s _ q=>fld_at (M.same s) c n (q _ _ (Same.refl _) (LD.of (M.same s).pile (dats_ints _))) (by kernel_rfl) e
theorem rl_fldC {i:Nat} {σ:L2.St} (M:MacAt K C A mc st H) (c:Cls K C) (n:NoAttr K C "cells") (e:σ[i]? = some (some (.ref A.m)):=by rfl):RL K (tFld K (tVar i) "cells") σ H (cD mc.cs) :=
  fun _ s _ q=>fld_at (M.same s) c n (q _ _ (Same.refl _) (LD.of (M.same s).cells (dats_ints _))) (by kernel_rfl) e
theorem kp_ints (l:List Nat):kpV l = (l.reverse.map fun (n:Nat)=>(n:Int)).map V.int:=by unfold kpV; rw [List.map_map]; rfl
theorem rl_fldK {i:Nat} {σ:L2.St} (M:MacAt K C A mc st H) (c:Cls K C) (n:NoAttr K C "kept") (e:σ[i]? = some (some (.ref A.m)):=by rfl):RL K (tFld K (tVar i) "kept") σ H ((st.kept.reverse.map fun (n:Nat)=>(n:Int)).map D.int) :=
  fun _ s _ q=>fld_at (M.same s) c n (q _ _ (Same.refl _) (LD.of ((M.same s).kept.trans (by rw [kp_ints])) (dats_ints _))) (by kernel_rfl) e
theorem re_fldG {i:Nat} {σ:L2.St} (M:MacAt K C A mc st H) (c:Cls K C) (n:NoAttr K C "given") (e:σ[i]? = some (some (.ref A.m)):=by rfl):RE K (tFld K (tVar i) "given") σ H (.tup (mc.as.map D.int)) :=
  fun _ s _ q=>fld_at (M.same s) c n (q _ _ (Same.refl _) (M.same s).given) (by kernel_rfl) e
theorem rt_fldL {i:Nat} {f:Str} {l:Addr} {xs:List V} {σ:L2.St} (M:MacAt K C A mc st H) (c:Cls K C) (n:NoAttr K C f) (hl:H l = some (.lst xs)) (lk:(mF A mc st).lookup f = some (.ref l):=by kernel_rfl) (e:σ[i]? = some (some (.ref A.m)):=by rfl):RT (fun σ H Q=>tFld K (tVar i) f σ H fun x H'=>∃ k,TruV K x H' k∧Q k H') σ H (!xs.isEmpty) :=
  fun H1 s Q q=>fld_at (v:=.ref l) (Q:=fun x H'=>∃ k,TruV K x H' k∧Q k H') (M.same s) c n ⟨_,.inl ⟨_,SqL.of (s _ _ hl),rfl⟩,q _ (Same.refl _)⟩ lk e
theorem flt_at {i:Nat} {N:Addr} {E:XK} {σ:L2.St} (M:MacAt K C A mc st H) (c:Cls K C) (n:NoAttr K C "place") (q:∀ dx,H dx = none→E (.ref N) (some dx) (upd H dx (.xd [("place",.int st.place)]))) (e:σ[i]? = some (some (.ref A.m)):=by rfl) :
    tCons (tFld K (tVar i) "place") tNil σ H (fun vs H1=>∃ v,vs = [v]∧∀ dx,H1 dx = none→E (.ref N) (some dx) (upd H1 dx (.xd [("place",v)]))) :=
  fld_at (Q:=fun v H1=>tNil σ H1 fun vs H2=>∃ w,v :: vs = [w]∧∀ dx,H2 dx = none→E (.ref N) (some dx) (upd H2 dx (.xd [("place",w)]))) M c n ⟨_,rfl,q⟩ (by kernel_rfl) e
def MOut (K:PySem.W.Frag) (N C:Addr) (A:MA) (mc:MC) (st:MS) (H:Hp) (Q:VK) (E:XK) (o:Option (V × MS)):Prop :=
  (∀ v st',o = some (v,st')→∀ H',ButM A H H'→MacAt K C A mc st' H'→Q v H')∧(o = none→∀ H' dx,ButM A H H'→H' dx = some (.xd [("place",.int st.place)])→E (.ref N) (some dx) H')
end
def spTake (K:PySem.W.Frag) (N C:Addr):Sp:=fun vs H Q E=>∃ A mc st,vs = [.ref A.m]∧MacAt K C A mc st H∧MOut K N C A mc st H Q E ((takeM st).map fun p=>(.int p.1,p.2))
def spPush (K:PySem.W.Frag) (N C:Addr):Sp:=fun vs H Q E=>∃ A mc st n,vs = [.ref A.m,.int n]∧MacAt K C A mc st H∧2 ≤ mc.b∧st.pile.length ≤ 64∧MOut K N C A mc st H Q E ((pushM mc n st).map fun s=>(.non,s))
def spFin (K:PySem.W.Frag) (N C:Addr):Sp:=fun vs H Q E=>∃ A mc st,vs = [.ref A.m]∧MacAt K C A mc st H∧MOut K N C A mc st H Q E ((finishM st).map fun s=>(.non,s))
def spWay (K:PySem.W.Frag) (N C:Addr):Sp:=fun vs H Q E=>∃ A mc st nm num on,vs = [.ref A.m,.str nm,.int (num:Nat),.int (on:Nat)]∧MacAt K C A mc st H∧st.kept.length ≤ 16∧MOut K N C A mc st H Q E ((wayM nm num on st).map fun p=>(.int p.1,p.2))
theorem ok_Machine_take (T:Txt K mg) (F_Fault__init:FnOk P w K mg base CX0 k T.i_Fault T.di_Fault ["self","place"] (spInit2 T.a_Fault "place")):FnOk P w K mg base (CX2 P w) (k + 1 + 1) T.a_Machine_take T.d_Machine_take ["self"] (spTake K T.a_Fault T.a_Machine):=by
  refine T.f_Machine_take.ok2 sc_Machine_take (fun vs H Q E h=>?_) (fun cdv A outer s H vs Q E hr h=>?_)
  · obtain ⟨A,mc,st,rfl,_⟩:=h; rfl
  have nd:=sc_Machine_take.nd
  obtain ⟨A,mc,st,rfl,M,ok,bad⟩:=h
  refine ⟨_,(pss_cons (ps_if (pt_not (pt_truth (pe_fld (pv 0) rfl) (fun _=>rfl))) (pss_one (ps_raiseI2 T.c_Fault F_Fault__init (bi_Fault T) hr throw2 rfl T.g_Fault (pa_c (pe_fld (pv 0) rfl) pa_nil))) pss_nil)
  (pss_one (ps_ret (pe_bm0 PySem.F.plainAttrs_list PySem.F.slot_list_pop PySem.F.type_list_pop mt_pop (pe_fld (pv 0) rfl))))),?_⟩
  obtain ⟨pile,place,kept,ended⟩:=st
  cases pile with
  | nil =>
    refine rs_ifr (K:=K) (b:=true) (rt_not (rt_fldL M T.cl_Machine T.na_pile M.pile)) (fun _ H1 s1=>?_) (fun c=>nomatch c)
    exact flt_at (M.same s1) T.cl_Machine T.na_place fun dx n=>bad rfl _ dx (sBut (s1.trans (same_new n _))) upd_same
  | cons x r =>
    have e:pV (x :: r) = pV r ++ [.int x]:=pV_cons x r
    refine rs_ifr (K:=K) (b:=false) (RT.as (rt_not (rt_fldL M T.cl_Machine T.na_pile M.pile)) ?_) (fun c=>nomatch c) (fun _ H1 s1=>?_)
    · show (!!(pV (x :: r)).isEmpty) = false
      rw [e]
      cases pV r <;> rfl
    · have M:=M.same s1
      have hp:H1 A.lp = some (.lst (pV r ++ [.int x])):=by rw [← e]; exact M.pile
      refine fld_at (v:=.ref A.lp) (Q:=fun x H1=>tyV K "list" x H1∧rPop x [] H1 Q) M T.cl_Machine T.na_pile ⟨.inl ⟨rfl,_,SqL.of hp⟩,A.lp,_,.int x,rfl,rfl,hp,by simp,?_⟩
      rw [List.dropLast_concat]
      exact ok (.int x) _ rfl _ ((sBut s1).trans ButM.lp) (M.setPile r)
end
end My
end
section
namespace My
open PySem L2 PyProof.Rows
section
variable {P:Program} {w:World} {K:PySem.W.Frag} {mg:Str→Option Value} {base:Heap} {k:Nat}
section
variable {N C:Addr} {A:MA} {mc:MC} {st st1:MS} {H H1:Hp} {Q:VK} {E:XK} {o:Option (V × MS)}
theorem MOut.on (h:MOut K N C A mc st H Q E o) (b:ButM A H H1) (hp:st1.place = st.place):MOut K N C A mc st1 H1 Q E o :=
  ⟨fun v st' e H' b' M'=>h.1 v st' e H' (b.trans b') M',fun e H' dx b' hd=>h.2 e H' dx (b.trans b') (by rw [← hp]; exact hd)⟩
theorem r_take {i:Nat} {σ:L2.St} (M:MacAt K C A mc st H) (h:MOut K N C A mc st H Q E ((takeM st).map fun p=>(.int p.1,p.2))) (e:σ[i]? = some (some (.ref A.m)):=by rfl):tMeth C "take" (spTake K N C) [] E (tVar i) tNil σ H Q :=
  ⟨_,e,A.m,A.dx,_,rfl,M.ins,by kernel_rfl,A,mc,st,rfl,M,h⟩
theorem r_push {i:Nat} {σ:L2.St} {te:TE} {n:Int} (hn:RE K te σ H (.int n)) (M:MacAt K C A mc st H) (b2:2 ≤ mc.b) (l:st.pile.length ≤ 64) (h:MOut K N C A mc st H Q E ((pushM mc n st).map fun s=>(.non,s))) (e:σ[i]? = some (some (.ref A.m)):=by rfl) :
    tMeth C "push" (spPush K N C) [] E (tVar i) (tCons te tNil) σ H Q :=
  ⟨_,e,A.m,A.dx,_,rfl,M.ins,by kernel_rfl,hn.use fun v H1 s q=>⟨A,mc,st,n,by rw [q.intE]; rfl,M.same s,b2,l,h.on (sBut s) rfl⟩⟩
theorem app_fld {i:Nat} {f:Str} {l:Addr} {xs:List V} {te:TE} {z:Int} {σ:L2.St} (M:MacAt K C A mc st H) (c:Cls K C) (n:NoAttr K C f) (hl:H l = some (.lst xs)) (hx:xs.length ≤ 900) (h:RE K te σ H (.int z)) (q:∀ H',Same H H'→Q .non (upd H' l (.lst (xs ++ [.int z]))))
    (lk:(mF A mc st).lookup f = some (.ref l):=by kernel_rfl) (e:σ[i]? = some (some (.ref A.m)):=by rfl):tBM K "list" rAppend (tFld K (tVar i) f) (tCons te tNil) σ H Q :=
  fld_at (v:=.ref l) (Q:=fun x H1=>tyV K "list" x H1∧tCons te tNil σ H1 fun xs H2=>rAppend x xs H2 Q) M c n ⟨.inl ⟨rfl,_,SqL.of hl⟩,h.use fun v H1 s q1=>⟨l,xs,_,rfl,rfl,s _ _ hl,small1000 (by omega),by rw [q1.intE]; exact q H1 s⟩⟩ lk e
theorem pop_fld {i:Nat} {f:Str} {l:Addr} {xs:List V} {z:V} {σ:L2.St} (M:MacAt K C A mc st H) (c:Cls K C) (n:NoAttr K C f) (hl:H l = some (.lst (xs ++ [z]))) (q:Q z (upd H l (.lst xs)))
    (lk:(mF A mc st).lookup f = some (.ref l):=by kernel_rfl) (e:σ[i]? = some (some (.ref A.m)):=by rfl):tBM0 K "list" rPop (tFld K (tVar i) f) σ H Q :=
  fld_at (v:=.ref l) (Q:=fun x H1=>tyV K "list" x H1∧rPop x [] H1 Q) M c n ⟨.inl ⟨rfl,_,SqL.of hl⟩,l,_,z,rfl,rfl,hl,by simp,by rw [List.dropLast_concat]; exact q⟩ lk e
theorem take_pl {p:Int × MS} (h:takeM st = some p):p.2.place = st.place∧p.2.kept = st.kept∧st.pile = p.1 :: p.2.pile∧p.2.ended = st.ended:=by
  unfold takeM at h
  split at h
  · cases h
  · rename_i x r e
    cases h
    exact ⟨rfl,rfl,e,rfl⟩
theorem push_pl {n:Int} {s:MS} (h:pushM mc n st = some s):s.place = st.place∧s.kept = st.kept∧s.pile = n % mc.b :: st.pile∧st.pile.length ≠ 64∧s.ended = st.ended:=by
  unfold pushM at h
  split at h
  · cases h
  · rename_i hl
    cases h
    exact ⟨rfl,rfl,rfl,hl,rfl⟩
end
theorem d_iff {p q:Prop} [Decidable p] [Decidable q] (h:p↔q):decide p = decide q:=decide_eq_decide.mpr h
theorem ok_Machine_push (T:Txt K mg) (F_Fault__init:FnOk P w K mg base CX0 k T.i_Fault T.di_Fault ["self","place"] (spInit2 T.a_Fault "place")):FnOk P w K mg base (CX2 P w) (k + 1 + 1) T.a_Machine_push T.d_Machine_push ["self","number"] (spPush K T.a_Fault T.a_Machine):=by
  refine T.f_Machine_push.ok2 sc_Machine_push (fun vs H Q E h=>?_) (fun cdv A outer s H vs Q E hr h=>?_)
  · obtain ⟨A,mc,st,n,rfl,_⟩:=h; rfl
  have nd:=sc_Machine_push.nd
  obtain ⟨A,mc,st,n,rfl,M,b2,hl,ok,bad⟩:=h
  refine ⟨_,(pss_cons (ps_if (pt_cmpR op_eq (pe_callB call_len_seq rfl T.n_len bo_len (pa_c (pe_fld (pv 0) rfl) pa_nil)) (pe_glob (v:=.int 64) rfl T.g_MOST_PILE ⟨_,rfl⟩) (nomark _)) (pss_one (ps_raiseI2 T.c_Fault F_Fault__init (bi_Fault T) hr throw2 rfl T.g_Fault (pa_c (pe_fld (pv 0) rfl) pa_nil))) pss_nil)
  (pss_one (ps_expr (pe_bm PySem.F.plainAttrs_list PySem.F.slot_list_append PySem.F.type_list_append mt_append (pe_fld (pv 0) rfl) (pa_c (pe_op op_mod (pv 1) (pe_fld (pv 0) rfl)) pa_nil))))),?_⟩
  have ed:decide ((((st.pile.reverse.map D.int).length:Nat):Int) = 64) = decide (st.pile.length = 64):=d_iff (by rw [List.length_map,List.length_reverse]; omega)
  refine rs_ifr (K:=K) (b:=decide (st.pile.length = 64)) (RT.as (rt_test (re_eqI (re_lenL (rl_fldP M T.cl_Machine T.na_pile)) re_int)) ed) (fun c H1 s1=>?_) (fun c H1 s1=>?_)
  · exact flt_at (M.same s1) T.cl_Machine T.na_place fun dx n=>bad (by unfold pushM; rw [if_pos (of_decide_eq_true c)]; rfl) _ dx (sBut (s1.trans (same_new n _))) upd_same
  · have M:=M.same s1
    have c:=of_decide_eq_false c
    have lp:=pV_len st.pile
    refine app_fld M T.cl_Machine T.na_pile M.pile (by omega) (re_mod (re_var (k:=1) (Dat.intI n)) (re_fldI (z:=mc.b) M T.cl_Machine T.na_size) (by omega)) fun H2 s2=>?_
    have e:=(M.same s2).setPile (n % mc.b :: st.pile)
    rw [pV_cons] at e
    exact ok .non _ (by unfold pushM; rw [if_neg c]; rfl) _ ((sBut (s1.trans s2)).trans ButM.lp) e
theorem ok_Machine_finish (T:Txt K mg) (F_Fault__init:FnOk P w K mg base CX0 k T.i_Fault T.di_Fault ["self","place"] (spInit2 T.a_Fault "place")):FnOk P w K mg base (CX2 P w) (k + 1 + 1) T.a_Machine_finish T.d_Machine_finish ["self"] (spFin K T.a_Fault T.a_Machine):=by
  refine T.f_Machine_finish.ok2 sc_Machine_finish (fun vs H Q E h=>?_) (fun cdv A outer s H vs Q E hr h=>?_)
  · obtain ⟨A,mc,st,rfl,_⟩:=h; rfl
  have nd:=sc_Machine_finish.nd
  obtain ⟨A,mc,st,rfl,M,ok,bad⟩:=h
  refine ⟨_,(pss_cons (ps_if (pt_cmpR op_ne (pe_callB call_len_seq rfl T.n_len bo_len (pa_c (pe_fld (pv 0) rfl) pa_nil)) pe_int (nomark _)) (pss_one (ps_raiseI2 T.c_Fault F_Fault__init (bi_Fault T) hr throw2 rfl T.g_Fault (pa_c (pe_fld (pv 0) rfl) pa_nil))) pss_nil)
  (pss_one (ps_fld (pv 0) pe_bl rfl))),?_⟩
  have ed:(!decide ((((st.pile.reverse.map D.int).length:Nat):Int) = 1)) = !decide (st.pile.length = 1):=congrArg Bool.not (d_iff (by rw [List.length_map,List.length_reverse]; omega))
  refine rs_ifr (K:=K) (b:=!decide (st.pile.length = 1)) (RT.as (rt_test (re_neI (re_lenL (rl_fldP M T.cl_Machine T.na_pile)) re_int)) ed) (fun c H1 s1=>?_) (fun c H1 s1=>?_)
  · have c:=of_decide_eq_false ((Bool.not_eq_true' _).mp c)
    exact flt_at (M.same s1) T.cl_Machine T.na_place fun dx n=>bad (by unfold finishM; rw [if_neg c]; rfl) _ dx (sBut (s1.trans (same_new n _))) upd_same
  · have M:=M.same s1
    have c:=of_decide_eq_true ((Bool.not_eq_false' _).mp c)
    refine ⟨_,rfl,A.m,_,A.dx,_,rfl,M.ins,T.cl_Machine,T.na_ended,by show 7 < 1000; decide,?_⟩
    exact ok .non { st with ended:=true } (by unfold finishM; rw [if_pos c]; rfl) _ ((sBut s1).trans ButM.m) (M.setM (put_ended true) rfl rfl)
theorem ok_Machine_way (T:Txt K mg) (F_Fault__init:FnOk P w K mg base CX0 k T.i_Fault T.di_Fault ["self","place"] (spInit2 T.a_Fault "place")) (F_Machine_take:FnOk P w K mg base (CX2 P w) (k + 1) T.a_Machine_take T.d_Machine_take ["self"] (spTake K T.a_Fault T.a_Machine)):FnOk P w K mg base (CX2 P w) (k + 1 + 1) T.a_Machine_way T.d_Machine_way ["self","name","number","onward"] (spWay K T.a_Fault T.a_Machine):=by
  refine T.f_Machine_way.ok2 sc_Machine_way (fun vs H Q E h=>?_) (fun cdv A outer s H vs Q E hr h=>?_)
  · obtain ⟨A,mc,st,nm,num,on,rfl,_⟩:=h; rfl
  have nd:=sc_Machine_way.nd
  obtain ⟨A,mc,st,nm,num,on,rfl,M,hk,ok,bad⟩:=h
  refine ⟨_,(pss_cons (ps_if (pt_cmpR op_in_seq (pv 1) (pe_tup (pa_c pe_str (pa_c pe_str pa_nil))) (by with_unfolding_all rfl)) (pss_one (ps_ret (pe_op op_add (pv 3) (pv 2)))) pss_nil)
  (pss_cons (ps_if (pt_cmpR op_in_seq (pv 1) (pe_tup (pa_c pe_str (pa_c pe_str pa_nil))) (by with_unfolding_all rfl)) (pss_one (ps_ret (pe_ifExp (pt_cmpR op_eq (pe_meth0 (pv 0) T.cl_Machine T.mt_Machine_take F_Machine_take hr (b_Machine_take T) .nil pass2) pe_int (nomark _)) (pe_op op_add (pv 3) (pv 2)) (pv 3)))) pss_nil)
  (pss_cons (ps_if (pt_cmpR op_eq (pv 1) pe_str (nomark _)) (pss_cons (ps_if (pt_cmpR op_eq (pe_callB call_len_seq rfl T.n_len bo_len (pa_c (pe_fld (pv 0) rfl) pa_nil)) (pe_glob (v:=.int 16) rfl T.g_MOST_KEPT ⟨_,rfl⟩) (nomark _)) (pss_one (ps_raiseI2 T.c_Fault F_Fault__init (bi_Fault T) hr throw2 rfl T.g_Fault (pa_c (pe_fld (pv 0) rfl) pa_nil))) pss_nil)
  (pss_cons (ps_expr (pe_bm PySem.F.plainAttrs_list PySem.F.slot_list_append PySem.F.type_list_append mt_append (pe_fld (pv 0) rfl) (pa_c (pv 3) pa_nil)))
  (pss_one (ps_ret (pv 2))))) pss_nil)
  (pss_cons (ps_if (pt_not (pt_truth (pe_fld (pv 0) rfl) (fun _=>rfl))) (pss_one (ps_raiseI2 T.c_Fault F_Fault__init (bi_Fault T) hr throw2 rfl T.g_Fault (pa_c (pe_fld (pv 0) rfl) pa_nil))) pss_nil)
  (pss_one (ps_ret (pe_bm0 PySem.F.plainAttrs_list PySem.F.slot_list_pop PySem.F.type_list_pop mt_pop (pe_fld (pv 0) rfl)))))))),?_⟩
  refine rs_ifr (K:=K) (b:=decide (nm ∈ (["skip","jump"]:List Str))) (rt_test (re_inS (ys:=["skip","jump"]) (re_var (k:=1) (Dat.strI nm)) (re_tup (ra_cons re_str (ra_cons re_str ra_nil))))) (fun c H1 s1=>?_) (fun c H1 s1=>?_)
  · have c:=of_decide_eq_true c
    refine rs_ret (K:=K) (d:=.int ((on:Int) + num)) (re_add (re_var (k:=3) (Dat.intI _)) (re_var (k:=2) (Dat.intI _))) fun v H2 s2 q=>?_
    rw [q.intE]
    exact ok _ st (by unfold wayM; rw [if_pos c]; show some (V.int ((on + num:Nat):Int),st) = _; rw [Int.natCast_add]) _ (sBut (s1.trans s2)) (M.same (s1.trans s2))
  have n1:=of_decide_eq_false c
  have M:=M.same s1
  refine rs_ifr (K:=K) (b:=decide (nm ∈ (["zero","none"]:List Str))) (rt_test (re_inS (ys:=["zero","none"]) (re_var (k:=1) (Dat.strI nm)) (re_tup (ra_cons re_str (ra_cons re_str ra_nil))))) (fun c H2 s2=>?_) (fun c H2 s2=>?_)
  · have c:=of_decide_eq_true c
    have M:=M.same s2
    have s12:=s1.trans s2
    have ew:wayM nm num on st = (takeM st).map fun p=>(if p.1 = 0 then on + num else on,p.2):=by unfold wayM; rw [if_neg n1,if_pos c]
    rw [ew] at ok bad
    refine r_take M ⟨fun v st' e H3 b3 M3=>?_,fun e H3 dx b3 hd=>?_⟩
    · obtain ⟨p,hp,e2⟩:=Option.map_eq_some_iff.mp e
      cases e2
      refine ⟨rfl,_,rfl,?_⟩
      have es:decide (V.int p.1 = V.int 0) = decide (p.1 = 0):=d_iff ⟨fun z=>V.int.inj z,fun z=>by rw [z]⟩
      rw [es]
      rw [hp] at ok
      by_cases hz:p.1 = 0
      · rw [decide_eq_true hz]
        refine iteT ⟨_,rfl,_,rfl,on,num,rfl,rfl,?_⟩
        exact ok _ p.2 (by show some (V.int ((if p.1 = 0 then on + num else on:Nat):Int),p.2) = _; rw [if_pos hz,Int.natCast_add]) _ ((sBut s12).trans b3) M3
      · rw [decide_eq_false hz]
        refine iteF ⟨_,rfl,?_⟩
        exact ok _ p.2 (by show some (V.int ((if p.1 = 0 then on + num else on:Nat):Int),p.2) = _; rw [if_neg hz]) _ ((sBut s12).trans b3) M3
    · have e:takeM st = none:=by simpa using e
      exact bad (by rw [e]; rfl) H3 dx ((sBut s12).trans b3) hd
  have n2:=of_decide_eq_false c
  have M:=M.same s2
  have s12:=s1.trans s2
  refine rs_ifr (K:=K) (b:=decide (nm = "call")) (rt_test (re_eqS (re_var (K:=K) (k:=1) (Dat.strI nm)) re_str)) (fun c H3 s3=>?_) (fun c H3 s3=>?_)
  · have c:=of_decide_eq_true c
    have M:=M.same s3
    have s13:=s12.trans s3
    have ew:wayM nm num on st = if st.kept.length = 16 then none else some (num,{ st with kept:=on :: st.kept }):=by unfold wayM; rw [if_neg n1,if_neg n2,if_pos c]
    rw [ew] at ok bad
    have ed:decide (((((st.kept.reverse.map fun (n:Nat)=>(n:Int)).map D.int).length:Nat):Int) = 16) = decide (st.kept.length = 16):=d_iff (by rw [List.length_map,List.length_map,List.length_reverse]; omega)
    refine rs_ifr (K:=K) (b:=decide (st.kept.length = 16)) (RT.as (rt_test (re_eqI (re_lenL (rl_fldK M T.cl_Machine T.na_kept)) re_int)) ed) (fun c H4 s4=>?_) (fun c H4 s4=>?_)
    · exact flt_at (M.same s4) T.cl_Machine T.na_place fun dx n=>bad (by rw [if_pos (of_decide_eq_true c)]; rfl) _ dx (sBut (s13.trans (s4.trans (same_new n _)))) upd_same
    · have M:=M.same s4
      have c:=of_decide_eq_false c
      have lk:=kpV_len st.kept
      refine rs_exp (app_fld M T.cl_Machine T.na_kept M.kept (by omega) (re_var (k:=3) (Dat.intI _)) fun H5 s5=>?_)
      have e:=(M.same s5).setKept (on :: st.kept)
      rw [kpV_cons] at e
      exact ⟨_,rfl,ok _ _ (by rw [if_neg c]; rfl) _ ((sBut (s13.trans (s4.trans s5))).trans ButM.lk) e⟩
  have n3:=of_decide_eq_false c
  have M:=M.same s3
  have s13:=s12.trans s3
  obtain ⟨pile,place,kept,ended⟩:=st
  cases kept with
  | nil =>
    refine rs_ifr (K:=K) (b:=true) (rt_not (rt_fldL M T.cl_Machine T.na_kept M.kept)) (fun _ H4 s4=>?_) (fun c=>nomatch c)
    exact flt_at (M.same s4) T.cl_Machine T.na_place fun dx n=>bad (by unfold wayM; rw [if_neg n1,if_neg n2,if_neg n3]; rfl) _ dx (sBut (s13.trans (s4.trans (same_new n _)))) upd_same
  | cons x r =>
    have e:kpV (x :: r) = kpV r ++ [.int x]:=kpV_cons x r
    refine rs_ifr (K:=K) (b:=false) (RT.as (rt_not (rt_fldL M T.cl_Machine T.na_kept M.kept)) ?_) (fun c=>nomatch c) (fun _ H4 s4=>?_)
    · show (!!(kpV (x :: r)).isEmpty) = false
      rw [e]
      cases kpV r <;> rfl
    · have M:=M.same s4
      have hp:H4 A.lk = some (.lst (kpV r ++ [.int x])):=by rw [← e]; exact M.kept
      exact pop_fld M T.cl_Machine T.na_kept hp (ok (.int x) _ (by unfold wayM; rw [if_neg n1,if_neg n2,if_neg n3]; rfl) _ ((sBut (s13.trans s4)).trans ButM.lk) (M.setKept r))
end
end My
end
section
namespace My
open PySem L2 PyProof.Rows
section
variable {P:Program} {w:World} {K:PySem.W.Frag} {mg:Str→Option Value} {base:Heap} {k:Nat}
def spChg (K:PySem.W.Frag) (N C:Addr):Sp:=fun vs H Q E=>∃ A mc st nm num,vs = [.ref A.m,.str nm,.int (num:Nat)]∧MacAt K C A mc st H∧okMC mc∧okMS mc st∧(nm = "load"→num ≤ 3)∧MOut K N C A mc st H Q E ((changeM mc nm num st).map fun s=>(.non,s))
section
variable {N C:Addr} {A:MA} {mc:MC} {st:MS} {H:Hp} {Q:VK} {E:XK} {n:Int} {k:MS→Option MS}
theorem push_on (h:MOut K N C A mc st H Q E (((pushM mc n st).bind k).map fun s=>(.non,s))) {Q1:VK} (q:∀ s,pushM mc n st = some s→∀ H',ButM A H H'→MacAt K C A mc s H'→Q1 .non H'):MOut K N C A mc st H Q1 E ((pushM mc n st).map fun s=>(.non,s)):=by
  refine ⟨fun v st' e H' b M'=>?_,fun e H' dx b hd=>?_⟩
  · obtain ⟨s,hs,e2⟩:=Option.map_eq_some_iff.mp e
    cases e2
    exact q _ hs H' b M'
  · have e:pushM mc n st = none:=by simpa using e
    exact h.2 (by rw [e]; rfl) H' dx b hd
theorem take_on {k:Int × MS→Option MS} (h:MOut K N C A mc st H Q E (((takeM st).bind k).map fun s=>(.non,s))) {Q1:VK} (q:∀ p,takeM st = some p→∀ H',ButM A H H'→MacAt K C A mc p.2 H'→Q1 (.int p.1) H'):MOut K N C A mc st H Q1 E ((takeM st).map fun p=>(.int p.1,p.2)):=by
  refine ⟨fun v st' e H' b M'=>?_,fun e H' dx b hd=>?_⟩
  · obtain ⟨p,hs,e2⟩:=Option.map_eq_some_iff.mp e
    cases e2
    exact q _ hs H' b M'
  · have e:takeM st = none:=by simpa using e
    exact h.2 (by rw [e]; rfl) H' dx b hd
theorem ok_take {p:Int × MS} (o:okMS mc st) (h:takeM st = some p):okMS mc p.2∧0 ≤ p.1∧p.1 < mc.b∧p.2.pile.length + 1 = st.pile.length:=by
  obtain ⟨_,hk,hp,_⟩:=take_pl h
  have l:=o.l
  rw [hp,List.length_cons] at l
  refine ⟨⟨fun x hx=>o.p x (by rw [hp]; exact List.mem_cons_of_mem _ hx),by omega,by rw [hk]; exact o.k⟩,?_⟩
  have:=o.p p.1 (by rw [hp]; exact List.mem_cons_self)
  exact ⟨this.1,this.2,by rw [hp,List.length_cons]⟩
theorem ok_push {s:MS} (b2:2 ≤ mc.b) (o:okMS mc st) (h:pushM mc n st = some s):okMS mc s:=by
  obtain ⟨_,hk,hp,hl,_⟩:=push_pl h
  have l:=o.l
  refine ⟨fun x hx=>?_,by rw [hp,List.length_cons]; omega,by rw [hk]; exact o.k⟩
  rw [hp] at hx
  rcases List.mem_cons.mp hx with z | z
  · rw [z]; exact ⟨Int.emod_nonneg _ (by omega),Int.emod_lt_of_pos _ (by omega)⟩
  · exact o.p x z
end
theorem ok_Machine_change (T:Txt K mg) (F_Machine_take:FnOk P w K mg base (CX2 P w) k T.a_Machine_take T.d_Machine_take ["self"] (spTake K T.a_Fault T.a_Machine)) (F_Machine_push:FnOk P w K mg base (CX2 P w) k T.a_Machine_push T.d_Machine_push ["self","number"] (spPush K T.a_Fault T.a_Machine)) (F_worth_of_both:FnOk P w K mg base CX0 k T.a_worth_of_both T.d_worth_of_both ["kind","first","second","size"] (spD K Rboth)):FnOk P w K mg base (CX2 P w) (k + 1) T.a_Machine_change T.d_Machine_change ["self","name","number"] (spChg K T.a_Fault T.a_Machine):=by
  refine T.f_Machine_change.ok2 sc_Machine_change (fun vs H Q E h=>?_) (fun cdv A outer s H vs Q E hr h=>?_)
  · obtain ⟨A,mc,st,nm,num,rfl,_⟩:=h; rfl
  have nd:=sc_Machine_change.nd
  obtain ⟨A,mc,st,nm,num,rfl,M,oc,os,hld,out⟩:=h
  have b2:=oc.b2
  refine ⟨_,(pss_cons (ps_if (pt_cmpR op_in_seq (pv 1) (pe_tup (pa_c pe_str (pa_c pe_str pa_nil))) (by with_unfolding_all rfl)) (pss_cons (ps_expr (pe_meth (pv 0) T.cl_Machine T.mt_Machine_push F_Machine_push hr (b_Machine_push T) .nil pass2 (pa_c (pv 2) pa_nil)))
  (pss_one ps_retN)) pss_nil)
  (pss_cons (ps_if (pt_cmpR op_eq (pv 1) pe_str (nomark _)) (pss_cons (ps_expr (pe_meth (pv 0) T.cl_Machine T.mt_Machine_push F_Machine_push hr (b_Machine_push T) .nil pass2 (pa_c (pe_ix ix_tup (pe_fld (pv 0) rfl) (pv 2) (fun _ _=>rfl)) pa_nil)))
  (pss_one ps_retN)) pss_nil)
  (pss_cons (ps_set (i:=3) nd rfl (Or.inl rfl) (pe_meth0 (pv 0) T.cl_Machine T.mt_Machine_take F_Machine_take hr (b_Machine_take T) .nil pass2))
  (pss_one (ps_if (pt_cmpR op_eq (pv 1) pe_str (nomark _)) (pss_one (ps_expr (pe_meth (pv 0) T.cl_Machine T.mt_Machine_push F_Machine_push hr (b_Machine_push T) .nil pass2 (pa_c (pe_op op_add (pv 3) (pv 2)) pa_nil)))) (pss_one (ps_if (pt_cmpR op_eq (pv 1) pe_str (nomark _)) (pss_cons (ps_expr (pe_meth (pv 0) T.cl_Machine T.mt_Machine_push F_Machine_push hr (b_Machine_push T) .nil pass2 (pa_c (pv 3) pa_nil)))
  (pss_one (ps_expr (pe_meth (pv 0) T.cl_Machine T.mt_Machine_push F_Machine_push hr (b_Machine_push T) .nil pass2 (pa_c (pv 3) pa_nil))))) (pss_one (ps_if (pt_cmpR op_eq (pv 1) pe_str (nomark _)) (pss_cons (ps_set (i:=4) nd rfl (Or.inl rfl) (pe_meth0 (pv 0) T.cl_Machine T.mt_Machine_take F_Machine_take hr (b_Machine_take T) .nil pass2))
  (pss_cons (ps_expr (pe_meth (pv 0) T.cl_Machine T.mt_Machine_push F_Machine_push hr (b_Machine_push T) .nil pass2 (pa_c (pv 3) pa_nil)))
  (pss_one (ps_expr (pe_meth (pv 0) T.cl_Machine T.mt_Machine_push F_Machine_push hr (b_Machine_push T) .nil pass2 (pa_c (pv 4) pa_nil)))))) (pss_one (ps_expr (pe_meth (pv 0) T.cl_Machine T.mt_Machine_push F_Machine_push hr (b_Machine_push T) .nil pass2 (pa_c (pe_call F_worth_of_both hr rfl T.m_worth_of_both T.f_worth_of_both.kp (b_worth_of_both T) .nil pass0 (pa_c (pv 1) (pa_c (pe_meth0 (pv 0) T.cl_Machine T.mt_Machine_take F_Machine_take hr (b_Machine_take T) .nil pass2) (pa_c (pv 3) (pa_c (pe_fld (pv 0) rfl) pa_nil))))) pa_nil))))))))))))),?_⟩
  refine rs_ifr (K:=K) (b:=decide (nm ∈ (["put","far"]:List Str))) (rt_test (re_inS (ys:=["put","far"]) (re_var (k:=1) (Dat.strI nm)) (re_tup (ra_cons re_str (ra_cons re_str ra_nil))))) (fun c H1 s1=>?_) (fun c H1 s1=>?_)
  · have ew:changeM mc nm num st = pushM mc num st:=by unfold changeM; rw [if_pos (of_decide_eq_true c)]
    rw [ew] at out
    have out:=MOut.on (st1:=st) out (sBut s1) rfl
    refine rs_exp (r_push (re_var (k:=2) (Dat.intI (num:Int))) (M.same s1) b2 os.l ⟨fun v st' e H' b M'=>?_,out.2⟩)
    obtain ⟨s,hs,e2⟩:=Option.map_eq_some_iff.mp e
    cases e2
    exact out.1 _ _ e H' b M'
  have n1:=of_decide_eq_false c
  have M:=M.same s1
  have out:=MOut.on (st1:=st) out (sBut s1) rfl
  refine rs_ifr (K:=K) (b:=decide (nm = "load")) (rt_test (re_eqS (re_var (K:=K) (k:=1) (Dat.strI nm)) re_str)) (fun c H2 s2=>?_) (fun c H2 s2=>?_)
  · have c:=of_decide_eq_true c
    have ew:changeM mc nm num st = pushM mc (mc.as.getD num 0) st:=by unfold changeM; rw [if_neg n1,if_pos c]
    rw [ew] at out
    have out:=MOut.on (st1:=st) out (sBut s2) rfl
    have M:=M.same s2
    have ln:=hld c
    have la:=oc.as
    have hg:(mc.as.map D.int)[num]? = some (.int (mc.as.getD num 0)):=by
      rw [List.getElem?_map,List.getElem?_eq_getElem (by omega:num < mc.as.length),List.getD_eq_getElem?_getD,List.getElem?_eq_getElem (by omega:num < mc.as.length)]
      rfl
    refine rs_exp (r_push (re_ix (k:=num) (re_fldG M T.cl_Machine T.na_given) (re_var (k:=2) (Dat.intI (num:Int))) hg) M b2 os.l ⟨fun v st' e H' b M'=>?_,out.2⟩)
    obtain ⟨s,hs,e2⟩:=Option.map_eq_some_iff.mp e
    cases e2
    exact out.1 _ _ e H' b M'
  have n2:=of_decide_eq_false c
  have M:=M.same s2
  have out:=MOut.on (st1:=st) out (sBut s2) rfl
  have ew:changeM mc nm num st = (takeM st).bind fun u =>
    if nm = "more" then pushM mc (u.1 + num) u.2
    else if nm = "twice" then (pushM mc u.1 u.2).bind fun s=>pushM mc u.1 s
    else if nm = "about" then (takeM u.2).bind fun l=>(pushM mc u.1 l.2).bind fun s=>pushM mc l.1 s
    else (takeM u.2).bind fun l=>pushM mc (two nm l.1 u.1 mc.b) l.2:=by unfold changeM; rw [if_neg n1,if_neg n2]
  rw [ew] at out
  refine rs_asg (r_take M (take_on out fun u hu H3 b3 M=>?_))
  obtain ⟨ou,u0,u1,ul⟩:=ok_take os hu
  have pu:=(take_pl hu).1
  rw [hu] at out
  have out:=MOut.on (st1:=u.2) out b3 pu
  have out:MOut K T.a_Fault T.a_Machine A mc u.2 H3 Q E ((if nm = "more" then pushM mc (u.1 + num) u.2
    else if nm = "twice" then (pushM mc u.1 u.2).bind fun s=>pushM mc u.1 s
    else if nm = "about" then (takeM u.2).bind fun l=>(pushM mc u.1 l.2).bind fun s=>pushM mc l.1 s
    else (takeM u.2).bind fun l=>pushM mc (two nm l.1 u.1 mc.b) l.2).map fun s=>(.non,s)):=out
  refine rs_if (b:=decide (nm = "more")) (rt_test (re_eqS (re_var (K:=K) (k:=1) (Dat.strI nm)) re_str)) (fun c H4 s4=>?_) (fun c H4 s4=>?_)
  · rw [if_pos (of_decide_eq_true c)] at out
    have out:=MOut.on (st1:=u.2) out (sBut s4) rfl
    refine r_push (re_add (re_var (k:=3) (Dat.intI u.1)) (re_var (k:=2) (Dat.intI (num:Int)))) (M.same s4) b2 ou.l ⟨fun v st' e H' b M'=>?_,out.2⟩
    obtain ⟨s,hs,e2⟩:=Option.map_eq_some_iff.mp e
    cases e2
    exact out.1 _ _ e H' b M'
  rw [if_neg (of_decide_eq_false c)] at out
  have M:=M.same s4
  have out:=MOut.on (st1:=u.2) out (sBut s4) rfl
  refine rs_if (b:=decide (nm = "twice")) (rt_test (re_eqS (re_var (K:=K) (k:=1) (Dat.strI nm)) re_str)) (fun c H5 s5=>?_) (fun c H5 s5=>?_)
  · rw [if_pos (of_decide_eq_true c)] at out
    have out:=MOut.on (st1:=u.2) out (sBut s5) rfl
    refine rs_exp (r_push (re_var (k:=3) (Dat.intI u.1)) (M.same s5) b2 ou.l (push_on out fun s hs H6 b6 M6=>?_))
    rw [hs] at out
    have out:MOut K T.a_Fault T.a_Machine A mc s H6 Q E ((pushM mc u.1 s).map fun s=>(.non,s)):=MOut.on out b6 (push_pl hs).1
    refine r_push (re_var (k:=3) (Dat.intI u.1)) M6 b2 (ok_push b2 ou hs).l ⟨fun v st' e H' b M'=>?_,out.2⟩
    obtain ⟨s',hs',e2⟩:=Option.map_eq_some_iff.mp e
    cases e2
    exact out.1 _ _ e H' b M'
  rw [if_neg (of_decide_eq_false c)] at out
  have M:=M.same s5
  have out:=MOut.on (st1:=u.2) out (sBut s5) rfl
  refine rs_if (b:=decide (nm = "about")) (rt_test (re_eqS (re_var (K:=K) (k:=1) (Dat.strI nm)) re_str)) (fun c H6 s6=>?_) (fun c H6 s6=>?_)
  · rw [if_pos (of_decide_eq_true c)] at out
    have out:=MOut.on (st1:=u.2) out (sBut s6) rfl
    refine rs_asg (r_take (M.same s6) (take_on out fun l hl H7 b7 M7=>?_))
    obtain ⟨ol,l0,l1,ll⟩:=ok_take ou hl
    rw [hl] at out
    have out:MOut K T.a_Fault T.a_Machine A mc l.2 H7 Q E (((pushM mc u.1 l.2).bind fun s=>pushM mc l.1 s).map fun s=>(.non,s)):=MOut.on out b7 (take_pl hl).1
    refine rs_exp (r_push (re_var (k:=3) (Dat.intI u.1)) M7 b2 ol.l (push_on out fun s hs H8 b8 M8=>?_))
    rw [hs] at out
    have out:MOut K T.a_Fault T.a_Machine A mc s H8 Q E ((pushM mc l.1 s).map fun s=>(.non,s)):=MOut.on out b8 (push_pl hs).1
    refine r_push (re_var (k:=4) (Dat.intI l.1)) M8 b2 (ok_push b2 ol hs).l ⟨fun v st' e H' b M'=>?_,out.2⟩
    obtain ⟨s',hs',e2⟩:=Option.map_eq_some_iff.mp e
    cases e2
    exact out.1 _ _ e H' b M'
  · rw [if_neg (of_decide_eq_false c)] at out
    have M:=M.same s6
    have out:=MOut.on (st1:=u.2) out (sBut s6) rfl
    refine ⟨_,rfl,A.m,A.dx,_,rfl,M.ins,by kernel_rfl,_,rfl,?_⟩
    refine r_take M (take_on out fun l hl H7 b7 M7=>?_)
    obtain ⟨ol,l0,l1,ll⟩:=ok_take ou hl
    rw [hl] at out
    have out:MOut K T.a_Fault T.a_Machine A mc l.2 H7 Q E ((pushM mc (two nm l.1 u.1 mc.b) l.2).map fun s=>(.non,s)):=MOut.on out b7 (take_pl hl).1
    refine ⟨_,rfl,fld_at (v:=.int mc.b) M7 T.cl_Machine T.na_size ?_⟩
    refine ⟨[.str nm,.int l.1,.int u.1,.int mc.b],.int (two nm l.1 u.1 mc.b),Dats.cons (Dat.strI nm) (Dats.cons (Dat.intI _) (Dats.cons (Dat.intI _) (Dats.cons (Dat.intI _) Dats.nil))),⟨nm,l.1,u.1,mc.b,rfl,b2,oc.b9,l0,l1,u0,u1,rfl⟩,fun v H8 s8 q8=>?_⟩
    have out:=MOut.on (st1:=l.2) out (sBut s8) rfl
    refine ⟨A,mc,l.2,_,by rw [q8.intE]; rfl,M7.same s8,b2,ol.l,⟨fun v st' e H' b M'=>?_,out.2⟩⟩
    obtain ⟨s',hs',e2⟩:=Option.map_eq_some_iff.mp e
    cases e2
    exact out.1 _ _ e H' b M'
end
end My
end
section
namespace My
open PySem L2 PyProof.Rows
section
variable {P:Program} {w:World} {K:PySem.W.Frag} {mg:Str→Option Value} {base:Heap} {k:Nat}
def nsC (cs:List Int) (p:Nat) (c:Int):List Int:=(cs.drop (p + 1)).take (behN c)
def numC (cs:List Int) (p:Nat) (c:Int):Nat:=(numI (nsC cs p c)).toNat
def tooC (nm:Str) (num:Nat):Bool:=decide (tabD nm TTO num < (num:Int))
abbrev WS:List Str:=["skip","jump","zero","none","call","back"]
def doM (mc:MC) (nm:Str) (num on:Nat) (st:MS):Option MS :=
  if nm ∈ WS then (wayM nm num on st).map fun p=>{ p.2 with place:=p.1 }
  else if nm = "end" then (finishM st).map fun s=>{ s with place:=on }
  else (changeM mc nm num st).map fun s=>{ s with place:=on }
def stepM (mc:MC) (st:MS):Option MS:=match mc.cs[st.place]? with
  | none=>none
  | some c=>if badC mc.cs st.place c = true then none else if tooC (nmC c) (numC mc.cs st.place c) = true then none
    else doM mc (nmC c) (numC mc.cs st.place c) (st.place + 1 + behN c) st
theorem behC_ns (cs:List Int) (p:Nat) (c:Int):behC cs p (behN c) = (nsC cs p c).map D.int:=by
  unfold behC nsC
  rw [List.map_take,List.map_drop]
theorem ns_ok {cs:List Int} {p:Nat} {c:Int} (ok:okC cs):(nsC cs p c).length ≤ 2∧∀ n ∈ nsC cs p c,0 ≤ n∧n ≤ 99:=by
  unfold nsC
  refine ⟨by rw [List.length_take]; have:=beh_le2 c; omega,fun n hn=>?_⟩
  obtain ⟨i,hi⟩:=List.mem_iff_getElem?.mp (List.mem_of_mem_drop (List.mem_of_mem_take hn))
  exact ok.c i n hi
theorem num_nat {cs:List Int} {p:Nat} {c:Int} (ok:okC cs):numI (nsC cs p c) = ((numC cs p c:Nat):Int)∧numC cs p c ≤ 9999:=by
  obtain ⟨h1,h2⟩:=ns_ok (p:=p) (c:=c) ok
  have:=num_bd h1 h2
  unfold numC
  omega
theorem TTO_int:∀ p ∈ TTO,∃ i,p.2 = .flat (.int i):=by
  intro p hp
  simp only [TTO,List.mem_cons,List.not_mem_nil,or_false] at hp
  rcases hp with rfl | rfl | rfl <;> exact ⟨_,rfl⟩
theorem load_le {num:Nat} (h:tooC "load" num = false):num ≤ 3:=by
  have h:=of_decide_eq_false h
  have e:tabD "load" TTO num = 3:=by kernel_rfl
  rw [e] at h
  omega
theorem step_bad {mc:MC} {st:MS} (h:badP mc.cs st.place = true):stepM mc st = none:=by
  unfold stepM
  cases hc:mc.cs[st.place]? with
  | none=>rfl
  | some c =>
    have h':badC mc.cs st.place c = true:=by unfold badP at h; rw [hc] at h; exact h
    exact if_pos h'
theorem step_good {mc:MC} {st:MS} (h:badP mc.cs st.place = false):∃ c,mc.cs[st.place]? = some c∧badC mc.cs st.place c = false:=by
  cases hc:mc.cs[st.place]? with
  | none =>
    have h':true = false:=by unfold badP at h; rw [hc] at h; exact h
    cases h'
  | some c=>exact ⟨c,rfl,by unfold badP at h; rw [hc] at h; exact h⟩
def spStep (K:PySem.W.Frag) (N C:Addr):Sp:=fun vs H Q E=>∃ A mc st,vs = [.ref A.m]∧MacAt K C A mc st H∧okMC mc∧okMS mc st∧MOut K N C A mc st H Q E ((stepM mc st).map fun s=>(.non,s))
theorem ok_Machine_step (T:Txt K mg) (F_Fault__init:FnOk P w K mg base CX0 k T.i_Fault T.di_Fault ["self","place"] (spInit2 T.a_Fault "place")) (F_instruction_at:FnOk P w K mg base (CX2 P w) (k + 1) T.a_instruction_at T.d_instruction_at ["cells","place"] (spAF K "place" Rinst (Binst T.a_Fault))) (F_number_told:FnOk P w K mg base CX0 (k + 1) T.a_number_told T.d_number_told ["behind"] (spD K Rnum)) (F_Machine_way:FnOk P w K mg base (CX2 P w) (k + 1) T.a_Machine_way T.d_Machine_way ["self","name","number","onward"] (spWay K T.a_Fault T.a_Machine)) (F_Machine_finish:FnOk P w K mg base (CX2 P w) (k + 1) T.a_Machine_finish T.d_Machine_finish ["self"] (spFin K T.a_Fault T.a_Machine)) (F_Machine_change:FnOk P w K mg base (CX2 P w) (k + 1) T.a_Machine_change T.d_Machine_change ["self","name","number"] (spChg K T.a_Fault T.a_Machine)):FnOk P w K mg base (CX2 P w) (k + 1 + 1) T.a_Machine_step T.d_Machine_step ["self"] (spStep K T.a_Fault T.a_Machine):=by
  refine T.f_Machine_step.ok2 sc_Machine_step (fun vs H Q E h=>?_) (fun cdv A outer s H vs Q E hr h=>?_)
  · obtain ⟨A,mc,st,rfl,_⟩:=h; rfl
  have nd:=sc_Machine_step.nd
  obtain ⟨A,mc,st,rfl,M,oc,os,out⟩:=h
  have okc:=oc.cs
  refine ⟨_,(pss_cons (ps_asg (pe_call F_instruction_at hr rfl T.m_instruction_at T.f_instruction_at.kp (b_instruction_at T) .nil pass2 (pa_c (pe_fld (pv 0) rfl) (pa_c (pe_fld (pv 0) rfl) pa_nil))) (pg_tup rfl (pgs_cons (pg_name (i:=1) nd rfl (Or.inl rfl)) (pgs_cons (pg_name (i:=2) nd rfl (Or.inl rfl)) pgs_nil))))
  (pss_cons (ps_set (i:=3) nd rfl (Or.inl rfl) (pe_call F_number_told hr rfl T.m_number_told T.f_number_told.kp (b_number_told T) .nil pass0 (pa_c (pv 2) pa_nil)))
  (pss_cons (ps_if (pt_cmpR op_gt (pv 3) (pe_tabget (pe_glob (v:=.ref T.a_MOST_TOLD) rfl T.g_MOST_TOLD rfl) (pv 1) (pv 3) ⟨rfl,rfl,rfl,rfl⟩) (nomark _)) (pss_one (ps_raiseI2 T.c_Fault F_Fault__init (bi_Fault T) hr throw2 rfl T.g_Fault (pa_c (pe_fld (pv 0) rfl) pa_nil))) pss_nil)
  (pss_cons (ps_set (i:=4) nd rfl (Or.inl rfl) (pe_op op_add (pe_op op_add (pe_fld (pv 0) rfl) pe_int) (pe_callB call_len_seq rfl T.n_len bo_len (pa_c (pv 2) pa_nil))))
  (pss_cons (ps_if (pt_cmpR op_in_seq (pv 1) (pe_glob (v:=.ref T.a_WAYS) rfl T.g_WAYS rfl) (by with_unfolding_all rfl)) (pss_one (ps_set (i:=4) nd rfl (Or.inl rfl) (pe_meth (pv 0) T.cl_Machine T.mt_Machine_way F_Machine_way hr (b_Machine_way T) .nil pass2 (pa_c (pv 1) (pa_c (pv 3) (pa_c (pv 4) pa_nil)))))) (pss_one (ps_if (pt_cmpR op_eq (pv 1) pe_str (nomark _)) (pss_one (ps_expr (pe_meth0 (pv 0) T.cl_Machine T.mt_Machine_finish F_Machine_finish hr (b_Machine_finish T) .nil pass2))) (pss_one (ps_expr (pe_meth (pv 0) T.cl_Machine T.mt_Machine_change F_Machine_change hr (b_Machine_change T) .nil pass2 (pa_c (pv 1) (pa_c (pv 3) pa_nil))))))))
  (pss_one (ps_fld (pv 0) (pv 4) rfl))))))),?_⟩
  have rA:RB K (tCons (tFld K (tVar 0) "cells") (tCons (tFld K (tVar 0) "place") tNil)) (start ["self","name","behind","number","onward"] [.ref A.m]) H [.l (cD mc.cs),.d (.int st.place)]:=rb_l (rl_fldC M T.cl_Machine T.na_cells) (rb_d (re_fldI (z:=st.place) M T.cl_Machine T.na_place) rb_nil)
  cases hbp:badP mc.cs st.place with
  | true =>
    have e:stepM mc st = none:=step_bad hbp
    exact rx_callAF (R:=Rinst) (B:=Binst T.a_Fault) rA ⟨mc.cs,st.place,rfl,okc,hbp,rfl,rfl⟩ fun H1 dx s1 hd=>out.2 (by rw [e]; rfl) H1 dx (sBut s1) hd
  | false =>
    obtain ⟨c,hc,hb⟩:=step_good hbp
    obtain ⟨h16,hlt⟩:=bad_f hb
    obtain ⟨en,n9⟩:=num_nat (p:=st.place) (c:=c) okc
    obtain ⟨l2,n2⟩:=ns_ok (p:=st.place) (c:=c) okc
    have lb:(behC mc.cs st.place (behN c)).length = behN c:=by rw [behC_len]; omega
    have e:stepM mc st = if tooC (nmC c) (numC mc.cs st.place c) = true then none else doM mc (nmC c) (numC mc.cs st.place c) (st.place + 1 + behN c) st:=by
      unfold stepM
      rw [hc]
      dsimp only
      rw [if_neg (by rw [hb]; exact Bool.false_ne_true)]
    rw [e] at out
    refine rs_unp2 (K:=K) (d:=.str (nmC c)) (e:=.tup (behC mc.cs st.place (behN c))) (re_callAF (R:=Rinst) (B:=Binst T.a_Fault) rA ⟨mc.cs,st.place,c,rfl,okc,hc,hb,rfl⟩) fun v1 v2 H1 s1 h1 h2=>?_
    obtain rfl:=h1.strE
    generalize nmC c = nm at *
    generalize hnum:numC mc.cs st.place c = num at *
    refine rs_setr (K:=K) (d:=.int num) (RE.as (re_call (R:=Rnum) (ra_cons (re_var (k:=2) h2) ra_nil) ⟨nsC mc.cs st.place c,by rw [behC_ns],l2,n2,rfl⟩) (by rw [en])) fun v3 H2 s2 h3=>?_
    obtain rfl:=h3.intE
    have h2:=s2.dat h2
    have s12:=s1.trans s2
    have M:=M.same s12
    have out:=MOut.on (st1:=st) out (sBut s12) rfl
    refine rs_ifr (K:=K) (b:=tooC nm num) (rt_test (re_cmp (p:=fun i j=>decide (j < i)) (re_var (k:=3) (Dat.intI (num:Int))) (re_tabget T.t_MOST_TOLD (re_var (k:=1) (Dat.strI nm)) (re_var (k:=3) (Dat.intI (num:Int))) TTO_int))) (fun ct H3 s3=>?_) (fun ct H3 s3=>?_)
    · exact flt_at (M.same s3) T.cl_Machine T.na_place fun dx n=>out.2 (by rw [if_pos ct]; rfl) _ dx (sBut (s3.trans (same_new n _))) upd_same
    · have M:=M.same s3
      have out:=MOut.on (st1:=st) out (sBut s3) rfl
      rw [if_neg (by rw [ct]; exact Bool.false_ne_true)] at out
      have h2:=s3.dat h2
      have eo:(st.place:Int) + 1 + ((behC mc.cs st.place (behN c)).length:Int) = ((st.place + 1 + behN c:Nat):Int):=by rw [lb]; omega
      refine rs_setr (K:=K) (d:=.int ((st.place + 1 + behN c:Nat):Int)) (RE.as (re_add (re_add (re_fldI (z:=st.place) M T.cl_Machine T.na_place) re_int) (re_len (re_var (k:=2) h2))) (congrArg D.int eo)) fun v4 H4 s4 h4=>?_
      obtain rfl:=h4.intE
      have M:=M.same s4
      have out:=MOut.on (st1:=st) out (sBut s4) rfl
      generalize st.place + 1 + behN c = on at *
      refine rs_seq (RT.use (b:=decide (nm ∈ WS)) (rt_test (re_inS (ys:=WS) (re_var (K:=K) (k:=1) (Dat.strI nm)) (re_con T.c_WAYS))) fun H5 s5=>?_)
      have M:=M.same s5
      have out:=MOut.on (st1:=st) out (sBut s5) rfl
      by_cases hw:nm ∈ WS
      · rw [decide_eq_true hw]
        refine iteT ⟨_,rfl,A.m,A.dx,_,rfl,M.ins,by kernel_rfl,_,rfl,_,rfl,_,rfl,A,mc,st,nm,num,on,rfl,M,os.k,fun v st' ew H6 b6 M6=>?_,fun ew H6 dx b6 hd=>?_⟩
        · obtain ⟨p,hp,e2⟩:=Option.map_eq_some_iff.mp ew
          cases e2
          refine ⟨_,rfl,_,rfl,A.m,_,A.dx,_,rfl,M6.ins,T.cl_Machine,T.na_place,by show 7 < 1000; decide,?_⟩
          exact out.1 .non { p.2 with place:=p.1 } (by unfold doM; rw [if_pos hw,hp]; rfl) _ (b6.trans ButM.m) (M6.setM (put_place p.1) rfl rfl)
        · have ew:wayM nm num on st = none:=by simpa using ew
          exact out.2 (by unfold doM; rw [if_pos hw,ew]; rfl) H6 dx b6 hd
      · rw [decide_eq_false hw]
        refine iteF (RT.use (b:=decide (nm = "end")) (rt_test (re_eqS (re_var (K:=K) (k:=1) (Dat.strI nm)) re_str)) fun H6 s6=>?_)
        have M:=M.same s6
        have out:=MOut.on (st1:=st) out (sBut s6) rfl
        by_cases he:nm = "end"
        · rw [decide_eq_true he]
          refine iteT ⟨_,rfl,A.m,A.dx,_,rfl,M.ins,by kernel_rfl,A,mc,st,rfl,M,fun v st' ew H7 b7 M7=>?_,fun ew H7 dx b7 hd=>?_⟩
          · obtain ⟨s',hs',e2⟩:=Option.map_eq_some_iff.mp ew
            cases e2
            refine ⟨_,rfl,_,rfl,A.m,_,A.dx,_,rfl,M7.ins,T.cl_Machine,T.na_place,by show 7 < 1000; decide,?_⟩
            exact out.1 .non { st' with place:=on } (by unfold doM; rw [if_neg hw,if_pos he,hs']; rfl) _ (b7.trans ButM.m) (M7.setM (put_place on) rfl rfl)
          · have ew:finishM st = none:=by simpa using ew
            exact out.2 (by unfold doM; rw [if_neg hw,if_pos he,ew]; rfl) H7 dx b7 hd
        · rw [decide_eq_false he]
          refine iteF ⟨_,rfl,A.m,A.dx,_,rfl,M.ins,by kernel_rfl,_,rfl,_,rfl,A,mc,st,nm,num,rfl,M,oc,os,?_,fun v st' ew H7 b7 M7=>?_,fun ew H7 dx b7 hd=>?_⟩
          · rintro rfl
            exact load_le ct
          · obtain ⟨s',hs',e2⟩:=Option.map_eq_some_iff.mp ew
            cases e2
            refine ⟨_,rfl,_,rfl,A.m,_,A.dx,_,rfl,M7.ins,T.cl_Machine,T.na_place,by show 7 < 1000; decide,?_⟩
            exact out.1 .non { st' with place:=on } (by unfold doM; rw [if_neg hw,if_neg he,hs']; rfl) _ (b7.trans ButM.m) (M7.setM (put_place on) rfl rfl)
          · have ew:changeM mc nm num st = none:=by simpa using ew
            exact out.2 (by unfold doM; rw [if_neg hw,if_neg he,ew]; rfl) H7 dx b7 hd
end
end My
end
section
namespace My
open PySem L2 PyProof.Rows
section
variable {P:Program} {w:World} {K:PySem.W.Frag} {mg:Str→Option Value} {base:Heap} {k:Nat}
theorem but_grow {x:Addr} {C dx:Addr} {fs:List (Str × V)} {H H':Hp} (b:But x H H') (h:H x = some (.ins C dx fs)):Grow K H H':=by
  refine ⟨fun a xs q=>?_,fun a xs q=>⟨xs,?_⟩⟩
  · rcases q with (q | ⟨u,q⟩) | q
    · exact .inl (.inl (b _ _ (fun z=>by rw [z,h] at q; cases q) q))
    · exact .inl (.inr ⟨u,b _ _ (fun z=>by rw [z,h] at q; cases q) q⟩)
    · exact .inr q
  · rcases q with (q | ⟨u,q⟩) | q
    · exact .inl (.inl (b _ _ (fun z=>by rw [z,h] at q; cases q) q))
    · exact .inl (.inr ⟨u,b _ _ (fun z=>by rw [z,h] at q; cases q) q⟩)
    · exact .inr q
theorem rs_fldL {tl:TE} {us:TS} {En:Ends} {σ:L2.St} {H:Hp} {i:Nat} {f:Str} {es:List D} {x:Addr} (h:RC K tl σ H es) (q:∀ l ys H',H l = none→Same H H'→H' l = some (.lst ys)→Dats K H' es ys→∃ C dx fs,H' x = some (.ins C dx fs)∧Cls K C∧NoAttr K C f∧fs.length < 1000∧us En σ (upd H' x (.ins C dx (putF f (.ref l) fs))))
    (e:σ[i]? = some (some (.ref x)):=by rfl):tSeq (sFld K (tVar i) tl f) us En σ H :=
  h.use fun l ys H' n s hy dy=>let ⟨C,dx,fs,a1,a2,a3,a4,a5⟩:=q l ys H' n s hy dy; ⟨_,e,x,C,dx,fs,rfl,a1,a2,a3,a4,a5⟩
def spMk (K:PySem.W.Frag) (C:Addr):Sp:=fun vs H Q _=>∃ (x dx lc:Addr) (vg v4:V) (mc:MC) (r:List Int),vs = [.ref x,.ref lc,vg,.int mc.b,v4]∧H x = some (.ins C dx [])∧H lc = some (.lst (mc.cs.map V.int))∧Dat K H (.tup (mc.as.map D.int)) vg∧LD K H (r.reverse.map D.int) v4∧r.length ≤ 900 ∧
  ∀ (A:MA) (H':Hp),A.m = x→A.dx = dx→A.lc = lc→A.vg = vg→But x H H'→H A.lp = none→H A.lk = none→MacAt K C A mc ⟨r,0,[],false⟩ H'→Q .non H'
theorem ok_Machine___init__ (T:Txt K mg)  : FnOk P w K mg base CX0 (k + 1) T.a_Machine___init__ T.d_Machine___init__ ["self","cells","given","size","pile"] (spMk K T.a_Machine):=by
  refine T.f_Machine___init__.ok sc_Machine___init__ (fun vs H Q E h=>?_) (fun cdv A outer s H vs Q E hr h=>?_)
  · obtain ⟨x,dx,lc,vg,v4,mc,r,rfl,_⟩:=h; rfl
  have nd:=sc_Machine___init__.nd
  obtain ⟨x,dx,lc,vg,v4,mc,r,rfl,hx,hc,hg,hp,lr,post⟩:=h
  refine ⟨_,(pss_cons (ps_fld (pv 0) (pv 1) rfl)
  (pss_cons (ps_fld (pv 0) (pv 2) rfl)
  (pss_cons (ps_fld (pv 0) (pv 3) rfl)
  (pss_cons (ps_fld (pv 0) (pe_callTy call_list_of rfl T.n_list bo_list (pa_c (pv 4) pa_nil)) rfl)
  (pss_cons (ps_fld (pv 0) pe_int rfl)
  (pss_cons (ps_fld (pv 0) (pe_lst pa_nil) rfl)
  (pss_one (ps_fld (pv 0) pe_bl rfl)))))))),?_⟩
  have ncx:lc ≠ x:=fun z=>by rw [z,hx] at hc; cases hc
  refine ⟨_,rfl,_,rfl,x,_,dx,_,rfl,hx,T.cl_Machine,T.na_cells,by show 0 < 1000; decide,?_⟩
  refine ⟨_,rfl,_,rfl,x,_,dx,_,rfl,upd_same,T.cl_Machine,T.na_given,by show 1 < 1000; decide,?_⟩
  refine ⟨_,rfl,_,rfl,x,_,dx,_,rfl,upd_same,T.cl_Machine,T.na_size,by show 2 < 1000; decide,?_⟩
  generalize e3:upd (upd (upd H x _) x _) x _ = H3
  have b3:But x H H3:=by rw [← e3]; exact But.upd (But.upd (But.upd (Same.refl _).but))
  have x3:H3 x = some (.ins T.a_Machine dx [("cells",.ref lc),("given",vg),("size",.int mc.b)]):=by rw [← e3,upd_same]; kernel_rfl
  have p3:LD K H3 (r.reverse.map D.int) v4:=by
    obtain ⟨l,vs,e,hq,hd⟩:=hp
    refine ⟨l,vs,e,?_,Dats.mono (but_grow b3 hx) _ hd⟩
    rcases hq with q | q
    · exact .inl (b3 _ _ (fun z=>by rw [z,hx] at q; cases q) q)
    · exact .inr q
  refine rs_fldL (K:=K) (x:=x) (rc_listofL (rl_var (k:=4) p3)) fun lp ys H4 np s4 hy dy=>?_
  obtain rfl:=datIs dy
  refine ⟨_,dx,_,s4 _ _ x3,T.cl_Machine,T.na_pile,by show 3 < 1000; decide,?_⟩
  refine ⟨_,rfl,x,_,dx,_,rfl,upd_same,T.cl_Machine,T.na_place,by show 4 < 1000; decide,?_⟩
  generalize e6:upd (upd H4 x _) x _ = H6
  have b6:But x H H6:=by rw [← e6]; exact But.upd (But.upd (b3.trans s4.but))
  have npx:lp ≠ x:=fun z=>by rw [z,x3] at np; cases np
  have p6:H6 lp = some (.lst (pV r)):=by rw [← e6,upd_ne npx,upd_ne npx]; exact hy
  have x6:H6 x = some (.ins T.a_Machine dx [("cells",.ref lc),("given",vg),("size",.int mc.b),("pile",.ref lp),("place",.int 0)]):=by rw [← e6,upd_same]; kernel_rfl
  refine ⟨small (by decide),fun lk nk=>?_⟩
  have nkx:lk ≠ x:=fun z=>by rw [z,x6] at nk; cases nk
  have nkp:lp ≠ lk:=fun z=>by rw [← z,p6] at nk; cases nk
  have c6:H6 lc = some (.lst (mc.cs.map V.int)):=b6 _ _ ncx hc
  have nck:lc ≠ lk:=fun z=>by rw [← z,c6] at nk; cases nk
  have ncp:lc ≠ lp:=fun z=>by rw [← z,b3 _ _ ncx hc] at np; cases np
  refine ⟨_,rfl,x,_,dx,_,rfl,by rw [upd_ne (Ne.symm nkx)]; exact x6,T.cl_Machine,T.na_kept,by show 5 < 1000; decide,?_⟩
  refine ⟨_,rfl,x,_,dx,_,rfl,upd_same,T.cl_Machine,T.na_ended,by show 6 < 1000; decide,?_⟩
  generalize e9:upd (upd (upd H6 lk _) x _) x _ = H9
  have b9:But x H6 H9:=by rw [← e9]; exact But.upd (But.upd (same_new nk _).but)
  have k9:H9 lk = some (.lst (kpV [])):=by rw [← e9,upd_ne nkx,upd_ne nkx,upd_same]; rfl
  have x9:H9 x = some (.ins T.a_Machine dx (mF ⟨x,dx,lp,lk,lc,vg⟩ mc ⟨r,0,[],false⟩)):=by rw [← e9,upd_same]; kernel_rfl
  have nH:∀ b,b ≠ x→H6 b = none→H b = none:=fun b z n=>by
    cases e:H b with
    | none=>rfl
    | some o=>rw [b6 _ _ z e] at n; cases n
  have nH3:∀ b,b ≠ x→H3 b = none→H b = none:=fun b z n=>by
    cases e:H b with
    | none=>rfl
    | some o=>rw [b3 _ _ z e] at n; cases n
  exact post ⟨x,dx,lp,lk,lc,vg⟩ H9 rfl rfl rfl rfl (b6.trans b9) (nH3 _ npx np) (nH _ nkx nk) ⟨x9,b9 _ _ ncx c6,Dat.mono (but_grow (b6.trans b9) hx) _ hg,b9 _ _ npx p6,k9,nkp,ncp,nck⟩
end
end My
end
section
namespace My
open PySem L2 PyProof.Rows
section
variable {P:Program} {w:World} {K:PySem.W.Frag} {mg:Str→Option Value} {base:Heap} {k:Nat}
theorem codeA_ok {cs:List Int} (ok:okC cs):codeA (.l (cD cs)) = true:=by
  show codeB (cD cs) = true
  unfold codeB
  have l0:=ok.l0
  have l1:=ok.l1
  rw [Bool.and_eq_true,Bool.and_eq_true]
  refine ⟨⟨decide_eq_true (by rw [List.length_map]; omega),decide_eq_true (by rw [List.length_map]; omega)⟩,?_⟩
  rw [List.all_eq_true]
  intro b hb
  obtain ⟨d,hd,rfl⟩:=List.mem_map.mp hb
  obtain ⟨c,hc,rfl⟩:=List.mem_map.mp hd
  obtain ⟨i,hi⟩:=List.mem_iff_getElem?.mp hc
  obtain ⟨c0,c9⟩:=ok.c i c hi
  show (decide (0 ≤ c) && decide (c ≤ 99)) = true
  rw [decide_eq_true c0,decide_eq_true c9]
  rfl
theorem argsD_ok {mc:MC} (oc:okMC mc):argsD (.tup (mc.as.map D.int)) mc.b = true:=by
  show (decide ((((mc.as.map D.int).length:Nat):Int) = 4) && _) = true
  rw [List.length_map,oc.as,Bool.and_eq_true]
  refine ⟨rfl,?_⟩
  rw [List.all_eq_true]
  intro b hb
  obtain ⟨d,hd,rfl⟩:=List.mem_map.mp hb
  obtain ⟨x,hx,rfl⟩:=List.mem_map.mp hd
  have:=oc.ai x hx
  show (decide (0 ≤ x) && decide (x ≤ mc.b - 1)) = true
  rw [decide_eq_true this.1,decide_eq_true (by omega)]
  rfl
theorem whole_ok {i lo hi:Int} (h1:lo ≤ i) (h2:i ≤ hi):wholeD (.int i) lo hi = true:=by
  show (decide (lo ≤ i) && decide (i ≤ hi)) = true
  rw [decide_eq_true h1,decide_eq_true h2]
  rfl
def RefS (N3 N0 N2 N4:Addr) (a:Ar) (x y z:D) (C:Addr):Prop:=(codeA a = false∧C = N3)∨(codeA a = true∧wholeD y 2 10000 = false∧C = N0)∨(codeA a = true∧∃ b,y = .int b∧2 ≤ b∧b ≤ 10000∧argsD x b = false∧C = N2) ∨
  (codeA a = true∧∃ b,y = .int b∧2 ≤ b∧b ≤ 10000∧argsD x b = true∧wholeD z 1 100000 = false∧C = N4)
def spBad (K:PySem.W.Frag) (N3 N0 N2 N4:Addr):Sp:=fun vs H _ E=>∃ (a:Ar) (x y z:D) (C:Addr),Ars K H [a,.d x,.d y,.d z] vs∧okA a∧RefS N3 N0 N2 N4 a x y z C∧∀ H',Same H H'→E (.ref C) none H'
section
variable {mc:MC} {st s:MS} {nm:Str} {num on:Nat}
theorem way_pl {p:Nat × MS} (o:okMS mc st) (h:wayM nm num on st = some p):okMS mc p.2∧p.2.ended = st.ended:=by
  unfold wayM at h
  split at h
  · cases h; exact ⟨o,rfl⟩
  · split at h
    · obtain ⟨q,hq,e⟩:=Option.map_eq_some_iff.mp h
      cases e
      exact ⟨(ok_take o hq).1,(take_pl hq).2.2.2⟩
    · split at h
      · split at h
        · cases h
        · rename_i hl
          cases h
          have:=o.k
          exact ⟨⟨o.p,o.l,by show st.kept.length + 1 ≤ 16; omega⟩,rfl⟩
      · split at h
        · cases h
        · rename_i k r e
          cases h
          have:=o.k
          rw [e,List.length_cons] at this
          exact ⟨⟨o.p,o.l,by show r.length ≤ 16; omega⟩,rfl⟩
theorem chg_pl (b2:2 ≤ mc.b) (o:okMS mc st) (h:changeM mc nm num st = some s):okMS mc s∧s.ended = st.ended:=by
  have pu:∀ {n:Int} {a b:MS},okMS mc a→pushM mc n a = some b→okMS mc b∧b.ended = a.ended:=fun oa hb=>⟨ok_push b2 oa hb,(push_pl hb).2.2.2.2⟩
  have tk:∀ {p:Int × MS} {a:MS},okMS mc a→takeM a = some p→okMS mc p.2∧p.2.ended = a.ended:=fun oa hb=>⟨(ok_take oa hb).1,(take_pl hb).2.2.2⟩
  unfold changeM at h
  split at h
  · exact pu o h
  · split at h
    · exact pu o h
    · obtain ⟨u,hu,h⟩:=Option.bind_eq_some_iff.mp h
      obtain ⟨ou,eu⟩:=tk o hu
      split at h
      · obtain ⟨a,b⟩:=pu ou h; exact ⟨a,b.trans eu⟩
      · split at h
        · obtain ⟨s1,h1,h2⟩:=Option.bind_eq_some_iff.mp h
          obtain ⟨o1,e1⟩:=pu ou h1
          obtain ⟨a,b⟩:=pu o1 h2
          exact ⟨a,b.trans (e1.trans eu)⟩
        · split at h
          · obtain ⟨l,hl,h⟩:=Option.bind_eq_some_iff.mp h
            obtain ⟨ol,el⟩:=tk ou hl
            obtain ⟨s1,h1,h2⟩:=Option.bind_eq_some_iff.mp h
            obtain ⟨o1,e1⟩:=pu ol h1
            obtain ⟨a,b⟩:=pu o1 h2
            exact ⟨a,b.trans (e1.trans (el.trans eu))⟩
          · obtain ⟨l,hl,h⟩:=Option.bind_eq_some_iff.mp h
            obtain ⟨ol,el⟩:=tk ou hl
            obtain ⟨a,b⟩:=pu ol h
            exact ⟨a,b.trans (el.trans eu)⟩
theorem step_pl (oc:okMC mc) (o:okMS mc st) (h:stepM mc st = some s):okMS mc s∧(st.ended = false→s.ended = true→s.pile.length = 1):=by
  unfold stepM at h
  split at h
  · cases h
  · split at h
    · cases h
    · split at h
      · cases h
      · unfold doM at h
        split at h
        · obtain ⟨p,hp,e⟩:=Option.map_eq_some_iff.mp h
          cases e
          obtain ⟨a,b⟩:=way_pl o hp
          exact ⟨⟨a.p,a.l,a.k⟩,fun z w=>by rw [show p.2.ended = true from w,z] at b; cases b⟩
        · split at h
          · obtain ⟨p,hp,e⟩:=Option.map_eq_some_iff.mp h
            cases e
            unfold finishM at hp
            split at hp
            · rename_i hl
              cases hp
              exact ⟨⟨o.p,o.l,o.k⟩,fun _ _=>hl⟩
            · cases hp
          · obtain ⟨p,hp,e⟩:=Option.map_eq_some_iff.mp h
            cases e
            obtain ⟨a,b⟩:=chg_pl oc.b2 o hp
            exact ⟨⟨a.p,a.l,a.k⟩,fun z w=>by rw [show p.ended = true from w,z] at b; cases b⟩
end
inductive Res where
  | ends (v:Int)
  | fault (p:Nat)
  | late
  deriving DecidableEq
def runM (mc:MC):Nat→MS→Res
  | 0,_=>.late
  | n + 1,st=>match stepM mc st with
    | none=>.fault st.place
    | some s=>if s.ended = true then .ends (s.pile.headD 0) else runM mc n s
abbrev st0:MS:=⟨[],0,[],false⟩
theorem ok_st0 {mc:MC}:okMS mc st0:=⟨(fun _ h=>by cases h),by show 0 ≤ 64; decide,by show 0 ≤ 16; decide⟩
def spStart (K:PySem.W.Frag) (C:Addr):Sp:=fun vs H Q _=>∃ (lc:Addr) (vg:V) (mc:MC) (n:Nat),vs = [.ref lc,vg,.int mc.b,.int n]∧okMC mc∧H lc = some (.lst (mc.cs.map V.int))∧Dat K H (.tup (mc.as.map D.int)) vg∧1 ≤ n∧n ≤ 100000 ∧
  ∀ (A:MA) (H':Hp),Same H H'→H A.m = none→H A.lp = none→H A.lk = none→MacAt K C A mc st0 H'→Q (.ref A.m) H'
def spOr (a b:Sp):Sp:=fun vs H Q E=>a vs H Q E∨b vs H Q E
theorem ok_started (T:Txt K mg) (F_need_code:FnOk P w K mg base (CX2 P w) (k + 1) T.a_need_code T.d_need_code ["code"] (spAE K RncA (BncA T.a_NoCode))) (F_need_size:FnOk P w K mg base (CX2 P w) (k + 1) T.a_need_size T.d_need_size ["size","most"] (spE K RneedS (BneedS T.a_NoSize))) (F_need_args:FnOk P w K mg base (CX2 P w) (k + 1) T.a_need_args T.d_need_args ["args","size"] (spE K RneedA (BneedA T.a_NoArgs))) (F_is_whole:FnOk P w K mg base CX0 (k + 1) T.a_is_whole T.d_is_whole ["thing","low","high"] (spD K Rwhole)) (F_Machine___init__:FnOk P w K mg base CX0 k T.a_Machine___init__ T.d_Machine___init__ ["self","cells","given","size","pile"] (spMk K T.a_Machine)):FnOk P w K mg base (CX2 P w) (k + 1 + 1) T.a_started T.d_started ["code","args","size","steps"] (spOr (spBad K T.a_NoCode T.a_NoSize T.a_NoArgs T.a_NoSteps) (spStart K T.a_Machine)):=by
  refine T.f_started.ok2 sc_started (fun vs H Q E h=>?_) (fun cdv A outer s H vs Q E hr h=>?_)
  · rcases h with ⟨a,x,y,z,C,hA,_⟩ | ⟨lc,vg,mc,n,rfl,_⟩; exact hA.length.symm; rfl
  have nd:=sc_started.nd
  have hh:=h
  refine ⟨_,(pss_cons (ps_expr (pe_call F_need_code hr rfl T.m_need_code T.f_need_code.kp (b_need_code T) .nil pass2 (pa_c (pv 0) pa_nil)))
  (pss_cons (ps_expr (pe_call F_need_size hr rfl T.m_need_size T.f_need_size.kp (b_need_size T) (v_need_size T) pass2 (pa_c (pv 2) pa_nil)))
  (pss_cons (ps_expr (pe_call F_need_args hr rfl T.m_need_args T.f_need_args.kp (b_need_args T) .nil pass2 (pa_c (pv 1) (pa_c (pv 2) pa_nil))))
  (pss_cons (ps_if (pt_not (pt_truth (pe_call F_is_whole hr rfl T.m_is_whole T.f_is_whole.kp (b_is_whole T) .nil pass0 (pa_c (pv 3) (pa_c pe_int (pa_c (pe_glob (v:=.int 100000) rfl T.g_MOST_STEPS ⟨_,rfl⟩) pa_nil)))) (fun _=>rfl))) (pss_one (ps_raise2 PySem.F.excBase_ValueError rfl PySem.F.excBase_ValueError T.r_NoSteps throw2 rfl T.g_NoSteps (pa_c pe_str pa_nil))) pss_nil)
  (pss_one (ps_ret (pe_make T.mk_Machine F_Machine___init__ hr rfl T.g_Machine (b_Machine___init__ T) .nil pass0 (pa_c (pv 0) (pa_c (pv 1) (pa_c (pv 2) (pa_c (pe_lst pa_nil) pa_nil))))))))))),?_⟩
  rcases h with ⟨a,x,y,z,C,hA,hok,hR,post⟩ | ⟨lc,vg,mc,n,rfl,oc,hc,hg,n1,n9,post⟩
  · obtain ⟨v0,v1,v2,v3,rfl,h0,h1,h2,h3⟩:=ars4 hA
    have h1:Dat K H x v1:=h1
    have h2:Dat K H y v2:=h2
    have h3:Dat K H z v3:=h3
    rcases hR with ⟨hc,rfl⟩ | ⟨hc,hR⟩ | ⟨hc,b,rfl,b2,b9,hx,rfl⟩ | ⟨hc,b,rfl,b2,b9,hx,hz,rfl⟩
    · exact rs_exp (rx_callAE (B:=BncA T.a_NoCode) (rb_one (k:=0) h0) ⟨a,rfl,hok,hc,rfl⟩ fun H' s=>post H' s)
    · obtain ⟨hy,rfl⟩:=hR
      refine rs_exp (RE.use (re_callAE (R:=RncA) (d:=.non) (rb_one (k:=0) h0) ⟨a,rfl,hok,hc,rfl⟩) fun v5 H1 s1 _=>?_)
      exact rs_exp (rx_callED (B:=BneedS T.a_NoSize) (ra_cons (re_var (K:=K) (k:=2) (s1.dat h2)) ra_nil) (fun _=>Dats.cons (Dat.intI _) Dats.nil) ⟨y,rfl,hy,rfl⟩ fun H' s=>post H' (s1.trans s))
    · refine rs_exp (RE.use (re_callAE (R:=RncA) (d:=.non) (rb_one (k:=0) h0) ⟨a,rfl,hok,hc,rfl⟩) fun v5 H1 s1 _=>?_)
      refine rs_exp (RE.use (re_callED (R:=RneedS) (d:=.non) (ra_cons (re_var (K:=K) (k:=2) (s1.dat h2)) ra_nil) (fun _=>Dats.cons (Dat.intI _) Dats.nil) ⟨.int b,rfl,whole_ok b2 b9,rfl⟩) fun v6 H2 s2 _=>?_)
      have s12:=s1.trans s2
      exact rs_exp (rx_callE (B:=BneedA T.a_NoArgs) (ra_cons (re_var (K:=K) (k:=1) (s12.dat h1)) (ra_cons (re_var (k:=2) (s12.dat h2)) ra_nil)) ⟨x,b,rfl,b2,b9,hx,rfl⟩ fun H' s=>post H' (s12.trans s))
    · refine rs_exp (RE.use (re_callAE (R:=RncA) (d:=.non) (rb_one (k:=0) h0) ⟨a,rfl,hok,hc,rfl⟩) fun v5 H1 s1 _=>?_)
      refine rs_exp (RE.use (re_callED (R:=RneedS) (d:=.non) (ra_cons (re_var (K:=K) (k:=2) (s1.dat h2)) ra_nil) (fun _=>Dats.cons (Dat.intI _) Dats.nil) ⟨.int b,rfl,whole_ok b2 b9,rfl⟩) fun v6 H2 s2 _=>?_)
      have s12:=s1.trans s2
      refine rs_exp (RE.use (re_callE (R:=RneedA) (d:=.non) (ra_cons (re_var (K:=K) (k:=1) (s12.dat h1)) (ra_cons (re_var (k:=2) (s12.dat h2)) ra_nil)) ⟨x,b,rfl,b2,b9,hx,rfl⟩) fun v7 H3 s3 _=>?_)
      have s13:=s12.trans s3
      refine rs_ifr (K:=K) (b:=true) (RT.as (rt_not (rt_truth (re_call (R:=Rwhole) (ra_cons (re_var (k:=3) (s13.dat h3)) (ra_cons re_int (ra_cons re_int ra_nil))) ⟨_,_,_,rfl,rfl⟩))) (by rw [hz]; rfl)) (fun _ H4 s4=>?_) (fun c=>nomatch c)
      exact ⟨small (by decide),post H4 (s13.trans s4)⟩
  · have okc:=oc.cs
    have l1:=okc.l1
    have LC:LD K H (cD mc.cs) (.ref lc):=LD.of hc (dats_ints _)
    refine rs_exp (RE.use (re_callAE (R:=RncA) (d:=.non) (rb_l (rl_var (K:=K) (k:=0) LC) rb_nil) ⟨.l (cD mc.cs),rfl,trivial,codeA_ok okc,rfl⟩) fun v5 H1 s1 _=>?_)
    refine rs_exp (RE.use (re_callED (R:=RneedS) (d:=.non) (ra_cons (re_var (K:=K) (k:=2) (Dat.intI mc.b)) ra_nil) (fun _=>Dats.cons (Dat.intI _) Dats.nil) ⟨.int mc.b,rfl,whole_ok oc.b2 oc.b9,rfl⟩) fun v6 H2 s2 _=>?_)
    have s12:=s1.trans s2
    refine rs_exp (RE.use (re_callE (R:=RneedA) (d:=.non) (ra_cons (re_var (K:=K) (k:=1) (s12.dat hg)) (ra_cons (re_var (k:=2) (Dat.intI mc.b)) ra_nil)) ⟨_,mc.b,rfl,oc.b2,oc.b9,argsD_ok oc,rfl⟩) fun v7 H3 s3 _=>?_)
    have s13:=s12.trans s3
    have ew:wholeD (.int (n:Int)) 1 100000 = true:=by
      show (decide ((1:Int) ≤ n) && decide ((n:Int) ≤ 100000)) = true
      rw [decide_eq_true (by omega),decide_eq_true (by omega)]
      rfl
    refine rs_ifr (K:=K) (b:=false) (RT.as (rt_not (rt_truth (re_call (R:=Rwhole) (ra_cons (re_var (k:=3) (Dat.intI (n:Int))) (ra_cons re_int (ra_cons re_int ra_nil))) ⟨_,_,_,rfl,rfl⟩))) (by rw [ew]; rfl)) (fun c=>nomatch c) (fun _ H4 s4=>?_)
    have s14:=s13.trans s4
    refine ⟨_,rfl,_,rfl,_,rfl,small (by decide),fun l0 nl0 x dx nx ndx hne=>?_⟩
    generalize e5:upd H4 l0 (.lst []) = H5 at nx ndx ⊢
    have s5:Same H4 H5:=by rw [← e5]; exact same_new nl0 _
    have s15:=s14.trans s5
    have s6:Same H5 (upd (upd H5 dx (.own x)) x (.ins T.a_Machine dx [])):=(same_new ndx _).trans (same_new (by rw [upd_ne (Ne.symm hne)]; exact nx) _)
    have s16:=s15.trans s6
    have h5:H5 l0 = some (.lst []):=by rw [← e5]; exact upd_same
    refine ⟨x,dx,lc,vg,.ref l0,mc,[],rfl,upd_same,s16 _ _ hc,s16.dat hg,LD.of (s6 _ _ h5) (dats_ints []),by decide,fun A H' em edx elc evg b nlp nlk M=>⟨rfl,?_⟩⟩
    subst em
    refine post A H' (fun b' o e=>?_) (s15.free nx) (s16.free nlp) (s16.free nlk) M
    exact b b' o (fun z=>by rw [z,s15.free nx] at e; cases e) (s16 _ _ e)
def spRun (K:PySem.W.Frag) (N L:Addr):Sp:=fun vs H Q E=>∃ (lc:Addr) (vg:V) (mc:MC) (n:Nat),vs = [.ref lc,vg,.int mc.b,.int n]∧okMC mc∧H lc = some (.lst (mc.cs.map V.int))∧Dat K H (.tup (mc.as.map D.int)) vg∧1 ≤ n∧n ≤ 100000 ∧
  (∀ v,runM mc n st0 = .ends v→∀ H',Same H H'→Q (.int v) H')∧(∀ p:Nat,runM mc n st0 = .fault p→∀ H' dx,Same H H'→H' dx = some (.xd [("place",.int p)])→E (.ref N) (some dx) H')∧(runM mc n st0 = .late→∀ H',Same H H'→E (.ref L) none H')
theorem butM_same {A:MA} {H G G':Hp} (s:Same H G) (b:ButM A G G') (h1:H A.m = none) (h2:H A.lp = none) (h3:H A.lk = none):Same H G':=fun x o e =>
  b x o (fun z=>by rw [z,h1] at e; cases e) (fun z=>by rw [z,h2] at e; cases e) (fun z=>by rw [z,h3] at e; cases e) (s x o e)
theorem ok_run (T:Txt K mg) (F_started:FnOk P w K mg base (CX2 P w) k T.a_started T.d_started ["code","args","size","steps"] (spOr (spBad K T.a_NoCode T.a_NoSize T.a_NoArgs T.a_NoSteps) (spStart K T.a_Machine))) (F_Machine_step:FnOk P w K mg base (CX2 P w) k T.a_Machine_step T.d_Machine_step ["self"] (spStep K T.a_Fault T.a_Machine)):FnOk P w K mg base (CX2 P w) (k + 1) T.a_run T.d_run ["code","args","size","steps"] (spOr (spBad K T.a_NoCode T.a_NoSize T.a_NoArgs T.a_NoSteps) (spRun K T.a_Fault T.a_Late)):=by
  refine T.f_run.ok2 sc_run (fun vs H Q E h=>?_) (fun cdv A outer s H vs Q E hr h=>?_)
  · rcases h with ⟨a,x,y,z,C,hA,_⟩ | ⟨lc,vg,mc,n,rfl,_⟩; exact hA.length.symm; rfl
  have nd:=sc_run.nd
  have hh:=h
  refine ⟨_,(pss_cons (ps_set (i:=4) nd rfl (Or.inl rfl) (pe_call F_started hr rfl T.m_started T.f_started.kp (b_started T) .nil pass2 (pa_c (pv 0) (pa_c (pv 1) (pa_c (pv 2) (pa_c (pv 3) pa_nil))))))
  (pss_cons (ps_for own_pass rfl (pi_range1 rfl T.n_range (pa_c (pv 3) pa_nil)) (pg_name (i:=5) nd rfl (Or.inl rfl)) (pss_cons (ps_expr (pe_meth0 (pv 4) T.cl_Machine T.mt_Machine_step F_Machine_step hr (b_Machine_step T) .nil pass2))
  (pss_one (ps_if (pt_truth (pe_fld (pv 4) rfl) (fun _=>rfl)) (pss_one (ps_ret (pe_ix ix_list (pe_fld (pv 4) rfl) pe_int (fun _ _=>rfl)))) pss_nil))))
  (pss_one (ps_raise2 PySem.F.excBase_ValueError rfl PySem.F.excBase_ValueError T.r_Late throw2 rfl T.g_Late (pa_c pe_str pa_nil))))),?_⟩
  rcases h with ⟨a,x,y,z,C,hA,hok,hR,post⟩ | ⟨lc,vg,mc,n,rfl,oc,hc,hg,n1,n9,pe,pf,pl⟩
  · obtain ⟨v0,v1,v2,v3,rfl,_,_,_,_⟩:=ars4 hA
    exact rs_asg ⟨_,rfl,_,rfl,_,rfl,_,rfl,.inl ⟨a,x,y,z,C,hA,hok,hR,post⟩⟩
  · refine rs_asg ⟨_,rfl,_,rfl,_,rfl,_,rfl,.inr ⟨lc,vg,mc,n,rfl,oc,hc,hg,n1,n9,fun A H1 s1 nm np nk M=>?_⟩⟩
    refine rs_seq ⟨_,rfl,(n:Int),rfl,by omega,by omega,for_range (n:=(n:Int).toNat) (fun i σ G=>∃ (z:Option V) (st:MS),σ = [some (.ref lc),some vg,some (.int mc.b),some (.int n),some (.ref A.m),z]∧MacAt K T.a_Machine A mc st G∧okMS mc st∧st.ended = false∧Same H G∧runM mc n st0 = runM mc (n - i) st) ?_ ?_ ?_⟩
    · exact ⟨none,st0,rfl,M,ok_st0,rfl,s1,rfl⟩
    · rintro i σ G hi ⟨z,st,rfl,M,os,he,sG,hr2⟩
      refine rg_name ?_
      dsimp only
      obtain ⟨k',ek⟩:∃ k',n - i = k' + 1:=⟨n - i - 1,by omega⟩
      have ek2:n - (i + 1) = k':=by omega
      rw [ek] at hr2
      refine rs_exp ⟨_,rfl,A.m,A.dx,_,rfl,M.ins,by kernel_rfl,A,mc,st,rfl,M,oc,os,fun v st' e H2 b2 M2=>?_,fun e H2 dx b2 hd=>?_⟩
      · obtain ⟨s',hs,e2⟩:=Option.map_eq_some_iff.mp e
        cases e2
        obtain ⟨os2,one⟩:=step_pl oc os hs
        have s2:=butM_same sG b2 nm np nk
        rw [runM,hs] at hr2
        dsimp only at hr2
        refine fld_at (v:=.bl st'.ended) M2 T.cl_Machine T.na_ended ⟨st'.ended,rfl,?_⟩
        cases hz:st'.ended with
        | true =>
          rw [if_pos hz] at hr2
          have l1:=one he hz
          obtain ⟨x,hx⟩:∃ x,st'.pile = [x]:=by
            match hq:st'.pile,l1 with
            | [x],_=>exact ⟨x,rfl⟩
          refine iteT (rs_ret (K:=K) (d:=.int x) (re_ixL (k:=0) (rl_fldP M2 T.cl_Machine T.na_pile) re_int (by rw [hx]; rfl)) fun v H3 s3 q=>?_)
          rw [q.intE]
          exact pe x (by rw [hr2,hx]; rfl) H3 (s2.trans s3)
        | false =>
          rw [if_neg (by rw [hz]; exact Bool.false_ne_true)] at hr2
          exact iteF ⟨_,st',rfl,M2,os2,hz,s2,by rw [hr2,ek2]⟩
      · have e:stepM mc st = none:=by simpa using e
        rw [runM,e] at hr2
        exact pf st.place hr2 H2 dx (butM_same sG b2 nm np nk) hd
    rintro σ G ⟨z,st,rfl,M,os,he,sG,hr2⟩
    have e0:n - (n:Int).toNat = 0:=by omega
    rw [e0] at hr2
    exact ⟨small (by decide),pl hr2 G sG⟩
end
end My
end
section
namespace My
open PySem L2 PyProof.Rows
section
variable {P:Program} {w:World} {K:PySem.W.Frag} {mg:Str→Option Value} {base:Heap} {k:Nat}
section
variable {C:Addr} {A:MA} {mc:MC} {st st':MS} {H H':Hp}
theorem ButM.grow (b:ButM A H H') (M:MacAt K C A mc st H) (M':MacAt K C A mc st' H'):Grow K H H':=by
  have nt:∀ {a:Addr} {o:HO},H a = some o→(∀ xs,o ≠ .lst xs)→(∀ C dx fs,o ≠ .ins C dx fs)→H' a = some o:=fun {a o} e h1 h2 =>
    b a o (fun z=>h2 _ _ _ (by rw [z,M.ins] at e; cases e; rfl)) (fun z=>h1 _ (by rw [z,M.pile] at e; cases e; rfl)) (fun z=>h1 _ (by rw [z,M.kept] at e; cases e; rfl)) e
  refine ⟨fun a xs q=>?_,fun a xs q=>?_⟩
  · rcases q with (q | ⟨u,q⟩) | q
    · exact .inl (.inl (nt q (fun _ z=>by cases z) (fun _ _ _ z=>by cases z)))
    · exact .inl (.inr ⟨u,nt q (fun _ z=>by cases z) (fun _ _ _ z=>by cases z)⟩)
    · exact .inr q
  · rcases q with (q | ⟨u,q⟩) | q
    · by_cases h1:a = A.lp
      · exact ⟨_,SqL.of (by rw [h1]; exact M'.pile)⟩
      · by_cases h2:a = A.lk
        · exact ⟨_,SqL.of (by rw [h2]; exact M'.kept)⟩
        · exact ⟨xs,.inl (.inl (b a _ (fun z=>by rw [z,M.ins] at q; cases q) h1 h2 q))⟩
    · exact ⟨xs,.inl (.inr ⟨u,nt q (fun _ z=>by cases z) (fun _ _ _ z=>by cases z)⟩)⟩
    · exact ⟨xs,.inr q⟩
end
theorem ButM.sqT {C:Addr} {A:MA} {mc:MC} {st:MS} {H H':Hp} {a:Addr} {xs:List V} (b:ButM A H H') (M:MacAt K C A mc st H) (q:SqT K H a xs):SqT K H' a xs:=by
  have nt:∀ {o:HO},H a = some o→(∀ xs,o ≠ .lst xs)→(∀ C dx fs,o ≠ .ins C dx fs)→H' a = some o:=fun {o} e h1 h2 =>
    b a o (fun z=>h2 _ _ _ (by rw [z,M.ins] at e; cases e; rfl)) (fun z=>h1 _ (by rw [z,M.pile] at e; cases e; rfl)) (fun z=>h1 _ (by rw [z,M.kept] at e; cases e; rfl)) e
  rcases q with (q | ⟨u,q⟩) | q
  · exact .inl (.inl (nt q (fun _ z=>by cases z) (fun _ _ _ z=>by cases z)))
  · exact .inl (.inr ⟨u,nt q (fun _ z=>by cases z) (fun _ _ _ z=>by cases z)⟩)
  · exact .inr q
mutual
theorem datT {H H':Hp} (hT:∀ a xs,SqT K H a xs→SqT K H' a xs):∀ (d:D) (v:V),noL d = true→Dat K H d v→Dat K H' d v
  | .non,v,_,h=>by rw [h.nonE]; exact Dat.nonI
  | .bl b,v,_,h=>by rw [h.blE]; exact Dat.blI b
  | .int i,v,_,h=>by rw [h.intE]; exact Dat.intI i
  | .str x,v,_,h=>by rw [h.strE]; exact Dat.strI x
  | .tup ds,v,n,h=>by
    obtain ⟨a,vs,e,hq,hd⟩:=h.tupE
    subst e
    exact Dat.tupI (hT a vs hq) (datsT hT ds vs n hd)
  | .lst,v,n,_=>by cases n
theorem datsT {H H':Hp} (hT:∀ a xs,SqT K H a xs→SqT K H' a xs):∀ (ds:List D) (vs:List V),noLs ds = true→Dats K H ds vs→Dats K H' ds vs
  | [],vs,_,h=>by rw [h.nilE]; exact Dats.nil
  | d :: ds,vs,n,h=>by
    obtain ⟨v,r,e,h1,h2⟩:=h.consE
    subst e
    have n:(noL d && noLs ds) = true:=n
    rw [Bool.and_eq_true] at n
    exact Dats.cons (datT hT d v n.1 h1) (datsT hT ds r n.2 h2)
end
theorem re_tupleRL {σ:L2.St} {H:Hp} {t:TE} {es:List D} (h:RL K t σ H es):RE K (tCB (fun xs H Q=>∃ p ys,xs = [.ref p]∧((SqL K H p ys∧∀ l,H l = none→Q (.ref l) (upd H l (.tup ys)))∨(SqT K H p ys∧Q (.ref p) H))) (tCons t tNil)) σ H (.tup es):=fun H1 s Q q =>
  r_cb1 ((h.mono s).use fun v H' s' hd=>by
    obtain ⟨l,ys,rfl,hy,hd⟩:=hd
    exact ⟨l,ys,rfl,.inl ⟨hy.sqL,fun p hp=>q _ _ (s'.trans (same_new hp _)) (Dat.tupI (SqT.of upd_same) ((same_new hp _).dats hd))⟩⟩)
theorem while_rt {c:TT} {tb:TS} {En:Ends} {σ:L2.St} {H:Hp} (Pv:L2.St→Hp→Prop) (μ:L2.St→Hp→Nat) (h0:Pv σ H)
    (hs:∀ σ H,Pv σ H→∃ b,RT c σ H b∧∀ H1,Same H H1→if b = true then tb { En with nx:=fun σ' H'=>Pv σ' H'∧μ σ' H' < μ σ H,ct:=fun σ' H'=>Pv σ' H'∧μ σ' H' < μ σ H,bk:=En.nx } σ H1 else En.nx σ H1):tWhile c tb En σ H:=by
  refine ⟨fun m σ H=>m = μ σ H∧Pv σ H,⟨_,rfl,h0⟩,?_⟩
  rintro m σ H ⟨rfl,p⟩
  obtain ⟨b,hb,q⟩:=hs σ H p
  refine hb H (Same.refl _) _ fun H1 s=>?_
  have z:=q H1 s
  cases b with
  | true=>exact ⟨_,fun σ' H' ⟨p',l⟩=>⟨_,l,rfl,p'⟩,z⟩
  | false=>exact z
theorem rs_applE {te:TE} {En:Ends} {σ:L2.St} {G:Hp} {j:Nat} {l:Addr} {xs:List V} {d:D} (h:RE K te σ G d) (hl:G l = some (.lst xs)) (hx:xs.length ≤ 900)
    (q:∀ y G',But l G G'→G' l = some (.lst (xs ++ [y]))→Dat K G' d y→En.nx σ G') (hv:σ[j]? = some (some (.ref l)):=by rfl):tDrop (tBM K "list" rAppend (tVar j) (tCons te tNil)) En σ G :=
  rs_appl (us:=tNext) h hl hx q hv
def rowM (st:MS):D:=.tup [.int st.place,.tup (st.pile.reverse.map D.int)]
def traceM (mc:MC):Nat→MS→List D
  | 0,_=>[]
  | n + 1,st=>match stepM mc st with
    | none=>[]
    | some s=>rowM st :: if s.ended = true then [] else traceM mc n s
theorem row_flat (st:MS):noL (rowM st) = true:=by
  show (true && (noLs (st.pile.reverse.map D.int) && true)) = true
  rw [noLs_ints]
  rfl
theorem trace_flat (mc:MC):∀ n st,noLs (traceM mc n st) = true
  | 0,_=>rfl
  | n + 1,st=>by
    rw [traceM]
    split
    · rfl
    · rename_i s _
      show (noL (rowM st) && noLs _) = true
      rw [row_flat,Bool.true_and]
      split
      · rfl
      · exact trace_flat mc n s
def goM (mc:MC) (n:Nat) (st:MS):List D:=if st.ended = true then [] else traceM mc n st
def spTrace (K:PySem.W.Frag):Sp:=fun vs H Q _=>∃ (lc:Addr) (vg:V) (mc:MC) (n:Nat),vs = [.ref lc,vg,.int mc.b,.int n]∧okMC mc∧H lc = some (.lst (mc.cs.map V.int))∧Dat K H (.tup (mc.as.map D.int)) vg∧1 ≤ n∧n ≤ 900 ∧
  ∀ r us H',Same H H'→H' r = some (.lst us)→H r = none→Dats K H' (traceM mc n st0) us→Q (.ref r) H'
def mu5 (n:Nat) (σ:L2.St) (H:Hp):Nat:=match σ[5]? with
  | some (some (V.ref l))=>(match H l with
    | some (.lst xs)=>n - xs.length
    | _=>0)
  | _=>0
theorem ok_trace (T:Txt K mg) (F_started:FnOk P w K mg base (CX2 P w) k T.a_started T.d_started ["code","args","size","steps"] (spOr (spBad K T.a_NoCode T.a_NoSize T.a_NoArgs T.a_NoSteps) (spStart K T.a_Machine))) (F_Machine_step:FnOk P w K mg base (CX2 P w) k T.a_Machine_step T.d_Machine_step ["self"] (spStep K T.a_Fault T.a_Machine)):FnOk P w K mg base (CX2 P w) (k + 1) T.a_trace T.d_trace ["code","args","size","steps"] (spOr (spBad K T.a_NoCode T.a_NoSize T.a_NoArgs T.a_NoSteps) (spTrace K)):=by
  refine T.f_trace.ok2 sc_trace (fun vs H Q E h=>?_) (fun cdv A outer s H vs Q E hr h=>?_)
  · rcases h with ⟨a,x,y,z,C,hA,_⟩ | ⟨lc,vg,mc,n,rfl,_⟩; exact hA.length.symm; rfl
  have nd:=sc_trace.nd
  have hh:=h
  refine ⟨_,(pss_cons (ps_set (i:=4) nd rfl (Or.inl rfl) (pe_call F_started hr rfl T.m_started T.f_started.kp (b_started T) .nil pass2 (pa_c (pv 0) (pa_c (pv 1) (pa_c (pv 2) (pa_c (pv 3) pa_nil))))))
  (pss_cons (ps_set (i:=5) nd rfl (Or.inl rfl) (pe_lst pa_nil))
  (pss_cons (ps_while own_pass (PW.pt (pw_and (pt_cmpR op_lt (pe_callB call_len_seq rfl T.n_len bo_len (pa_c (pv 5) pa_nil)) (pv 3) (nomark _)) (pw_and1 (pt_not (pt_truth (pe_fld (pv 4) rfl) (fun _=>rfl)))))) (pss_cons (ps_set (i:=6) nd rfl (Or.inl rfl) (pe_tup (pa_c (pe_fld (pv 4) rfl) (pa_c (pe_callTy call_tuple_of rfl T.n_tuple bo_tuple (pa_c (pe_fld (pv 4) rfl) pa_nil)) pa_nil))))
  (pss_cons (ps_try2 (fun pn xe E hx=>(pss_one (ps_expr (pe_meth0S (pv 4) T.cl_Machine T.mt_Machine_step F_Machine_step hr (b_Machine_step T) .nil hx)))) rfl T.g_Fault (fun e=>(pss_one (ps_ret (pv 5)))))
  (pss_one (ps_expr (pe_bm PySem.F.plainAttrs_list PySem.F.slot_list_append PySem.F.type_list_append mt_append (pv 5) (pa_c (pv 6) pa_nil)))))))
  (pss_one (ps_ret (pv 5)))))),?_⟩
  rcases h with ⟨a,x,y,z,C,hA,hok,hR,post⟩ | ⟨lc,vg,mc,n,rfl,oc,hc,hg,n1,n9,post⟩
  · obtain ⟨v0,v1,v2,v3,rfl,_,_,_,_⟩:=ars4 hA
    exact rs_asg ⟨_,rfl,_,rfl,_,rfl,_,rfl,.inl ⟨a,x,y,z,C,hA,hok,hR,post⟩⟩
  · refine rs_asg ⟨_,rfl,_,rfl,_,rfl,_,rfl,.inr ⟨lc,vg,mc,n,rfl,oc,hc,hg,n1,by omega,fun A H1 s1 nm np nk M=>?_⟩⟩
    refine rs_setC (K:=K) (es:=[]) (rc_lst ra_nil) fun l ys H2 nl s2 hy dy=>?_
    obtain rfl:=dy.nilE
    have hl0:H l = none:=s1.free nl
    have lm:l ≠ A.m:=fun z=>by rw [z,M.ins] at nl; cases nl
    have lp:l ≠ A.lp:=fun z=>by rw [z,M.pile] at nl; cases nl
    have lk:l ≠ A.lk:=fun z=>by rw [z,M.kept] at nl; cases nl
    have lc':A.lc ≠ l:=fun z=>by have:=M.cells; rw [z,nl] at this; cases this
    have s12:=s1.trans s2
    refine rs_seq (while_rt (fun σ G=>∃ (z:Option V) (st:MS) (xs:List V) (rows:List D),σ = [some (.ref lc),some vg,some (.int mc.b),some (.int n),some (.ref A.m),some (.ref l),z]∧MacAt K T.a_Machine A mc st G∧okMS mc st∧Same H G∧G l = some (.lst xs)∧Dats K G rows xs∧rows.length ≤ n∧rows ++ goM mc (n - rows.length) st = traceM mc n st0) (mu5 n) ?_ ?_)
    · exact ⟨none,st0,[],[],rfl,M.same s2,ok_st0,s12,hy,Dats.nil,Nat.zero_le _,by show goM mc n st0 = _; rfl⟩
    · rintro σ G ⟨z,st,xs,rows,rfl,M,os,sG,hG,dG,lr,hr2⟩
      have ll:=dG.length
      have L:LD K G rows (.ref l):=LD.of hG dG
      refine ⟨decide ((rows.length:Int) < (n:Int)) && !st.ended,rt_and (rt_test (re_cmp (p:=fun i j=>decide (i < j)) (re_lenL (rl_var (K:=K) (k:=5) L)) (re_var (k:=3) (Dat.intI (n:Int))))) fun _=>rt_not (rt_truth (re_fldB (i:=4) (z:=st.ended) M T.cl_Machine T.na_ended)),fun G1 t1=>?_⟩
      have M:=M.same t1
      have hG1:=t1 _ _ hG
      have dG1:=t1.dats dG
      have sG1:=sG.trans t1
      cases hb:(decide ((rows.length:Int) < (n:Int)) && !st.ended) with
      | false =>
        refine iteF ⟨_,rfl,post l xs G1 sG1 hG1 hl0 ?_⟩
        have e:goM mc (n - rows.length) st = []:=by
          unfold goM
          cases he:st.ended with
          | true=>rfl
          | false =>
            rw [he,Bool.not_false,Bool.and_true] at hb
            have:=of_decide_eq_false hb
            have e0:n - rows.length = 0:=by omega
            rw [e0]
            rfl
        rw [e,List.append_nil] at hr2
        rw [← hr2]
        exact dG1
      | true =>
        rw [Bool.and_eq_true] at hb
        have hlt:rows.length < n:=by have:=of_decide_eq_true hb.1; omega
        have he:st.ended = false:=(Bool.not_eq_true' _).mp hb.2
        obtain ⟨k',ek⟩:∃ k',n - rows.length = k' + 1:=⟨n - rows.length - 1,by omega⟩
        have eg:goM mc (n - rows.length) st = traceM mc (k' + 1) st:=by unfold goM; rw [he,ek]; rfl
        rw [eg] at hr2
        refine iteT (rs_setr (K:=K) (d:=rowM st) (re_tup (ra_cons (re_fldI (i:=4) (z:=st.place) M T.cl_Machine T.na_place) (ra_cons (re_tupleRL (rl_fldP (i:=4) M T.cl_Machine T.na_pile)) ra_nil))) fun v6 G2 t2 d6=>?_)
        have M:=M.same t2
        have hG2:=t2 _ _ hG1
        have dG2:=t2.dats dG1
        have sG2:=sG1.trans t2
        refine rs_seq ⟨_,rfl,A.m,A.dx,_,rfl,M.ins,by kernel_rfl,A,mc,st,rfl,M,oc,os,fun v st' e G3 b3 M3=>?_,fun e G3 dx b3 hd=>⟨T.e_Fault_Fault,_,rfl,?_⟩⟩
        · obtain ⟨s',hs,e2⟩:=Option.map_eq_some_iff.mp e
          cases e2
          obtain ⟨os2,_⟩:=step_pl oc os hs
          have sG3:=butM_same sG2 b3 nm np nk
          have hG3:=b3 _ _ lm lp lk hG2
          have gr:=b3.grow M M3
          refine rs_applE (K:=K) (d:=rowM st) (re_var (k:=6) (Dat.mono gr _ d6)) hG3 (by omega) fun y G4 b4 hG4 dy4=>?_
          have gr4:=b4.grow (K:=K) hG3 hG4
          have M4:MacAt K T.a_Machine A mc st' G4:=⟨b4 _ _ (Ne.symm lm) M3.ins,b4 _ _ lc' M3.cells,Dat.mono gr4 _ M3.given,b4 _ _ (Ne.symm lp) M3.pile,b4 _ _ (Ne.symm lk) M3.kept,M3.ne,M3.c1,M3.c2⟩
          have sG4:Same H G4:=fun x o e=>b4 x o (fun z=>by rw [z,hl0] at e; cases e) (sG3 x o e)
          rw [traceM,hs] at hr2
          dsimp only at hr2
          refine ⟨⟨some v6,st',xs ++ [y],rows ++ [rowM st],rfl,M4,os2,sG4,hG4,Dats.append (Dats.mono gr4 _ (Dats.mono gr _ dG2)) (Dats.cons dy4 Dats.nil),by rw [List.length_append]; exact hlt,?_⟩,?_⟩
          · have e1:n - (rows ++ [rowM st]).length = k':=by rw [List.length_append]; show n - (rows.length + 1) = k'; omega
            rw [e1,← hr2,List.append_assoc]
            rfl
          · show (match G4 l with | some (.lst xs)=>n - xs.length | _=>0) < (match G l with | some (.lst xs)=>n - xs.length | _=>0)
            rw [hG4,hG]
            show n - (xs ++ [y]).length < n - xs.length
            rw [List.length_append]
            show n - (xs.length + 1) < _
            omega
        · have e:stepM mc st = none:=by simpa using e
          rw [traceM,e] at hr2
          dsimp only at hr2
          rw [List.append_nil] at hr2
          refine post l xs G3 (butM_same sG2 b3 nm np nk) (b3 _ _ lm lp lk hG2) hl0 ?_
          rw [← hr2]
          have nf:noLs rows = true:=by rw [hr2]; exact trace_flat mc n st0
          exact datsT (fun a xs q=>b3.sqT M q) rows xs nf dG2
end
end My
end
section
namespace My
open PySem L2 PyProof.Rows
section
variable {P:Program} {w:World} {K:PySem.W.Frag} {mg:Str→Option Value} {base:Heap} {k:Nat}
def walkC (cs:List Int):Nat→Nat→List D × Option Nat
  | 0,_=>([],none)
  | n + 1,p=>match cs[p]? with
    | none=>([],none)
    | some c=>if badC cs p c = true then ([],some p) else (rowD cs p c :: (walkC cs n (p + 1 + behN c)).1,(walkC cs n (p + 1 + behN c)).2)
def rowsC (cs:List Int):List D:=(walkC cs (cs.length + 1) 0).1
def faultC (cs:List Int):Option Nat:=(walkC cs (cs.length + 1) 0).2
theorem walk_end {cs:List Int} {n p:Nat} (h:cs.length ≤ p):walkC cs (n + 1) p = ([],none):=by
  unfold walkC
  rw [List.getElem?_eq_none h]
theorem walk_bad {cs:List Int} {n p:Nat} {c:Int} (h:cs[p]? = some c) (hb:badC cs p c = true):walkC cs (n + 1) p = ([],some p):=by
  unfold walkC
  rw [h]
  dsimp only
  rw [if_pos hb]
theorem walk_on {cs:List Int} {n p:Nat} {c:Int} (h:cs[p]? = some c) (hb:badC cs p c = false):walkC cs (n + 1) p = (rowD cs p c :: (walkC cs n (p + 1 + behN c)).1,(walkC cs n (p + 1 + behN c)).2):=by
  rw [walkC,h]
  dsimp only
  rw [if_neg (by rw [hb]; exact Bool.false_ne_true)]
structure LsS (cs:List Int) (p n:Nat) (rows:List D):Prop where
  hr:rows ++ (walkC cs n p).1 = rowsC cs
  hf:(walkC cs n p).2 = faultC cs
  hp:p ≤ cs.length
  hn:cs.length + 1 ≤ n + p
  hl:rows.length ≤ p
theorem LsS.end {cs:List Int} {p n:Nat} {rows:List D} (S:LsS cs p n rows) (h:¬ p < cs.length):rows = rowsC cs∧faultC cs = none:=by
  have hn:=S.hn
  have hp:=S.hp
  obtain ⟨n,rfl⟩:∃ m,n = m + 1:=⟨n - 1,by omega⟩
  have r:=S.hr
  have f:=S.hf
  rw [walk_end (by omega)] at r f
  rw [List.append_nil] at r
  exact ⟨r,f.symm⟩
theorem LsS.bad {cs:List Int} {p n:Nat} {c:Int} {rows:List D} (S:LsS cs p n rows) (h:cs[p]? = some c) (hb:badC cs p c = true):faultC cs = some p:=by
  have hn:=S.hn
  have hp:=S.hp
  obtain ⟨n,rfl⟩:∃ m,n = m + 1:=⟨n - 1,by omega⟩
  have f:=S.hf
  rw [walk_bad h hb] at f
  exact f.symm
theorem LsS.on {cs:List Int} {p n:Nat} {c:Int} {rows:List D} (S:LsS cs p n rows) (h:cs[p]? = some c) (hb:badC cs p c = false):∃ m,LsS cs (p + 1 + behN c) m (rows ++ [rowD cs p c]):=by
  have hn:=S.hn
  have hp:=S.hp
  have hl:=S.hl
  obtain ⟨n,rfl⟩:∃ m,n = m + 1:=⟨n - 1,by omega⟩
  have r:=S.hr
  have f:=S.hf
  rw [walk_on h hb] at r f
  obtain ⟨_,hlt⟩:=bad_f hb
  refine ⟨n,⟨?_,f,by omega,by omega,?_⟩⟩
  · rw [List.append_assoc]
    exact r
  · rw [List.length_append,List.length_cons,List.length_nil]
    omega
theorem LsS.start (cs:List Int):LsS cs 0 (cs.length + 1) []:=⟨rfl,rfl,Nat.zero_le _,Nat.le_refl _,Nat.le_refl _⟩
def spLst (K:PySem.W.Frag) (N:Addr):Sp:=fun vs H Q E=>∃ cs,okC cs∧Ars K H [.l (cD cs)] vs ∧
  (faultC cs = none→∀ r us H',Same H H'→H' r = some (.lst us)→H r = none→Dats K H' (rowsC cs) us→Q (.ref r) H') ∧
  ∀ p:Nat,faultC cs = some p→∀ H' dx,Same H H'→H' dx = some (.xd [("place",.int p)])→E (.ref N) (some dx) H'
def mu2c (σ:L2.St) (_:Hp):Nat:=match σ[2]? with
  | some (some (V.int p))=>(2000 - p).toNat
  | _=>0
def spLb (K:PySem.W.Frag) (N:Addr):Sp:=fun vs H _ E=>∃ (a:Ar),Ars K H [a] vs∧okA a∧codeA a = false∧∀ H',Same H H'→E (.ref N) none H'
theorem ok_listed (T:Txt K mg) (F_need_code:FnOk P w K mg base (CX2 P w) k T.a_need_code T.d_need_code ["code"] (spAE K RncA (BncA T.a_NoCode))) (F_instruction_at:FnOk P w K mg base (CX2 P w) k T.a_instruction_at T.d_instruction_at ["cells","place"] (spAF K "place" Rinst (Binst T.a_Fault))):FnOk P w K mg base (CX2 P w) (k + 1) T.a_listed T.d_listed ["code"] (spOr (spLb K T.a_NoCode) (spLst K T.a_Fault)):=by
  refine T.f_listed.ok2 sc_listed (fun vs H Q E h=>?_) (fun cdv A outer s H vs Q E hr h=>?_)
  · rcases h with ⟨a,hd,_⟩ | ⟨cs,ok,hd,_⟩ <;> exact hd.length.symm
  have nd:=sc_listed.nd
  have hh:=h
  refine ⟨_,(pss_cons (ps_expr (pe_call F_need_code hr rfl T.m_need_code T.f_need_code.kp (b_need_code T) .nil pass2 (pa_c (pv 0) pa_nil)))
  (pss_cons (ps_set (i:=1) nd rfl (Or.inl rfl) (pe_lst pa_nil))
  (pss_cons (ps_set (i:=2) nd rfl (Or.inl rfl) pe_int)
  (pss_cons (ps_while own_pass (pt_cmpR op_lt (pv 2) (pe_callB call_len_seq rfl T.n_len bo_len (pa_c (pv 0) pa_nil)) (nomark _)) (pss_cons (ps_asg (pe_call F_instruction_at hr rfl T.m_instruction_at T.f_instruction_at.kp (b_instruction_at T) .nil pass2 (pa_c (pv 0) (pa_c (pv 2) pa_nil))) (pg_tup rfl (pgs_cons (pg_name (i:=3) nd rfl (Or.inl rfl)) (pgs_cons (pg_name (i:=4) nd rfl (Or.inl rfl)) pgs_nil))))
  (pss_cons (ps_expr (pe_bm PySem.F.plainAttrs_list PySem.F.slot_list_append PySem.F.type_list_append mt_append (pv 1) (pa_c (pe_tup (pa_c (pv 2) (pa_c (pv 3) (pa_c (pv 4) pa_nil)))) pa_nil)))
  (pss_one (ps_aug (i:=2) nd rfl (Or.inl rfl) (pe_op op_add pe_int (pe_callB call_len_seq rfl T.n_len bo_len (pa_c (pv 4) pa_nil))) ip_add)))))
  (pss_one (ps_ret (pv 1))))))),?_⟩
  rcases h with ⟨a,hd,hok,hc,post⟩ | ⟨cs,ok,hd,post1,post2⟩
  · obtain ⟨v0,rfl,h0⟩:=ars1 hd
    exact rs_exp (rx_callAE (B:=BncA T.a_NoCode) (rb_one (k:=0) h0) ⟨a,rfl,hok,hc,rfl⟩ fun H' s=>post H' s)
  · obtain ⟨v0,rfl,h0⟩:=ars1 hd
    have h0:LD K H (cD cs) v0:=h0
    have l1:=ok.l1
    refine rs_exp (RE.use (re_callAE (R:=RncA) (d:=.non) (rb_l (rl_var (K:=K) (k:=0) h0) rb_nil) ⟨.l (cD cs),rfl,trivial,codeA_ok ok,rfl⟩) fun v4 H1 s1 _=>?_)
    refine rs_setC (K:=K) (es:=[]) (rc_lst ra_nil) fun l ys H2 hl s2 hy dy=>?_
    refine rs_setr (K:=K) (d:=.int 0) re_int fun v2 H3 s3 q3=>?_
    obtain rfl:=q3.intE
    have hl0:H l = none:=s1.free hl
    refine rs_seq (while_by (fun σ G=>∃ (p n:Nat) (z3 z4:Option V) (xs:List V) (rows:List D),σ = [some v0,some (.ref l),some (.int p),z3,z4]∧Same H G∧G l = some (.lst xs)∧Dats K G rows xs∧LsS cs p n rows) mu2c ?_ ?_ ?_)
    · exact ⟨0,_,none,none,ys,[],rfl,s1.trans (s2.trans s3),s3 _ _ hy,s3.dats dy,LsS.start cs⟩
    · rintro σ G ⟨p,n,z3,z4,xs,rows,rfl,sG,hG,dG,S⟩
      have g0:=sG.ld h0
      refine RT.use (b:=decide ((p:Int) < ((cD cs).length:Int))) (rt_test (re_cmp (p:=fun i j=>decide (i < j)) (re_var (K:=K) (Dat.intI (p:Int))) (re_lenL (rl_var g0)))) fun G1 t1=>?_
      by_cases hlt:p < cs.length
      · rw [decide_eq_true (by rw [List.length_map]; omega:(p:Int) < ((cD cs).length:Int))]
        refine iteT ?_
        have hx:cs[p]? = some cs[p]:=List.getElem?_eq_getElem hlt
        generalize cs[p] = c at hx
        have g0:=t1.ld g0
        have rA:RB K (tCons (tVar 0) (tCons (tVar 2) tNil)) [some v0,some (.ref l),some (.int (p:Int)),z3,z4] G1 [.l (cD cs),.d (.int p)]:=rb_l (rl_var (k:=0) g0) (rb_d (re_var (k:=2) (Dat.intI (p:Int))) rb_nil)
        cases hb:badC cs p c with
        | true=>exact rx_callAF (R:=Rinst) (B:=Binst T.a_Fault) rA ⟨cs,p,rfl,ok,by unfold badP; rw [hx]; exact hb,rfl,rfl⟩ fun G2 dx t2 hdx=>post2 p (S.bad hx hb) G2 dx (sG.trans (t1.trans t2)) hdx
        | false =>
          refine rs_unp2 (K:=K) (d:=.str (nmC c)) (e:=.tup (behC cs p (behN c))) (re_callAF (R:=Rinst) (B:=Binst T.a_Fault) rA ⟨cs,p,c,rfl,ok,hx,hb,rfl⟩) fun v3 v4 G2 t2 g3 g4=>?_
          have t12:=t1.trans t2
          have hG2:=t12 _ _ hG
          have ll:=dG.length
          have sl:=S.hl
          refine rs_appl (K:=K) (d:=rowD cs p c) (re_tup (ra_cons (re_var (k:=2) (Dat.intI (p:Int))) (ra_cons (re_var (k:=3) g3) (ra_cons (re_var (k:=4) g4) ra_nil)))) hG2 (by omega) fun y G3 b3 hG3 dy3=>?_
          have gr:=b3.grow (K:=K) hG2 hG3
          have g4:=Dat.mono gr _ g4
          obtain ⟨h16,hlb⟩:=bad_f hb
          have lb:(behC cs p (behN c)).length = behN c:=by rw [behC_len]; omega
          refine ⟨_,rfl,RE.use (re_add (K:=K) re_int (re_len (re_var (k:=4) g4))) fun v5 G4 t4 q5=>?_⟩
          refine ⟨p,1 + ((behC cs p (behN c)).length:Int),rfl,q5.intE,?_⟩
          have ep:(p:Int) + (1 + ((behC cs p (behN c)).length:Int)) = ((p + 1 + behN c:Nat):Int):=by rw [lb]; omega
          obtain ⟨m,S'⟩:=S.on hx hb
          have sH:Same H G3:=fun b o e=>b3 b o (fun z=>by rw [z,hl0] at e; cases e) ((sG.trans t12) b o e)
          refine ⟨⟨p + 1 + behN c,m,some v3,some v4,xs ++ [y],rows ++ [rowD cs p c],by rw [← ep]; rfl,sH.trans t4,t4 _ _ hG3,t4.dats (Dats.append (Dats.mono gr _ (t12.dats dG)) (Dats.cons dy3 Dats.nil)),S'⟩,?_⟩
          show (2000 - ((p:Int) + (1 + ((behC cs p (behN c)).length:Int)))).toNat < (2000 - (p:Int)).toNat
          omega
      · rw [decide_eq_false (by rw [List.length_map]; omega:¬ (p:Int) < ((cD cs).length:Int))]
        refine iteF ?_
        obtain ⟨e1,e2⟩:=S.end hlt
        subst e1
        exact ⟨_,rfl,post1 e2 l xs G1 (sG.trans t1) (t1 _ _ hG) hl0 (t1.dats dG)⟩
    · intro σ G Q1 Q2 hQ hc
      obtain ⟨v,e,v',e',p,ys,e2,hq,i,j,e3,e4,b,e5,q⟩:=hc
      exact ⟨v,e,v',e',p,ys,e2,hq,i,j,e3,e4,b,e5,hQ _ _ q⟩
end
end My
end
section
namespace My
open PySem L2 PyProof.Rows
section
variable {P:Program} {w:World} {K:PySem.W.Frag} {mg:Str→Option Value} {base:Heap} {k:Nat}
def Which (T:Txt K mg) (D:Addr) (j:Nat):Prop:=(D = T.a_NoSize∧j = 0)∨(D = T.a_NoArgs∧j = 2)∨(D = T.a_NoCode∧j = 3)∨(D = T.a_NoSteps∧j = 4)∨(D = T.a_Late∧j = 5)∨(D = T.a_Fault∧j = 12)
abbrev refu (j:Nat):D:=.tup [.str "refused",.int j]
def spWhich (T:Txt K mg):Sp:=fun vs H Q _=>∃ (x D:Addr) (j:Nat),vs = [.ref x]∧H x = some (ExcO x D)∧Which T D j∧∀ v H',Same H H'→Dat K H' (refu j) v→Q v H'
theorem ok__law_which (T:Txt K mg)  : FnOkH P w K mg base (k + 1) T.a__law_which T.d__law_which ["_law_e"] (spWhich T):=by
  refine T.f__law_which.okH sc__law_which (fun vs H Q E h=>?_) (fun cdv A outer s H vs Q E hr h=>?_)
  · obtain ⟨x,D,j,rfl,_⟩:=h; rfl
  have nd:=sc__law_which.nd
  obtain ⟨x,D,j,rfl,hx,hw,post⟩:=h
  refine ⟨_,(pss_cons (ps_set (i:=1) nd rfl (Or.inl rfl) (pe_lst (pa_c (pe_callB call_isExc rfl T.n_isinstance bo_isinstance (pa_cons (pv 0) (pa_cons (pe_glob (v:=.ref T.a_NoSize) rfl T.g_NoSize rfl) pa_nil))) (pa_c (pe_callB call_isExc rfl T.n_isinstance bo_isinstance (pa_cons (pv 0) (pa_cons (pe_glob (v:=.ref T.a_NoTree) rfl T.g_NoTree rfl) pa_nil))) (pa_c (pe_callB call_isExc rfl T.n_isinstance bo_isinstance (pa_cons (pv 0) (pa_cons (pe_glob (v:=.ref T.a_NoArgs) rfl T.g_NoArgs rfl) pa_nil))) (pa_c (pe_callB call_isExc rfl T.n_isinstance bo_isinstance (pa_cons (pv 0) (pa_cons (pe_glob (v:=.ref T.a_NoCode) rfl T.g_NoCode rfl) pa_nil))) pa_nil))))))
  (pss_cons (ps_expr (pe_bm PySem.F.plainAttrs_list PySem.F.slot_list_extend PySem.F.type_list_extend mt_extend (pv 1) (pa_c (pe_lst (pa_c (pe_callB call_isExc rfl T.n_isinstance bo_isinstance (pa_cons (pv 0) (pa_cons (pe_glob (v:=.ref T.a_NoSteps) rfl T.g_NoSteps rfl) pa_nil))) (pa_c (pe_callB call_isExc rfl T.n_isinstance bo_isinstance (pa_cons (pv 0) (pa_cons (pe_glob (v:=.ref T.a_Late) rfl T.g_Late rfl) pa_nil))) (pa_c (pe_callB call_isExc rfl T.n_isinstance bo_isinstance (pa_cons (pv 0) (pa_cons (pe_glob (v:=.ref T.a_NoPiece) rfl T.g_NoPiece rfl) pa_nil))) (pa_c (pe_callB call_isExc rfl T.n_isinstance bo_isinstance (pa_cons (pv 0) (pa_cons (pe_glob (v:=.ref T.a_NoSet) rfl T.g_NoSet rfl) pa_nil))) pa_nil))))) pa_nil)))
  (pss_cons (ps_expr (pe_bm PySem.F.plainAttrs_list PySem.F.slot_list_extend PySem.F.type_list_extend mt_extend (pv 1) (pa_c (pe_lst (pa_c (pe_callB call_isExc rfl T.n_isinstance bo_isinstance (pa_cons (pv 0) (pa_cons (pe_glob (v:=.ref T.a_NoCover) rfl T.g_NoCover rfl) pa_nil))) (pa_c (pe_callB call_isExc rfl T.n_isinstance bo_isinstance (pa_cons (pv 0) (pa_cons (pe_glob (v:=.ref T.a_NoParts) rfl T.g_NoParts rfl) pa_nil))) (pa_c (pe_callB call_isExc rfl T.n_isinstance bo_isinstance (pa_cons (pv 0) (pa_cons (pe_glob (v:=.ref T.a_NoName) rfl T.g_NoName rfl) pa_nil))) (pa_c (pe_callB call_isExc rfl T.n_isinstance bo_isinstance (pa_cons (pv 0) (pa_cons (pe_glob (v:=.ref T.a_Taken) rfl T.g_Taken rfl) pa_nil))) pa_nil))))) pa_nil)))
  (pss_cons (ps_expr (pe_bm PySem.F.plainAttrs_list PySem.F.slot_list_extend PySem.F.type_list_extend mt_extend (pv 1) (pa_c (pe_lst (pa_c (pe_callB call_isExc rfl T.n_isinstance bo_isinstance (pa_cons (pv 0) (pa_cons (pe_glob (v:=.ref T.a_Fault) rfl T.g_Fault rfl) pa_nil))) (pa_c (pe_callB call_isExc rfl T.n_isinstance bo_isinstance (pa_cons (pv 0) (pa_cons (pe_glob (v:=.ref T.a_Broken) rfl T.g_Broken rfl) pa_nil))) pa_nil))) pa_nil)))
  (pss_cons (ps_if (PW.pt (pw_or (pt_cmpR op_ne (pe_bm PySem.F.plainAttrs_list PySem.F.slot_list_count PySem.F.type_list_count mt_countB (pv 1) (pa_c pe_bl pa_nil)) pe_int (nomark _)) (pw_or1 (pt_not (pt_truth (pe_callB call_isExc rfl T.n_isinstance bo_isinstance (pa_cons (pv 0) (pa_cons (pe_bltn (v:=.ty "ValueError") rfl T.n_ValueError bo_ValueError rfl) pa_nil))) (fun _=>rfl)))))) (pss_one (ps_ret (pe_tup (pa_c pe_str (pa_c (pe_un un_neg pe_int) pa_nil))))) pss_nil)
  (pss_one (ps_ret (pe_tup (pa_c pe_str (pa_c (pe_bm PySem.F.plainAttrs_list PySem.F.slot_list_index PySem.F.type_list_index mt_indexB (pv 1) (pa_c pe_bl pa_nil)) pa_nil)))))))))),?_⟩
  rcases hw with ⟨rfl,rfl⟩ | ⟨rfl,rfl⟩ | ⟨rfl,rfl⟩ | ⟨rfl,rfl⟩ | ⟨rfl,rfl⟩ | ⟨rfl,rfl⟩
  · refine rs_asg (rl_lst (K:=K) (ra_cons (re_isExc (c:=.ref T.a_NoSize) hx T.x_NoSize T.k_NoSize_NoSize (.inl ⟨_,rfl⟩)) (ra_cons (re_isExc (c:=.ref T.a_NoTree) hx T.x_NoSize T.k_NoSize_NoTree (.inl ⟨_,rfl⟩)) (ra_cons (re_isExc (c:=.ref T.a_NoArgs) hx T.x_NoSize T.k_NoSize_NoArgs (.inl ⟨_,rfl⟩)) (ra_cons (re_isExc (c:=.ref T.a_NoCode) hx T.x_NoSize T.k_NoSize_NoCode (.inl ⟨_,rfl⟩)) ra_nil)))) fun lb x0 H1 s1 hb e0=>?_)
    have hx1:upd H1 lb (.lst x0) x = some (ExcO x T.a_NoSize):=(s1.trans (same_new hb _)) _ _ hx
    have nlb:lb ≠ x:=fun z=>by rw [z] at hb; rw [s1 _ _ hx] at hb; cases hb
    have hlb:H lb = none:=s1.free hb
    have e0:=(same_new hb (.lst x0)).dats e0
    have h0:upd H1 lb (.lst x0) lb = some (.lst x0):=upd_same
    have l0:x0.length = 4:=e0.length.symm
    have bb0:But lb H (upd H1 lb (.lst x0)):=(s1.trans (same_new hb _)).but
    refine rs_extl (K:=K) (ra_cons (re_isExc (c:=.ref T.a_NoSteps) hx1 T.x_NoSize T.k_NoSize_NoSteps (.inl ⟨_,rfl⟩)) (ra_cons (re_isExc (c:=.ref T.a_Late) hx1 T.x_NoSize T.k_NoSize_Late (.inl ⟨_,rfl⟩)) (ra_cons (re_isExc (c:=.ref T.a_NoPiece) hx1 T.x_NoSize T.k_NoSize_NoPiece (.inl ⟨_,rfl⟩)) (ra_cons (re_isExc (c:=.ref T.a_NoSet) hx1 T.x_NoSize T.k_NoSize_NoSet (.inl ⟨_,rfl⟩)) ra_nil)))) h0 (by omega) fun x1 G1 b1 h1 f1=>?_
    have hx2:=b1 _ _ (Ne.symm nlb) hx1
    have e1:=Dats.append (Dats.mono (b1.grow h0 h1) _ e0) f1
    have l1:(x0 ++ x1).length = 8:=e1.length.symm
    have bb1:=bb0.trans b1
    refine rs_extl (K:=K) (ra_cons (re_isExc (c:=.ref T.a_NoCover) hx2 T.x_NoSize T.k_NoSize_NoCover (.inl ⟨_,rfl⟩)) (ra_cons (re_isExc (c:=.ref T.a_NoParts) hx2 T.x_NoSize T.k_NoSize_NoParts (.inl ⟨_,rfl⟩)) (ra_cons (re_isExc (c:=.ref T.a_NoName) hx2 T.x_NoSize T.k_NoSize_NoName (.inl ⟨_,rfl⟩)) (ra_cons (re_isExc (c:=.ref T.a_Taken) hx2 T.x_NoSize T.k_NoSize_Taken (.inl ⟨_,rfl⟩)) ra_nil)))) h1 (by omega) fun x2 G2 b2 h2 f2=>?_
    have hx3:=b2 _ _ (Ne.symm nlb) hx2
    have e2:=Dats.append (Dats.mono (b2.grow h1 h2) _ e1) f2
    have l2:(x0 ++ x1 ++ x2).length = 12:=e2.length.symm
    have bb2:=bb1.trans b2
    refine rs_extl (K:=K) (ra_cons (re_isExc (c:=.ref T.a_Fault) hx3 T.x_NoSize T.k_NoSize_Fault (.inl ⟨_,rfl⟩)) (ra_cons (re_isExc (c:=.ref T.a_Broken) hx3 T.x_NoSize T.k_NoSize_Broken (.inl ⟨_,rfl⟩)) ra_nil)) h2 (by omega) fun x3 G3 b3 h3 f3=>?_
    have hx4:=b3 _ _ (Ne.symm nlb) hx3
    have e3:=Dats.append (Dats.mono (b3.grow h2 h3) _ e2) f3
    have l3:(x0 ++ x1 ++ x2 ++ x3).length = 14:=e3.length.symm
    have bb3:=bb2.trans b3
    have sm:Same H G3:=fun b o hbo=>bb3 b o (ne_of_none hbo hlb) hbo
    have ev:=datBs (bs:=[true,false,false,false,false,false,false,false,false,false,false,false,false,false]) e3
    have h3':G3 lb = some (.lst (blV [true,false,false,false,false,false,false,false,false,false,false,false,false,false])):=by rw [← show _ = blV [true,false,false,false,false,false,false,false,false,false,false,false,false,false] from ev]; exact h3
    refine rs_ifr (K:=K) (b:=false) ?_ (fun c=>nomatch c) (fun _ H5 s5=>?_)
    · exact RT.as (rt_or (rt_test (re_neI (re_countB h3') re_int)) fun _=>rt_not (rt_truth (re_isExc (c:=.ty "ValueError") hx4 T.x_NoSize T.k_NoSize_ValueError (.inr ⟨_,rfl⟩)))) rfl
    · refine rs_ret (K:=K) (d:=refu 0) (re_tup (ra_cons re_str (ra_cons (re_indexB (j:=0) (s5 _ _ h3') (by decide) rfl (fun m hm=>?_)) ra_nil))) fun v H' s q=>post v H' (sm.trans (s5.trans s)) q
      exact absurd hm (Nat.not_lt_zero m)
  · refine rs_asg (rl_lst (K:=K) (ra_cons (re_isExc (c:=.ref T.a_NoSize) hx T.x_NoArgs T.k_NoArgs_NoSize (.inl ⟨_,rfl⟩)) (ra_cons (re_isExc (c:=.ref T.a_NoTree) hx T.x_NoArgs T.k_NoArgs_NoTree (.inl ⟨_,rfl⟩)) (ra_cons (re_isExc (c:=.ref T.a_NoArgs) hx T.x_NoArgs T.k_NoArgs_NoArgs (.inl ⟨_,rfl⟩)) (ra_cons (re_isExc (c:=.ref T.a_NoCode) hx T.x_NoArgs T.k_NoArgs_NoCode (.inl ⟨_,rfl⟩)) ra_nil)))) fun lb x0 H1 s1 hb e0=>?_)
    have hx1:upd H1 lb (.lst x0) x = some (ExcO x T.a_NoArgs):=(s1.trans (same_new hb _)) _ _ hx
    have nlb:lb ≠ x:=fun z=>by rw [z] at hb; rw [s1 _ _ hx] at hb; cases hb
    have hlb:H lb = none:=s1.free hb
    have e0:=(same_new hb (.lst x0)).dats e0
    have h0:upd H1 lb (.lst x0) lb = some (.lst x0):=upd_same
    have l0:x0.length = 4:=e0.length.symm
    have bb0:But lb H (upd H1 lb (.lst x0)):=(s1.trans (same_new hb _)).but
    refine rs_extl (K:=K) (ra_cons (re_isExc (c:=.ref T.a_NoSteps) hx1 T.x_NoArgs T.k_NoArgs_NoSteps (.inl ⟨_,rfl⟩)) (ra_cons (re_isExc (c:=.ref T.a_Late) hx1 T.x_NoArgs T.k_NoArgs_Late (.inl ⟨_,rfl⟩)) (ra_cons (re_isExc (c:=.ref T.a_NoPiece) hx1 T.x_NoArgs T.k_NoArgs_NoPiece (.inl ⟨_,rfl⟩)) (ra_cons (re_isExc (c:=.ref T.a_NoSet) hx1 T.x_NoArgs T.k_NoArgs_NoSet (.inl ⟨_,rfl⟩)) ra_nil)))) h0 (by omega) fun x1 G1 b1 h1 f1=>?_
    have hx2:=b1 _ _ (Ne.symm nlb) hx1
    have e1:=Dats.append (Dats.mono (b1.grow h0 h1) _ e0) f1
    have l1:(x0 ++ x1).length = 8:=e1.length.symm
    have bb1:=bb0.trans b1
    refine rs_extl (K:=K) (ra_cons (re_isExc (c:=.ref T.a_NoCover) hx2 T.x_NoArgs T.k_NoArgs_NoCover (.inl ⟨_,rfl⟩)) (ra_cons (re_isExc (c:=.ref T.a_NoParts) hx2 T.x_NoArgs T.k_NoArgs_NoParts (.inl ⟨_,rfl⟩)) (ra_cons (re_isExc (c:=.ref T.a_NoName) hx2 T.x_NoArgs T.k_NoArgs_NoName (.inl ⟨_,rfl⟩)) (ra_cons (re_isExc (c:=.ref T.a_Taken) hx2 T.x_NoArgs T.k_NoArgs_Taken (.inl ⟨_,rfl⟩)) ra_nil)))) h1 (by omega) fun x2 G2 b2 h2 f2=>?_
    have hx3:=b2 _ _ (Ne.symm nlb) hx2
    have e2:=Dats.append (Dats.mono (b2.grow h1 h2) _ e1) f2
    have l2:(x0 ++ x1 ++ x2).length = 12:=e2.length.symm
    have bb2:=bb1.trans b2
    refine rs_extl (K:=K) (ra_cons (re_isExc (c:=.ref T.a_Fault) hx3 T.x_NoArgs T.k_NoArgs_Fault (.inl ⟨_,rfl⟩)) (ra_cons (re_isExc (c:=.ref T.a_Broken) hx3 T.x_NoArgs T.k_NoArgs_Broken (.inl ⟨_,rfl⟩)) ra_nil)) h2 (by omega) fun x3 G3 b3 h3 f3=>?_
    have hx4:=b3 _ _ (Ne.symm nlb) hx3
    have e3:=Dats.append (Dats.mono (b3.grow h2 h3) _ e2) f3
    have l3:(x0 ++ x1 ++ x2 ++ x3).length = 14:=e3.length.symm
    have bb3:=bb2.trans b3
    have sm:Same H G3:=fun b o hbo=>bb3 b o (ne_of_none hbo hlb) hbo
    have ev:=datBs (bs:=[false,false,true,false,false,false,false,false,false,false,false,false,false,false]) e3
    have h3':G3 lb = some (.lst (blV [false,false,true,false,false,false,false,false,false,false,false,false,false,false])):=by rw [← show _ = blV [false,false,true,false,false,false,false,false,false,false,false,false,false,false] from ev]; exact h3
    refine rs_ifr (K:=K) (b:=false) ?_ (fun c=>nomatch c) (fun _ H5 s5=>?_)
    · exact RT.as (rt_or (rt_test (re_neI (re_countB h3') re_int)) fun _=>rt_not (rt_truth (re_isExc (c:=.ty "ValueError") hx4 T.x_NoArgs T.k_NoArgs_ValueError (.inr ⟨_,rfl⟩)))) rfl
    · refine rs_ret (K:=K) (d:=refu 2) (re_tup (ra_cons re_str (ra_cons (re_indexB (j:=2) (s5 _ _ h3') (by decide) rfl (fun m hm=>?_)) ra_nil))) fun v H' s q=>post v H' (sm.trans (s5.trans s)) q
      match m,hm with
      | 0,_=>rfl
      | 1,_=>rfl
  · refine rs_asg (rl_lst (K:=K) (ra_cons (re_isExc (c:=.ref T.a_NoSize) hx T.x_NoCode T.k_NoCode_NoSize (.inl ⟨_,rfl⟩)) (ra_cons (re_isExc (c:=.ref T.a_NoTree) hx T.x_NoCode T.k_NoCode_NoTree (.inl ⟨_,rfl⟩)) (ra_cons (re_isExc (c:=.ref T.a_NoArgs) hx T.x_NoCode T.k_NoCode_NoArgs (.inl ⟨_,rfl⟩)) (ra_cons (re_isExc (c:=.ref T.a_NoCode) hx T.x_NoCode T.k_NoCode_NoCode (.inl ⟨_,rfl⟩)) ra_nil)))) fun lb x0 H1 s1 hb e0=>?_)
    have hx1:upd H1 lb (.lst x0) x = some (ExcO x T.a_NoCode):=(s1.trans (same_new hb _)) _ _ hx
    have nlb:lb ≠ x:=fun z=>by rw [z] at hb; rw [s1 _ _ hx] at hb; cases hb
    have hlb:H lb = none:=s1.free hb
    have e0:=(same_new hb (.lst x0)).dats e0
    have h0:upd H1 lb (.lst x0) lb = some (.lst x0):=upd_same
    have l0:x0.length = 4:=e0.length.symm
    have bb0:But lb H (upd H1 lb (.lst x0)):=(s1.trans (same_new hb _)).but
    refine rs_extl (K:=K) (ra_cons (re_isExc (c:=.ref T.a_NoSteps) hx1 T.x_NoCode T.k_NoCode_NoSteps (.inl ⟨_,rfl⟩)) (ra_cons (re_isExc (c:=.ref T.a_Late) hx1 T.x_NoCode T.k_NoCode_Late (.inl ⟨_,rfl⟩)) (ra_cons (re_isExc (c:=.ref T.a_NoPiece) hx1 T.x_NoCode T.k_NoCode_NoPiece (.inl ⟨_,rfl⟩)) (ra_cons (re_isExc (c:=.ref T.a_NoSet) hx1 T.x_NoCode T.k_NoCode_NoSet (.inl ⟨_,rfl⟩)) ra_nil)))) h0 (by omega) fun x1 G1 b1 h1 f1=>?_
    have hx2:=b1 _ _ (Ne.symm nlb) hx1
    have e1:=Dats.append (Dats.mono (b1.grow h0 h1) _ e0) f1
    have l1:(x0 ++ x1).length = 8:=e1.length.symm
    have bb1:=bb0.trans b1
    refine rs_extl (K:=K) (ra_cons (re_isExc (c:=.ref T.a_NoCover) hx2 T.x_NoCode T.k_NoCode_NoCover (.inl ⟨_,rfl⟩)) (ra_cons (re_isExc (c:=.ref T.a_NoParts) hx2 T.x_NoCode T.k_NoCode_NoParts (.inl ⟨_,rfl⟩)) (ra_cons (re_isExc (c:=.ref T.a_NoName) hx2 T.x_NoCode T.k_NoCode_NoName (.inl ⟨_,rfl⟩)) (ra_cons (re_isExc (c:=.ref T.a_Taken) hx2 T.x_NoCode T.k_NoCode_Taken (.inl ⟨_,rfl⟩)) ra_nil)))) h1 (by omega) fun x2 G2 b2 h2 f2=>?_
    have hx3:=b2 _ _ (Ne.symm nlb) hx2
    have e2:=Dats.append (Dats.mono (b2.grow h1 h2) _ e1) f2
    have l2:(x0 ++ x1 ++ x2).length = 12:=e2.length.symm
    have bb2:=bb1.trans b2
    refine rs_extl (K:=K) (ra_cons (re_isExc (c:=.ref T.a_Fault) hx3 T.x_NoCode T.k_NoCode_Fault (.inl ⟨_,rfl⟩)) (ra_cons (re_isExc (c:=.ref T.a_Broken) hx3 T.x_NoCode T.k_NoCode_Broken (.inl ⟨_,rfl⟩)) ra_nil)) h2 (by omega) fun x3 G3 b3 h3 f3=>?_
    have hx4:=b3 _ _ (Ne.symm nlb) hx3
    have e3:=Dats.append (Dats.mono (b3.grow h2 h3) _ e2) f3
    have l3:(x0 ++ x1 ++ x2 ++ x3).length = 14:=e3.length.symm
    have bb3:=bb2.trans b3
    have sm:Same H G3:=fun b o hbo=>bb3 b o (ne_of_none hbo hlb) hbo
    have ev:=datBs (bs:=[false,false,false,true,false,false,false,false,false,false,false,false,false,false]) e3
    have h3':G3 lb = some (.lst (blV [false,false,false,true,false,false,false,false,false,false,false,false,false,false])):=by rw [← show _ = blV [false,false,false,true,false,false,false,false,false,false,false,false,false,false] from ev]; exact h3
    refine rs_ifr (K:=K) (b:=false) ?_ (fun c=>nomatch c) (fun _ H5 s5=>?_)
    · exact RT.as (rt_or (rt_test (re_neI (re_countB h3') re_int)) fun _=>rt_not (rt_truth (re_isExc (c:=.ty "ValueError") hx4 T.x_NoCode T.k_NoCode_ValueError (.inr ⟨_,rfl⟩)))) rfl
    · refine rs_ret (K:=K) (d:=refu 3) (re_tup (ra_cons re_str (ra_cons (re_indexB (j:=3) (s5 _ _ h3') (by decide) rfl (fun m hm=>?_)) ra_nil))) fun v H' s q=>post v H' (sm.trans (s5.trans s)) q
      match m,hm with
      | 0,_=>rfl
      | 1,_=>rfl
      | 2,_=>rfl
  · refine rs_asg (rl_lst (K:=K) (ra_cons (re_isExc (c:=.ref T.a_NoSize) hx T.x_NoSteps T.k_NoSteps_NoSize (.inl ⟨_,rfl⟩)) (ra_cons (re_isExc (c:=.ref T.a_NoTree) hx T.x_NoSteps T.k_NoSteps_NoTree (.inl ⟨_,rfl⟩)) (ra_cons (re_isExc (c:=.ref T.a_NoArgs) hx T.x_NoSteps T.k_NoSteps_NoArgs (.inl ⟨_,rfl⟩)) (ra_cons (re_isExc (c:=.ref T.a_NoCode) hx T.x_NoSteps T.k_NoSteps_NoCode (.inl ⟨_,rfl⟩)) ra_nil)))) fun lb x0 H1 s1 hb e0=>?_)
    have hx1:upd H1 lb (.lst x0) x = some (ExcO x T.a_NoSteps):=(s1.trans (same_new hb _)) _ _ hx
    have nlb:lb ≠ x:=fun z=>by rw [z] at hb; rw [s1 _ _ hx] at hb; cases hb
    have hlb:H lb = none:=s1.free hb
    have e0:=(same_new hb (.lst x0)).dats e0
    have h0:upd H1 lb (.lst x0) lb = some (.lst x0):=upd_same
    have l0:x0.length = 4:=e0.length.symm
    have bb0:But lb H (upd H1 lb (.lst x0)):=(s1.trans (same_new hb _)).but
    refine rs_extl (K:=K) (ra_cons (re_isExc (c:=.ref T.a_NoSteps) hx1 T.x_NoSteps T.k_NoSteps_NoSteps (.inl ⟨_,rfl⟩)) (ra_cons (re_isExc (c:=.ref T.a_Late) hx1 T.x_NoSteps T.k_NoSteps_Late (.inl ⟨_,rfl⟩)) (ra_cons (re_isExc (c:=.ref T.a_NoPiece) hx1 T.x_NoSteps T.k_NoSteps_NoPiece (.inl ⟨_,rfl⟩)) (ra_cons (re_isExc (c:=.ref T.a_NoSet) hx1 T.x_NoSteps T.k_NoSteps_NoSet (.inl ⟨_,rfl⟩)) ra_nil)))) h0 (by omega) fun x1 G1 b1 h1 f1=>?_
    have hx2:=b1 _ _ (Ne.symm nlb) hx1
    have e1:=Dats.append (Dats.mono (b1.grow h0 h1) _ e0) f1
    have l1:(x0 ++ x1).length = 8:=e1.length.symm
    have bb1:=bb0.trans b1
    refine rs_extl (K:=K) (ra_cons (re_isExc (c:=.ref T.a_NoCover) hx2 T.x_NoSteps T.k_NoSteps_NoCover (.inl ⟨_,rfl⟩)) (ra_cons (re_isExc (c:=.ref T.a_NoParts) hx2 T.x_NoSteps T.k_NoSteps_NoParts (.inl ⟨_,rfl⟩)) (ra_cons (re_isExc (c:=.ref T.a_NoName) hx2 T.x_NoSteps T.k_NoSteps_NoName (.inl ⟨_,rfl⟩)) (ra_cons (re_isExc (c:=.ref T.a_Taken) hx2 T.x_NoSteps T.k_NoSteps_Taken (.inl ⟨_,rfl⟩)) ra_nil)))) h1 (by omega) fun x2 G2 b2 h2 f2=>?_
    have hx3:=b2 _ _ (Ne.symm nlb) hx2
    have e2:=Dats.append (Dats.mono (b2.grow h1 h2) _ e1) f2
    have l2:(x0 ++ x1 ++ x2).length = 12:=e2.length.symm
    have bb2:=bb1.trans b2
    refine rs_extl (K:=K) (ra_cons (re_isExc (c:=.ref T.a_Fault) hx3 T.x_NoSteps T.k_NoSteps_Fault (.inl ⟨_,rfl⟩)) (ra_cons (re_isExc (c:=.ref T.a_Broken) hx3 T.x_NoSteps T.k_NoSteps_Broken (.inl ⟨_,rfl⟩)) ra_nil)) h2 (by omega) fun x3 G3 b3 h3 f3=>?_
    have hx4:=b3 _ _ (Ne.symm nlb) hx3
    have e3:=Dats.append (Dats.mono (b3.grow h2 h3) _ e2) f3
    have l3:(x0 ++ x1 ++ x2 ++ x3).length = 14:=e3.length.symm
    have bb3:=bb2.trans b3
    have sm:Same H G3:=fun b o hbo=>bb3 b o (ne_of_none hbo hlb) hbo
    have ev:=datBs (bs:=[false,false,false,false,true,false,false,false,false,false,false,false,false,false]) e3
    have h3':G3 lb = some (.lst (blV [false,false,false,false,true,false,false,false,false,false,false,false,false,false])):=by rw [← show _ = blV [false,false,false,false,true,false,false,false,false,false,false,false,false,false] from ev]; exact h3
    refine rs_ifr (K:=K) (b:=false) ?_ (fun c=>nomatch c) (fun _ H5 s5=>?_)
    · exact RT.as (rt_or (rt_test (re_neI (re_countB h3') re_int)) fun _=>rt_not (rt_truth (re_isExc (c:=.ty "ValueError") hx4 T.x_NoSteps T.k_NoSteps_ValueError (.inr ⟨_,rfl⟩)))) rfl
    · refine rs_ret (K:=K) (d:=refu 4) (re_tup (ra_cons re_str (ra_cons (re_indexB (j:=4) (s5 _ _ h3') (by decide) rfl (fun m hm=>?_)) ra_nil))) fun v H' s q=>post v H' (sm.trans (s5.trans s)) q
      match m,hm with
      | 0,_=>rfl
      | 1,_=>rfl
      | 2,_=>rfl
      | 3,_=>rfl
  · refine rs_asg (rl_lst (K:=K) (ra_cons (re_isExc (c:=.ref T.a_NoSize) hx T.x_Late T.k_Late_NoSize (.inl ⟨_,rfl⟩)) (ra_cons (re_isExc (c:=.ref T.a_NoTree) hx T.x_Late T.k_Late_NoTree (.inl ⟨_,rfl⟩)) (ra_cons (re_isExc (c:=.ref T.a_NoArgs) hx T.x_Late T.k_Late_NoArgs (.inl ⟨_,rfl⟩)) (ra_cons (re_isExc (c:=.ref T.a_NoCode) hx T.x_Late T.k_Late_NoCode (.inl ⟨_,rfl⟩)) ra_nil)))) fun lb x0 H1 s1 hb e0=>?_)
    have hx1:upd H1 lb (.lst x0) x = some (ExcO x T.a_Late):=(s1.trans (same_new hb _)) _ _ hx
    have nlb:lb ≠ x:=fun z=>by rw [z] at hb; rw [s1 _ _ hx] at hb; cases hb
    have hlb:H lb = none:=s1.free hb
    have e0:=(same_new hb (.lst x0)).dats e0
    have h0:upd H1 lb (.lst x0) lb = some (.lst x0):=upd_same
    have l0:x0.length = 4:=e0.length.symm
    have bb0:But lb H (upd H1 lb (.lst x0)):=(s1.trans (same_new hb _)).but
    refine rs_extl (K:=K) (ra_cons (re_isExc (c:=.ref T.a_NoSteps) hx1 T.x_Late T.k_Late_NoSteps (.inl ⟨_,rfl⟩)) (ra_cons (re_isExc (c:=.ref T.a_Late) hx1 T.x_Late T.k_Late_Late (.inl ⟨_,rfl⟩)) (ra_cons (re_isExc (c:=.ref T.a_NoPiece) hx1 T.x_Late T.k_Late_NoPiece (.inl ⟨_,rfl⟩)) (ra_cons (re_isExc (c:=.ref T.a_NoSet) hx1 T.x_Late T.k_Late_NoSet (.inl ⟨_,rfl⟩)) ra_nil)))) h0 (by omega) fun x1 G1 b1 h1 f1=>?_
    have hx2:=b1 _ _ (Ne.symm nlb) hx1
    have e1:=Dats.append (Dats.mono (b1.grow h0 h1) _ e0) f1
    have l1:(x0 ++ x1).length = 8:=e1.length.symm
    have bb1:=bb0.trans b1
    refine rs_extl (K:=K) (ra_cons (re_isExc (c:=.ref T.a_NoCover) hx2 T.x_Late T.k_Late_NoCover (.inl ⟨_,rfl⟩)) (ra_cons (re_isExc (c:=.ref T.a_NoParts) hx2 T.x_Late T.k_Late_NoParts (.inl ⟨_,rfl⟩)) (ra_cons (re_isExc (c:=.ref T.a_NoName) hx2 T.x_Late T.k_Late_NoName (.inl ⟨_,rfl⟩)) (ra_cons (re_isExc (c:=.ref T.a_Taken) hx2 T.x_Late T.k_Late_Taken (.inl ⟨_,rfl⟩)) ra_nil)))) h1 (by omega) fun x2 G2 b2 h2 f2=>?_
    have hx3:=b2 _ _ (Ne.symm nlb) hx2
    have e2:=Dats.append (Dats.mono (b2.grow h1 h2) _ e1) f2
    have l2:(x0 ++ x1 ++ x2).length = 12:=e2.length.symm
    have bb2:=bb1.trans b2
    refine rs_extl (K:=K) (ra_cons (re_isExc (c:=.ref T.a_Fault) hx3 T.x_Late T.k_Late_Fault (.inl ⟨_,rfl⟩)) (ra_cons (re_isExc (c:=.ref T.a_Broken) hx3 T.x_Late T.k_Late_Broken (.inl ⟨_,rfl⟩)) ra_nil)) h2 (by omega) fun x3 G3 b3 h3 f3=>?_
    have hx4:=b3 _ _ (Ne.symm nlb) hx3
    have e3:=Dats.append (Dats.mono (b3.grow h2 h3) _ e2) f3
    have l3:(x0 ++ x1 ++ x2 ++ x3).length = 14:=e3.length.symm
    have bb3:=bb2.trans b3
    have sm:Same H G3:=fun b o hbo=>bb3 b o (ne_of_none hbo hlb) hbo
    have ev:=datBs (bs:=[false,false,false,false,false,true,false,false,false,false,false,false,false,false]) e3
    have h3':G3 lb = some (.lst (blV [false,false,false,false,false,true,false,false,false,false,false,false,false,false])):=by rw [← show _ = blV [false,false,false,false,false,true,false,false,false,false,false,false,false,false] from ev]; exact h3
    refine rs_ifr (K:=K) (b:=false) ?_ (fun c=>nomatch c) (fun _ H5 s5=>?_)
    · exact RT.as (rt_or (rt_test (re_neI (re_countB h3') re_int)) fun _=>rt_not (rt_truth (re_isExc (c:=.ty "ValueError") hx4 T.x_Late T.k_Late_ValueError (.inr ⟨_,rfl⟩)))) rfl
    · refine rs_ret (K:=K) (d:=refu 5) (re_tup (ra_cons re_str (ra_cons (re_indexB (j:=5) (s5 _ _ h3') (by decide) rfl (fun m hm=>?_)) ra_nil))) fun v H' s q=>post v H' (sm.trans (s5.trans s)) q
      match m,hm with
      | 0,_=>rfl
      | 1,_=>rfl
      | 2,_=>rfl
      | 3,_=>rfl
      | 4,_=>rfl
  · refine rs_asg (rl_lst (K:=K) (ra_cons (re_isExc (c:=.ref T.a_NoSize) hx T.x_Fault T.k_Fault_NoSize (.inl ⟨_,rfl⟩)) (ra_cons (re_isExc (c:=.ref T.a_NoTree) hx T.x_Fault T.k_Fault_NoTree (.inl ⟨_,rfl⟩)) (ra_cons (re_isExc (c:=.ref T.a_NoArgs) hx T.x_Fault T.k_Fault_NoArgs (.inl ⟨_,rfl⟩)) (ra_cons (re_isExc (c:=.ref T.a_NoCode) hx T.x_Fault T.k_Fault_NoCode (.inl ⟨_,rfl⟩)) ra_nil)))) fun lb x0 H1 s1 hb e0=>?_)
    have hx1:upd H1 lb (.lst x0) x = some (ExcO x T.a_Fault):=(s1.trans (same_new hb _)) _ _ hx
    have nlb:lb ≠ x:=fun z=>by rw [z] at hb; rw [s1 _ _ hx] at hb; cases hb
    have hlb:H lb = none:=s1.free hb
    have e0:=(same_new hb (.lst x0)).dats e0
    have h0:upd H1 lb (.lst x0) lb = some (.lst x0):=upd_same
    have l0:x0.length = 4:=e0.length.symm
    have bb0:But lb H (upd H1 lb (.lst x0)):=(s1.trans (same_new hb _)).but
    refine rs_extl (K:=K) (ra_cons (re_isExc (c:=.ref T.a_NoSteps) hx1 T.x_Fault T.k_Fault_NoSteps (.inl ⟨_,rfl⟩)) (ra_cons (re_isExc (c:=.ref T.a_Late) hx1 T.x_Fault T.k_Fault_Late (.inl ⟨_,rfl⟩)) (ra_cons (re_isExc (c:=.ref T.a_NoPiece) hx1 T.x_Fault T.k_Fault_NoPiece (.inl ⟨_,rfl⟩)) (ra_cons (re_isExc (c:=.ref T.a_NoSet) hx1 T.x_Fault T.k_Fault_NoSet (.inl ⟨_,rfl⟩)) ra_nil)))) h0 (by omega) fun x1 G1 b1 h1 f1=>?_
    have hx2:=b1 _ _ (Ne.symm nlb) hx1
    have e1:=Dats.append (Dats.mono (b1.grow h0 h1) _ e0) f1
    have l1:(x0 ++ x1).length = 8:=e1.length.symm
    have bb1:=bb0.trans b1
    refine rs_extl (K:=K) (ra_cons (re_isExc (c:=.ref T.a_NoCover) hx2 T.x_Fault T.k_Fault_NoCover (.inl ⟨_,rfl⟩)) (ra_cons (re_isExc (c:=.ref T.a_NoParts) hx2 T.x_Fault T.k_Fault_NoParts (.inl ⟨_,rfl⟩)) (ra_cons (re_isExc (c:=.ref T.a_NoName) hx2 T.x_Fault T.k_Fault_NoName (.inl ⟨_,rfl⟩)) (ra_cons (re_isExc (c:=.ref T.a_Taken) hx2 T.x_Fault T.k_Fault_Taken (.inl ⟨_,rfl⟩)) ra_nil)))) h1 (by omega) fun x2 G2 b2 h2 f2=>?_
    have hx3:=b2 _ _ (Ne.symm nlb) hx2
    have e2:=Dats.append (Dats.mono (b2.grow h1 h2) _ e1) f2
    have l2:(x0 ++ x1 ++ x2).length = 12:=e2.length.symm
    have bb2:=bb1.trans b2
    refine rs_extl (K:=K) (ra_cons (re_isExc (c:=.ref T.a_Fault) hx3 T.x_Fault T.k_Fault_Fault (.inl ⟨_,rfl⟩)) (ra_cons (re_isExc (c:=.ref T.a_Broken) hx3 T.x_Fault T.k_Fault_Broken (.inl ⟨_,rfl⟩)) ra_nil)) h2 (by omega) fun x3 G3 b3 h3 f3=>?_
    have hx4:=b3 _ _ (Ne.symm nlb) hx3
    have e3:=Dats.append (Dats.mono (b3.grow h2 h3) _ e2) f3
    have l3:(x0 ++ x1 ++ x2 ++ x3).length = 14:=e3.length.symm
    have bb3:=bb2.trans b3
    have sm:Same H G3:=fun b o hbo=>bb3 b o (ne_of_none hbo hlb) hbo
    have ev:=datBs (bs:=[false,false,false,false,false,false,false,false,false,false,false,false,true,false]) e3
    have h3':G3 lb = some (.lst (blV [false,false,false,false,false,false,false,false,false,false,false,false,true,false])):=by rw [← show _ = blV [false,false,false,false,false,false,false,false,false,false,false,false,true,false] from ev]; exact h3
    refine rs_ifr (K:=K) (b:=false) ?_ (fun c=>nomatch c) (fun _ H5 s5=>?_)
    · exact RT.as (rt_or (rt_test (re_neI (re_countB h3') re_int)) fun _=>rt_not (rt_truth (re_isExc (c:=.ty "ValueError") hx4 T.x_Fault T.k_Fault_ValueError (.inr ⟨_,rfl⟩)))) rfl
    · refine rs_ret (K:=K) (d:=refu 12) (re_tup (ra_cons re_str (ra_cons (re_indexB (j:=12) (s5 _ _ h3') (by decide) rfl (fun m hm=>?_)) ra_nil))) fun v H' s q=>post v H' (sm.trans (s5.trans s)) q
      match m,hm with
      | 0,_=>rfl
      | 1,_=>rfl
      | 2,_=>rfl
      | 3,_=>rfl
      | 4,_=>rfl
      | 5,_=>rfl
      | 6,_=>rfl
      | 7,_=>rfl
      | 8,_=>rfl
      | 9,_=>rfl
      | 10,_=>rfl
      | 11,_=>rfl
end
end My
end
section
namespace My
open PySem L2 PyProof.Rows
section
variable {P:Program} {w:World} {K:PySem.W.Frag} {mg:Str→Option Value} {base:Heap} {k:Nat}
theorem ars5 {H:Hp} {a b c d e:Ar} {vs:List V} (h:Ars K H [a,b,c,d,e] vs):∃ u v w x y,vs = [u,v,w,x,y]∧ArI K H a u∧Ars K H [b,c,d,e] [v,w,x,y]:=by
  cases h with
  | cons h1 h2=>obtain ⟨v,w,x,y,rfl,q1,q2,q3,q4⟩:=L2.ars4 h2; exact ⟨_,v,w,x,y,rfl,h1,h2⟩
theorem ars_up {H H':Hp} (s:Same H H'):∀ {as:List Ar} {vs:List V},Ars K H as vs→Ars K H' as vs
  | _,_,.nil=>.nil
  | _,_,.cons h1 h2=>.cons (s.ari h1) (ars_up s h2)
theorem exmW (T:Txt K mg) {C:Addr} {j:Nat} (h:Which T C j):PySem.W.exmOne K (.ref C) (.ref T.a_PieceError) = some true:=by
  rcases h with ⟨rfl,_⟩ | ⟨rfl,_⟩ | ⟨rfl,_⟩ | ⟨rfl,_⟩ | ⟨rfl,_⟩ | ⟨rfl,_⟩
  · exact T.e_NoSize_PieceError
  · exact T.e_NoArgs_PieceError
  · exact T.e_NoCode_PieceError
  · exact T.e_NoSteps_PieceError
  · exact T.e_Late_PieceError
  · exact T.e_Fault_PieceError
def menuA (T:Txt K mg):List (Addr × Sp × (List V→List V→List V)):=[(T.a_run,(spOr (spBad K T.a_NoCode T.a_NoSize T.a_NoArgs T.a_NoSteps) (spRun K T.a_Fault T.a_Late)),g_run),(T.a_trace,(spOr (spBad K T.a_NoCode T.a_NoSize T.a_NoArgs T.a_NoSteps) (spTrace K)),g_trace)]
def tAsk (T:Txt K mg):(L2.St→XK)→TS:=fun E=>tSeq (tIfS (tTest (tOp rEq (tVar 0) (tC (.int 2)))) (tRet (fun σ=>tCall (spOr (spLb K T.a_NoCode) (spLst K T.a_Fault)) [] (E σ) (tCons (tVar 1) tNil) σ)) tNext)
  (tRet (fun σ H Q=>tOp (rIxL K) (tLst (tCons (tC (.ref T.a_run)) (tCons (tC (.ref T.a_trace)) tNil))) (tVar 0) σ H fun x H1=>∃ f sp gV,x = .ref f∧(f,sp,gV) ∈ menuA T∧tCons (tVar 1) (tCons (tVar 2) tNil) σ H1 fun vs H2=>tCons (tVar 3) (tCons (tVar 4) tNil) σ H2 fun ws H3=>sp (gV vs ws) H3 Q (E σ)))
def AskR (mc:MC) (n:Nat) (d:D):Prop:=(∃ v,runM mc n st0 = .ends v∧d = .int v)∨(∃ p,runM mc n st0 = .fault p∧d = refu 12)∨(runM mc n st0 = .late∧d = refu 5)
def spAsk (T:Txt K mg):Sp:=fun vs H Q _ =>
  (∃ (w:Int) (a:Ar) (x y z:D) (C:Addr) (j:Nat),(w = 0∨w = 1)∧Ars K H [.d (.int w),a,.d x,.d y,.d z] vs∧okA a∧RefS T.a_NoCode T.a_NoSize T.a_NoArgs T.a_NoSteps a x y z C∧Which T C j∧∀ v H',Same H H'→Dat K H' (refu j) v→Q v H') ∨
  (∃ (a:Ar) (x y z:D),Ars K H [.d (.int 2),a,.d x,.d y,.d z] vs∧okA a∧codeA a = false∧∀ v H',Same H H'→Dat K H' (refu 3) v→Q v H') ∨
  (∃ (cs:List Int) (p:Nat) (x y z:D),Ars K H [.d (.int 2),.l (cD cs),.d x,.d y,.d z] vs∧okC cs∧faultC cs = some p∧∀ v H',Same H H'→Dat K H' (refu 12) v→Q v H') ∨
  (∃ (lc:Addr) (vg:V) (mc:MC) (n:Nat) (d:D),vs = [.int 0,.ref lc,vg,.int mc.b,.int n]∧okMC mc∧H lc = some (.lst (mc.cs.map V.int))∧Dat K H (.tup (mc.as.map D.int)) vg∧1 ≤ n∧n ≤ 100000∧AskR mc n d∧∀ v H',Same H H'→Dat K H' d v→Q v H') ∨
  (∃ (lc:Addr) (vg:V) (mc:MC) (n:Nat),vs = [.int 1,.ref lc,vg,.int mc.b,.int n]∧okMC mc∧H lc = some (.lst (mc.cs.map V.int))∧Dat K H (.tup (mc.as.map D.int)) vg∧1 ≤ n∧n ≤ 900∧∀ v H',Same H H'→LD K H' (traceM mc n st0) v→Q v H')
theorem ok__law_ask (T:Txt K mg) (F_listed:FnOk P w K mg base (CX2 P w) k T.a_listed T.d_listed ["code"] (spOr (spLb K T.a_NoCode) (spLst K T.a_Fault))) (F_run:FnOk P w K mg base (CX2 P w) k T.a_run T.d_run ["code","args","size","steps"] (spOr (spBad K T.a_NoCode T.a_NoSize T.a_NoArgs T.a_NoSteps) (spRun K T.a_Fault T.a_Late))) (F_trace:FnOk P w K mg base (CX2 P w) k T.a_trace T.d_trace ["code","args","size","steps"] (spOr (spBad K T.a_NoCode T.a_NoSize T.a_NoArgs T.a_NoSteps) (spTrace K))) (F__law_which:FnOkH P w K mg base k T.a__law_which T.d__law_which ["_law_e"] (spWhich T)):FnOk P w K mg base CX0 (k + 1) T.a__law_ask T.d__law_ask ["_law_what","_law_code","_law_args","_law_base","_law_most"] (spAsk T):=by
  refine T.f__law_ask.ok sc__law_ask (fun vs H Q E h=>?_) (fun cdv A outer s H vs Q E hr h=>?_)
  · rcases h with ⟨w,a,x,y,z,C,j,_,hA,_⟩ | ⟨a,x,y,z,hA,_⟩ | ⟨cs,p,x,y,z,hA,_⟩ | ⟨lc,vg,mc,n,d,rfl,_⟩ | ⟨lc,vg,mc,n,rfl,_⟩; exact hA.length.symm; exact hA.length.symm; exact hA.length.symm; rfl; rfl
  have nd:=sc__law_ask.nd
  have hh:=h
  refine ⟨_,(pss_one (ps_tryAsO (t:=tAsk T) (i:=5) (fun pn xe E hx=>(pss_cons (ps_if (pt_cmpR op_eq (pv 0) pe_int (nomark _)) (pss_one (ps_ret (pe_callS F_listed hr rfl T.m_listed T.f_listed.kp (b_listed T) .nil hx (pa_c (pv 1) pa_nil)))) pss_nil)
  (pss_one (ps_ret (pe_callMK (E:=E) (menuA T) (pe_ix ix_list (pe_lst (pa_c (pe_glob (v:=.ref T.a_run) rfl T.m_run rfl) (pa_c (pe_glob (v:=.ref T.a_trace) rfl T.m_trace rfl) pa_nil))) (pv 0) (fun _ _=>rfl)) (pa_c (pv 1) (pa_c (pv 2) pa_nil)) (pk_cons (pv 3) (pk_cons (pv 4) pk_nil)) (fun f sp gV hm=>(List.mem_cons.mp hm).elim (fun e=>by cases e; exact ⟨T.f_run.kp,_,_,_,_,_,F_run,hr,b_run T,hx⟩) (fun hm=>by have e:=List.mem_singleton.mp hm; cases e; exact ⟨T.f_trace.kp,_,_,_,_,_,F_trace,hr,b_trace T,hx⟩))))))) rfl T.g_PieceError nd rfl rfl (fun e=>(pss_one (ps_ret (pe_callH (E:=E0) F__law_which hr.h.mark rfl T.m__law_which T.f__law_which.kp (b__law_which T) .nil (pa_c (pv 5) pa_nil))))))),?_⟩
  rcases h with ⟨w,a,x,y,z,C,j,hw,hA,hok,hR,hW,post⟩ | ⟨a,x,y,z,hA,hok,hc,post⟩ | ⟨cs,p,x,y,z,hA,okc,hf,post⟩ | ⟨lc,vg,mc,n,d,rfl,oc,hc,hg,n1,n9,hR,post⟩ | ⟨lc,vg,mc,n,rfl,oc,hc,hg,n1,n9,post⟩
  · obtain ⟨v0,v1,v2,v3,v4,rfl,q0,hB⟩:=ars5 hA
    have q0:Dat K H (.int w) v0:=q0
    have e0:=q0.intE
    subst e0
    rcases hw with rfl | rfl
    · refine RT.use (b:=false) (RT.as (rt_test (re_eqI (re_var (K:=K) (k:=0) (Dat.intI _)) re_int)) rfl) fun H1 s1=>?_
      refine ⟨small (by simp),fun l hl=>⟨_,rfl,l,[.ref T.a_run,.ref T.a_trace],0,.ref T.a_run,rfl,rfl,SqL.of upd_same,rfl,_,_,_,rfl,List.mem_cons_self,?_⟩⟩
      have sl:Same H1 (upd H1 l (.lst [.ref T.a_run,.ref T.a_trace])):=same_new hl _
      have s12:=s1.trans sl
      exact ⟨_,rfl,_,rfl,_,rfl,_,rfl,.inl ⟨a,x,y,z,C,ars_up s12 hB,hok,hR,fun H3 s3=>⟨exmW T (hW),C,rfl,fun aa ha=>⟨_,rfl,aa,C,j,rfl,upd_same,hW,fun v H' s q=>post v H' (s12.trans (s3.trans ((same_new ha _).trans s))) q⟩⟩⟩⟩
    · refine RT.use (b:=false) (RT.as (rt_test (re_eqI (re_var (K:=K) (k:=0) (Dat.intI _)) re_int)) rfl) fun H1 s1=>?_
      refine ⟨small (by simp),fun l hl=>⟨_,rfl,l,[.ref T.a_run,.ref T.a_trace],1,.ref T.a_trace,rfl,rfl,SqL.of upd_same,rfl,_,_,_,rfl,List.mem_cons_of_mem _ List.mem_cons_self,?_⟩⟩
      have sl:Same H1 (upd H1 l (.lst [.ref T.a_run,.ref T.a_trace])):=same_new hl _
      have s12:=s1.trans sl
      exact ⟨_,rfl,_,rfl,_,rfl,_,rfl,.inl ⟨a,x,y,z,C,ars_up s12 hB,hok,hR,fun H3 s3=>⟨exmW T (hW),C,rfl,fun aa ha=>⟨_,rfl,aa,C,j,rfl,upd_same,hW,fun v H' s q=>post v H' (s12.trans (s3.trans ((same_new ha _).trans s))) q⟩⟩⟩⟩
  · obtain ⟨v0,v1,v2,v3,v4,rfl,q0,hB⟩:=ars5 hA
    have q0:Dat K H (.int 2) v0:=q0
    have e0:=q0.intE
    subst e0
    refine RT.use (b:=true) (RT.as (rt_test (re_eqI (re_var (K:=K) (k:=0) (Dat.intI _)) re_int)) rfl) fun H1 s1=>?_
    cases hB with
    | cons h1 h2 =>
      exact ⟨_,rfl,.inl ⟨a,.cons (s1.ari h1) .nil,hok,hc,fun H3 s3=>⟨exmW T (.inr (.inr (.inl ⟨rfl,rfl⟩))),T.a_NoCode,rfl,fun aa ha=>⟨_,rfl,aa,T.a_NoCode,3,rfl,upd_same,.inr (.inr (.inl ⟨rfl,rfl⟩)),fun v H' s q=>post v H' (s1.trans (s3.trans ((same_new ha _).trans s))) q⟩⟩⟩⟩
  · obtain ⟨v0,v1,v2,v3,v4,rfl,q0,hB⟩:=ars5 hA
    have q0:Dat K H (.int 2) v0:=q0
    have e0:=q0.intE
    subst e0
    refine RT.use (b:=true) (RT.as (rt_test (re_eqI (re_var (K:=K) (k:=0) (Dat.intI _)) re_int)) rfl) fun H1 s1=>?_
    cases hB with
    | cons h1 h2 =>
      refine ⟨_,rfl,.inr ⟨cs,okc,.cons (s1.ari h1) .nil,fun e=>?_,fun p' e H3 dx s3 hdx=>⟨exmW T (.inr (.inr (.inr (.inr (.inr ⟨rfl,rfl⟩))))),T.a_Fault,rfl,fun aa ha=>⟨_,rfl,aa,T.a_Fault,12,rfl,upd_same,.inr (.inr (.inr (.inr (.inr ⟨rfl,rfl⟩)))),fun v H' s q=>post v H' (s1.trans (s3.trans ((same_new ha _).trans s))) q⟩⟩⟩⟩
      rw [hf] at e
      cases e
  · refine RT.use (b:=false) (RT.as (rt_test (re_eqI (re_var (K:=K) (k:=0) (Dat.intI _)) re_int)) rfl) fun H1 s1=>?_
    refine ⟨small (by simp),fun l hl=>⟨_,rfl,l,[.ref T.a_run,.ref T.a_trace],0,.ref T.a_run,rfl,rfl,SqL.of upd_same,rfl,_,_,_,rfl,List.mem_cons_self,?_⟩⟩
    have sl:Same H1 (upd H1 l (.lst [.ref T.a_run,.ref T.a_trace])):=same_new hl _
    have s12:=s1.trans sl
    refine ⟨_,rfl,_,rfl,_,rfl,_,rfl,.inr ⟨lc,vg,mc,n,rfl,oc,s12 _ _ hc,s12.dat hg,n1,n9,fun u e H3 s3=>?_,fun p e H3 dx s3 hdx=>?_,fun e H3 s3=>?_⟩⟩
    · rcases hR with ⟨v,h,rfl⟩ | ⟨p,h,rfl⟩ | ⟨h,rfl⟩ <;> rw [h] at e <;> cases e
      exact post _ H3 (s12.trans s3) (Dat.intI _)
    · rcases hR with ⟨v,h,rfl⟩ | ⟨p,h,rfl⟩ | ⟨h,rfl⟩ <;> rw [h] at e <;> cases e
      exact ⟨exmW T (.inr (.inr (.inr (.inr (.inr ⟨rfl,rfl⟩))))),T.a_Fault,rfl,fun aa ha=>⟨_,rfl,aa,T.a_Fault,12,rfl,upd_same,.inr (.inr (.inr (.inr (.inr ⟨rfl,rfl⟩)))),fun v H' s q=>post v H' (s12.trans (s3.trans ((same_new ha _).trans s))) q⟩⟩
    · rcases hR with ⟨v,h,rfl⟩ | ⟨p,h,rfl⟩ | ⟨h,rfl⟩ <;> rw [h] at e <;> cases e
      exact ⟨exmW T (.inr (.inr (.inr (.inr (.inl ⟨rfl,rfl⟩))))),T.a_Late,rfl,fun aa ha=>⟨_,rfl,aa,T.a_Late,5,rfl,upd_same,.inr (.inr (.inr (.inr (.inl ⟨rfl,rfl⟩)))),fun v H' s q=>post v H' (s12.trans (s3.trans ((same_new ha _).trans s))) q⟩⟩
  · refine RT.use (b:=false) (RT.as (rt_test (re_eqI (re_var (K:=K) (k:=0) (Dat.intI _)) re_int)) rfl) fun H1 s1=>?_
    refine ⟨small (by simp),fun l hl=>⟨_,rfl,l,[.ref T.a_run,.ref T.a_trace],1,.ref T.a_trace,rfl,rfl,SqL.of upd_same,rfl,_,_,_,rfl,List.mem_cons_of_mem _ List.mem_cons_self,?_⟩⟩
    have sl:Same H1 (upd H1 l (.lst [.ref T.a_run,.ref T.a_trace])):=same_new hl _
    have s12:=s1.trans sl
    exact ⟨_,rfl,_,rfl,_,rfl,_,rfl,.inr ⟨lc,vg,mc,n,rfl,oc,s12 _ _ hc,s12.dat hg,n1,n9,fun r us H3 s3 hr3 _ hd3=>post _ H3 (s12.trans s3) (LD.of hr3 hd3)⟩⟩
end
end My
end
section
namespace My
open PySem L2 PyProof.Rows
section
variable {P:Program} {w:World} {K:PySem.W.Frag} {mg:Str→Option Value} {base:Heap} {k:Nat}
section
variable {ta tb te tl tg tn tw:TE} {σ:L2.St} {H:Hp} {lc:Addr} {mc:MC} {n:Nat} {E:XK} {ks:List Int} {d:D} {ds:List D}
theorem eqLL (neg:Bool) (h1:RL K ta σ H ds) (h2:RL K tb σ H ds) (n:noLs ds = true) (d:deepDs ds ≤ 20):RE K (tOp (rEqL K neg) ta tb) σ H (.bl (!neg)):=fun H1 s Q q =>
  h1 H1 s _ fun v H2 s2 q2=>h2 H2 (s.trans s2) _ fun w H3 s3 q3=>by
    obtain ⟨a,xs,rfl,ha,da⟩:=s3.ld q2
    obtain ⟨b,ys,rfl,hb,db⟩:=q3
    refine ⟨a,b,xs,ys,ds,ds,rfl,rfl,ha.sqL,hb.sqL,da,db,n,n,d,?_⟩
    rw [eqDs_refl ds n]
    have e2:(if neg = true then !true else true) = !neg:=by cases neg <;> rfl
    rw [e2]
    exact q _ _ (s2.trans s3) (Dat.blI _)
theorem rc_rep2 {k:Nat} (h1:RC K ta σ H (ks.map D.int)) (h2:RE K tb σ H (.int k)) (hl:ks.length * k ≤ 2000) (hk:k ≤ 2000):RC K (tOp rRep ta tb) σ H ((List.replicate k ks).flatten.map D.int):=fun H1 s Q q =>
  h1 H1 s _ fun l ys H2 nl s2 hy dy=>h2 H2 (s.trans s2) _ fun w H3 s3 q3=>by
    rw [q3.intE]
    have e:=datIs dy
    subst e
    refine ⟨l,k,_,rfl,rfl,s3 _ _ hy,by omega,by omega,Nat.le_trans (by rw [List.length_map,Int.toNat_natCast]; exact hl) (show 2000 ≤ sizeLine by decide),fun p np=>?_⟩
    have e:(List.replicate (k:Int).toNat (ks.map V.int)).flatten = (List.replicate k ks).flatten.map V.int:=by
      rw [Int.toNat_natCast,List.map_flatten,List.map_replicate]
    rw [e]
    exact q p _ _ ((s2.trans s3).free np) (s2.trans (s3.trans (same_new np _))) upd_same (dats_ints _)
theorem re_ask1 {T:Txt K mg} {tA:TA} {w:Int} {a:Ar} {x y z:D} {C:Addr} {j:Nat} (h:RB K tA σ H [.d (.int w),a,.d x,.d y,.d z]) (hw:w = 0∨w = 1) (hok:okA a) (hR:RefS T.a_NoCode T.a_NoSize T.a_NoArgs T.a_NoSteps a x y z C) (hW:Which T C j):RE K (tCall (spAsk T) [] E tA) σ H (refu j):=fun H1 s Q q =>
  h H1 s _ fun vs H2 s2 A2=>.inl ⟨w,a,x,y,z,C,j,hw,by rw [List.append_nil]; exact A2,hok,hR,hW,fun v H' s'=>q v H' (s2.trans s')⟩
theorem re_ask2 {T:Txt K mg} {tA:TA} {a:Ar} {x y z:D} (h:RB K tA σ H [.d (.int 2),a,.d x,.d y,.d z]) (hok:okA a) (hc:codeA a = false):RE K (tCall (spAsk T) [] E tA) σ H (refu 3):=fun H1 s Q q =>
  h H1 s _ fun vs H2 s2 A2=>.inr (.inl ⟨a,x,y,z,by rw [List.append_nil]; exact A2,hok,hc,fun v H' s'=>q v H' (s2.trans s')⟩)
theorem re_ask3 {T:Txt K mg} {tA:TA} {cs:List Int} {p:Nat} {x y z:D} (h:RB K tA σ H [.d (.int 2),.l (cD cs),.d x,.d y,.d z]) (ok:okC cs) (hf:faultC cs = some p):RE K (tCall (spAsk T) [] E tA) σ H (refu 12):=fun H1 s Q q =>
  h H1 s _ fun vs H2 s2 A2=>.inr (.inr (.inl ⟨cs,p,x,y,z,by rw [List.append_nil]; exact A2,ok,hf,fun v H' s'=>q v H' (s2.trans s')⟩))
theorem re_askR {T:Txt K mg} (oc:okMC mc) (n1:1 ≤ n) (n9:n ≤ 100000) (hR:AskR mc n d) (hw:RE K tw σ H (.int 0)) (hl:RC K tl σ H (mc.cs.map D.int)) (hg:RE K tg σ H (.tup (mc.as.map D.int))) (hb:RE K tb σ H (.int mc.b)) (hn:RE K tn σ H (.int n)) :
    RE K (tCall (spAsk T) [] E (tCons tw (tCons tl (tCons tg (tCons tb (tCons tn tNil)))))) σ H d:=fun H1 s Q q =>
  hw H1 s _ fun vw Hw sw qw=>hl Hw (s.trans sw) _ fun l ys Hl nl sl hy dy=>hg Hl (s.trans (sw.trans sl)) _ fun vg H2 s2 qg=>hb H2 (s.trans (sw.trans (sl.trans s2))) _ fun vb H3 s3 qb=>hn H3 (s.trans (sw.trans (sl.trans (s2.trans s3)))) _ fun vn H4 s4 qn =>
    .inr (.inr (.inr (.inl ⟨l,vg,mc,n,d,by rw [qw.intE,qb.intE,qn.intE]; rfl,oc,by rw [← datIs dy]; exact (s2.trans (s3.trans s4)) _ _ hy,(s3.trans s4).dat qg,n1,n9,hR,fun v H5 s5 q5=>q v H5 (sw.trans (sl.trans (s2.trans (s3.trans (s4.trans s5))))) q5⟩)))
theorem rl_askT {T:Txt K mg} (oc:okMC mc) (n1:1 ≤ n) (n9:n ≤ 900) (ht:traceM mc n st0 = ds) (hw:RE K tw σ H (.int 1)) (hl:RC K tl σ H (mc.cs.map D.int)) (hg:RE K tg σ H (.tup (mc.as.map D.int))) (hb:RE K tb σ H (.int mc.b)) (hn:RE K tn σ H (.int n)) :
    RL K (tCall (spAsk T) [] E (tCons tw (tCons tl (tCons tg (tCons tb (tCons tn tNil)))))) σ H ds:=fun H1 s Q q =>
  hw H1 s _ fun vw Hw sw qw=>hl Hw (s.trans sw) _ fun l ys Hl nl sl hy dy=>hg Hl (s.trans (sw.trans sl)) _ fun vg H2 s2 qg=>hb H2 (s.trans (sw.trans (sl.trans s2))) _ fun vb H3 s3 qb=>hn H3 (s.trans (sw.trans (sl.trans (s2.trans s3)))) _ fun vn H4 s4 qn =>
    .inr (.inr (.inr (.inr ⟨l,vg,mc,n,by rw [qw.intE,qb.intE,qn.intE]; rfl,oc,by rw [← datIs dy]; exact (s2.trans (s3.trans s4)) _ _ hy,(s3.trans s4).dat qg,n1,n9,fun v H5 s5 q5=>q v H5 (sw.trans (sl.trans (s2.trans (s3.trans (s4.trans s5))))) (ht ▸ q5)⟩)))
end
def okB (cs:List Int):Bool:=decide (1 ≤ cs.length) && decide (cs.length ≤ 900) && cs.all fun c=>decide (0 ≤ c) && decide (c ≤ 99)
theorem okB_ok {cs:List Int} (h:okB cs = true):okC cs:=by
  unfold okB at h
  rw [Bool.and_eq_true,Bool.and_eq_true] at h
  refine ⟨of_decide_eq_true h.1.1,of_decide_eq_true h.1.2,fun i c hc=>?_⟩
  have:=List.all_eq_true.mp h.2 c (List.mem_of_getElem? hc)
  rw [Bool.and_eq_true] at this
  exact ⟨of_decide_eq_true this.1,of_decide_eq_true this.2⟩
theorem mc_ok {cs as:List Int} {b:Int} (h:okB cs = true) (ha:as.length = 4:=by rfl) (hi:∀ x ∈ as,0 ≤ x∧x < b:=by decide) (b2:2 ≤ b:=by decide) (b9:b ≤ 10000:=by decide):okMC ⟨cs,as,b⟩:=⟨okB_ok h,ha,hi,b2,b9⟩
theorem rb_a {σ:L2.St} {H:Hp} {a:Ar} {as:List Ar} {v:V} {tA:TA} {k:Nat} (h:ArI K H a v) (r:RB K tA σ H as) (e:σ[k]? = some (some v):=by rfl):RB K (tCons (tVar k) tA) σ H (a :: as):=by
  cases a with
  | d x=>exact rb_d (re_var (k:=k) (show Dat K H x v from h) e) r
  | l ds=>exact rb_l (rl_var (k:=k) (show LD K H ds v from h) e) r
theorem ars_get {H:Hp}:∀ {as:List Ar} {vs:List V} {i:Nat} {v:V},Ars K H as vs→vs[i]? = some v→∃ a,a ∈ as∧ArI K H a v
  | _,_,_,_,.nil,h=>by simp at h
  | a :: as,_,0,v,.cons h1 h2,h=>by
    simp at h
    subst h
    exact ⟨a,List.mem_cons_self,h1⟩
  | a :: as,_,i + 1,v,.cons h1 h2,h=>by
    simp at h
    obtain ⟨b,hb,hv⟩:=ars_get h2 h
    exact ⟨b,List.mem_cons_of_mem _ hb,hv⟩
def noTown:Ar→Bool
  | .l [.int _,.int _]=>false
  | _=>true
theorem ari_but {G G':Hp} {t:Addr} {p q:Int} {zs:List V} {A:Ar} {x:V} (b:But t G G') (ht:G t = some (.lst [.int p,.int q])) (ht':G' t = some (.lst zs)) (n2:noTown A = true) (h:ArI K G A x):ArI K G' A x:=by
  have g:Grow K G G':=b.grow ht ht'
  cases A with
  | d y=>exact Dat.mono g _ h
  | l ds =>
    obtain ⟨a,vs,e,h1,h2⟩:=h
    refine ⟨a,vs,e,?_,Dats.mono g _ h2⟩
    rcases h1 with z | z
    · by_cases ha:a = t
      · rw [ha,ht] at z
        cases z
        have l2:=h2.length
        match ds,l2,h2,n2 with
        | [x,y],_,h2,n2 =>
          obtain ⟨u,r,e1,k1,k2⟩:=h2.consE
          cases e1
          obtain ⟨u2,r2,e2,k3,_⟩:=k2.consE
          cases e2
          cases x with
          | int x =>
            cases y with
            | int y=>cases n2
            | non=>exact absurd k3.nonE (fun z=>by cases z)
            | bl c=>exact absurd k3.blE (fun z=>by cases z)
            | str c=>exact absurd k3.strE (fun z=>by cases z)
            | tup c=>obtain ⟨_,_,z,_⟩:=k3.tupE; cases z
            | lst=>obtain ⟨_,_,z,_⟩:=k3; cases z
          | non=>exact absurd k1.nonE (fun z=>by cases z)
          | bl c=>exact absurd k1.blE (fun z=>by cases z)
          | str c=>exact absurd k1.strE (fun z=>by cases z)
          | tup c=>obtain ⟨_,_,z,_⟩:=k1.tupE; cases z
          | lst=>obtain ⟨_,_,z,_⟩:=k1; cases z
      · exact .inl (b _ _ ha z)
    · exact .inr z
abbrev zer (k:Nat):List D:=(List.replicate k ([0]:List Int)).flatten.map D.int
def BA:List Ar:=[.d (.non),.l [],.d (.tup [.int 0]),.l [.int 100],.l [.int (-1)],.l [.bl true],.l [.str "0"],.l (zer 1001),.l [.int 1,.non],.d (.int 7)]
theorem bad_all:∀ A ∈ BA,okA A∧codeA A = false∧noTown A = true:=by
  intro A hA
  unfold BA at hA
  simp only [List.mem_cons,List.not_mem_nil,or_false] at hA
  rcases hA with rfl | rfl | rfl | rfl | rfl | rfl | rfl | rfl | rfl | rfl <;> exact ⟨by first | trivial | rfl,by decide +kernel,by decide +kernel⟩
theorem z1000:codeA (.l (zer 1000)) = true:=by decide +kernel
theorem z990:codeA (.l [.int 99,.int 0]) = true:=by decide +kernel
def odds:List D:=[.non,.int 1,.int 10001,.bl true,.str "5"]
def wrongs:List D:=[.non,.tup [],.tup [.int 0,.int 0,.int 0],.tup [.int 0,.int 0,.int 0,.int 10],.lst,.tup [.int 0,.int 0,.bl true,.int 0]]
def mosts:List D:=[.non,.int 0,.int (-1),.int 100001,.bl true,.str "9"]
theorem odds_no:∀ d ∈ odds,wholeD d 2 10000 = false:=by decide +kernel
theorem wrongs_no:∀ d ∈ wrongs,argsD d 10 = false:=by decide +kernel
theorem mosts_no:∀ d ∈ mosts,wholeD d 1 100000 = false:=by decide +kernel
theorem nines_ok:argsD (.tup [.int 9,.int 9,.int 9,.int 9]) 10 = true:=by decide +kernel
theorem c150:codeA (.l [.int 1,.int 5,.int 0]) = true:=by decide +kernel
theorem c99:codeA (.l [.int 99]) = true:=by decide +kernel
theorem eqr (j:Nat) (h:j ∈ [0,2,3,4,5,12]):(!eqD (refu j) (.tup [.str "refused",.int j])) = false:=by
  simp only [List.mem_cons,List.not_mem_nil,or_false] at h
  rcases h with rfl | rfl | rfl | rfl | rfl | rfl <;> decide +kernel
theorem deepr {j:Nat}:deepD (refu j) ≤ 20:=by simp [refu,deepD,deepDs]
theorem f99:faultC [99] = some 0:=by decide +kernel
theorem r99:runM ⟨[99],[9,9,9,9],10⟩ 5 st0 = .fault 0:=by decide +kernel
theorem r9799:runM ⟨[9,97,99],[9,9,9,9],10⟩ 1 st0 = .late:=by decide +kernel
theorem r125:runM ⟨[1,25,0],[9,9,9,9],10⟩ 2 st0 = .ends 5:=by decide +kernel
theorem t99:traceM ⟨[99],[9,9,9,9],10⟩ 5 st0 = []:=by decide +kernel
theorem re_ne12 {σ:L2.St} {H:Hp} {ta:TE} (j:Nat) (h:RE K ta σ H (refu j)) (hj:j ∈ [0,2,3,4,5,12]):RE K (tOp (rEqD K true) ta (tTup (tCons (tC (.str "refused")) (tCons (tC (.int j)) tNil)))) σ H (.bl false):=by
  have:=re_neDD (e:=.tup [.str "refused",.int j]) h (re_tup (K:=K) (σ:=σ) (H:=H) (ra_cons re_str (ra_cons (re_int (i:=(j:Int))) ra_nil))) rfl rfl deepr
  rw [eqr j hj] at this
  exact this
def spLaw (K:PySem.W.Frag):Sp:=fun vs H Q _=>∃ (a:Addr) (ns:List Int),vs = [.ref a]∧Scr K H a ns∧∀ H',Q (.bl true) H'
theorem r_itup {te:TE} {g:TG} {tb:TS} {En:Ends} {σ:L2.St} {H:Hp} (h:te σ H fun x H1=>∃ a,x = .ref a∧(∃ xs,SqT K H1 a xs)∧∃ W:Nat→Nat→L2.St→Hp→Prop,(∃ m,W 0 m σ H1)∧∀ i m σ H,W i m σ H →
      ((Itt K a).stop i H∧En.nx σ H)∨((Itt K a).go i H∧∃ N:L2.St→Hp→Prop,(∀ σ' H',N σ' H'→∃ m',m' < m∧W (i + 1) m' σ' H')∧∀ x H',(Itt K a).yld i H x H'→g x σ H' fun σ2 H2=>tb { En with nx:=N,ct:=N,bk:=En.nx } σ2 H2)):tFor (iTup K te) g tb En σ H:=h
theorem rl_lstA {σ:L2.St} {H:Hp} {tA:TA} {as:List Ar} {Q:VK} (h:RB K tA σ H as) (q:∀ p vs H1,Same H H1→H1 p = none→Ars K H1 as vs→Q (.ref p) (upd H1 p (.lst vs))) (hl:as.length ≤ 1000:=by decide):tLst tA σ H Q :=
  h.use fun vs H1 s A=>⟨by rw [← A.length]; exact small hl,fun p hp=>q p vs H1 s hp A⟩
theorem ok_law (T:Txt K mg) (F_is_code:FnOk P w K mg base CX0 k T.a_is_code T.d_is_code ["thing"] (spA K RcodeA)) (F__law_pick:FnOk P w K mg base CX0 k T.a__law_pick T.d__law_pick ["_law_script","_law_town","_law_some"] (spPick K)) (F__law_ask:FnOk P w K mg base CX0 k T.a__law_ask T.d__law_ask ["_law_what","_law_code","_law_args","_law_base","_law_most"] (spAsk T)):FnOk P w K mg base CX0 (k + 1) T.a_law T.d_law ["_law_script"] (spLaw K):=by
  refine T.f_law.ok sc_law (fun vs H Q E h=>?_) (fun cdv A outer s H vs Q E hr h=>?_)
  · obtain ⟨a,ns,rfl,_⟩:=h; rfl
  have nd:=sc_law.nd
  obtain ⟨a,ns,rfl,hS,post⟩:=h
  refine' ⟨_,?ybody,?yread⟩
  case ybody =>
    refine' pss_cons ?y171 ?y172
    case y171=>exact (ps_set (i:=1) nd rfl (Or.inl rfl) (pe_lst (pa_c pe_int (pa_c pe_int pa_nil))))
    case y172 =>
      refine' pss_cons ?y169 ?y170
      case y169 =>
        refine' ps_set (i:=2) ?y37 ?y38 ?y39 ?y40
        case y37=>exact nd
        case y38=>exact rfl
        case y39=>exact Or.inl rfl
        case y40 =>
          refine' pe_call ?y28 ?y29 ?y30 ?y31 ?y32 ?y33 ?y34 ?y35 ?y36
          case y28=>exact F__law_pick
          case y29=>exact hr
          case y30=>exact rfl
          case y31=>exact T.m__law_pick
          case y32=>exact T.f__law_pick.kp
          case y33=>exact b__law_pick T
          case y34=>exact .nil
          case y35=>exact pass0
          case y36 =>
            refine' pa_c ?y26 ?y27
            case y26=>exact (pv 0)
            case y27 =>
              refine' pa_c ?y24 ?y25
              case y24=>exact (pv 1)
              case y25 =>
                refine' pa_c ?y22 ?y23
                case y22 =>
                  refine' pe_lst ?y21
                  case y21 =>
                    refine' pa_c ?y19 ?y20
                    case y19=>exact pe_non
                    case y20 =>
                      refine' pa_c ?y17 ?y18
                      case y17=>exact (pe_lst pa_nil)
                      case y18 =>
                        refine' pa_c ?y15 ?y16
                        case y15=>exact (pe_tup (pa_c pe_int pa_nil))
                        case y16 =>
                          refine' pa_c ?y13 ?y14
                          case y13=>exact (pe_lst (pa_c pe_int pa_nil))
                          case y14 =>
                            refine' pa_c ?y11 ?y12
                            case y11=>exact (pe_lst (pa_c (pe_un un_neg pe_int) pa_nil))
                            case y12 =>
                              refine' pa_c ?y9 ?y10
                              case y9=>exact (pe_lst (pa_c pe_bl pa_nil))
                              case y10 =>
                                refine' pa_c ?y7 ?y8
                                case y7=>exact (pe_lst (pa_c pe_str pa_nil))
                                case y8 =>
                                  refine' pa_c ?y5 ?y6
                                  case y5=>exact (pe_op op_rep (pe_lst (pa_c pe_int pa_nil)) pe_int)
                                  case y6 =>
                                    refine' pa_c ?y3 ?y4
                                    case y3=>exact (pe_lst (pa_c pe_int (pa_c pe_non pa_nil)))
                                    case y4 =>
                                      refine' pa_c ?y1 ?y2
                                      case y1=>exact pe_int
                                      case y2=>exact pa_nil
                case y23=>exact pa_nil
      case y170 =>
        refine' pss_cons ?y167 ?y168
        case y167 =>
          refine' ps_if ?y48 ?y49 ?y50
          case y48 =>
            refine' PW.pt ?y46
            case y46 =>
              refine' pw_or ?y44 ?y45
              case y44=>exact (pt_cmpR op_isnotB (pe_call F_is_code hr rfl T.m_is_code T.f_is_code.kp (b_is_code T) .nil pass0 (pa_c (pv 2) pa_nil)) pe_bl (nomark _))
              case y45 =>
                refine' pw_or ?y42 ?y43
                case y42=>exact (pt_cmpR op_isnotB (pe_call F_is_code hr rfl T.m_is_code T.f_is_code.kp (b_is_code T) .nil pass0 (pa_c (pe_op op_rep (pe_lst (pa_c pe_int pa_nil)) pe_int) pa_nil)) pe_bl (nomark _))
                case y43 =>
                  refine' pw_or1 ?y41
                  case y41=>exact (pt_cmpR op_isnotB (pe_call F_is_code hr rfl T.m_is_code T.f_is_code.kp (b_is_code T) .nil pass0 (pa_c (pe_lst (pa_c pe_int (pa_c pe_int pa_nil))) pa_nil)) pe_bl (nomark _))
          case y49 =>
            refine' pss_one ?y47
            case y47=>exact (ps_ret pe_bl)
          case y50=>exact pss_nil
        case y168 =>
          refine' pss_cons ?y165 ?y166
          case y165=>exact (ps_set (i:=3) nd rfl (Or.inl rfl) (pe_call F__law_pick hr rfl T.m__law_pick T.f__law_pick.kp (b__law_pick T) .nil pass0 (pa_c (pv 0) (pa_c (pv 1) (pa_c (pe_lst (pa_c pe_non (pa_c pe_int (pa_c pe_int (pa_c pe_bl (pa_c pe_str pa_nil)))))) pa_nil)))))
          case y166 =>
            refine' pss_cons ?y163 ?y164
            case y163 =>
              refine' ps_set (i:=4) ?y79 ?y80 ?y81 ?y82
              case y79=>exact nd
              case y80=>exact rfl
              case y81=>exact Or.inl rfl
              case y82 =>
                refine' pe_call ?y70 ?y71 ?y72 ?y73 ?y74 ?y75 ?y76 ?y77 ?y78
                case y70=>exact F__law_pick
                case y71=>exact hr
                case y72=>exact rfl
                case y73=>exact T.m__law_pick
                case y74=>exact T.f__law_pick.kp
                case y75=>exact b__law_pick T
                case y76=>exact .nil
                case y77=>exact pass0
                case y78 =>
                  refine' pa_c ?y68 ?y69
                  case y68=>exact (pv 0)
                  case y69 =>
                    refine' pa_c ?y66 ?y67
                    case y66=>exact (pv 1)
                    case y67 =>
                      refine' pa_c ?y64 ?y65
                      case y64 =>
                        refine' pe_lst ?y63
                        case y63 =>
                          refine' pa_c ?y61 ?y62
                          case y61=>exact pe_non
                          case y62 =>
                            refine' pa_c ?y59 ?y60
                            case y59=>exact (pe_tup pa_nil)
                            case y60 =>
                              refine' pa_c ?y57 ?y58
                              case y57=>exact (pe_tup (pa_c pe_int (pa_c pe_int (pa_c pe_int pa_nil))))
                              case y58 =>
                                refine' pa_c ?y55 ?y56
                                case y55=>exact (pe_tup (pa_c pe_int (pa_c pe_int (pa_c pe_int (pa_c pe_int pa_nil)))))
                                case y56 =>
                                  refine' pa_c ?y53 ?y54
                                  case y53=>exact (pe_lst (pa_c pe_int (pa_c pe_int (pa_c pe_int (pa_c pe_int pa_nil)))))
                                  case y54 =>
                                    refine' pa_c ?y51 ?y52
                                    case y51=>exact (pe_tup (pa_c pe_int (pa_c pe_int (pa_c pe_bl (pa_c pe_int pa_nil)))))
                                    case y52=>exact pa_nil
                      case y65=>exact pa_nil
            case y164 =>
              refine' pss_cons ?y161 ?y162
              case y161=>exact (ps_set (i:=5) nd rfl (Or.inl rfl) (pe_call F__law_pick hr rfl T.m__law_pick T.f__law_pick.kp (b__law_pick T) .nil pass0 (pa_c (pv 0) (pa_c (pv 1) (pa_c (pe_lst (pa_c pe_non (pa_c pe_int (pa_c (pe_un un_neg pe_int) (pa_c pe_int (pa_c pe_bl (pa_c pe_str pa_nil))))))) pa_nil)))))
              case y162 =>
                refine' pss_cons ?y159 ?y160
                case y159=>exact (ps_set (i:=6) nd rfl (Or.inl rfl) (pe_tup (pa_c pe_int (pa_c pe_int (pa_c pe_int (pa_c pe_int pa_nil))))))
                case y160 =>
                  refine' pss_cons ?y157 ?y158
                  case y157 =>
                    refine' ps_for ?y118 ?y119 ?y120 ?y121 ?y122
                    case y118=>exact PassesOwn.never
                    case y119=>exact rfl
                    case y120=>exact (pi_tup (pe_tup (pa_c pe_int (pa_c pe_int pa_nil))))
                    case y121=>exact (pg_name (i:=7) nd rfl (Or.inl rfl))
                    case y122 =>
                      refine' pss_cons ?y116 ?y117
                      case y116 =>
                        refine' ps_if ?y84 ?y85 ?y86
                        case y84=>exact (pt_cmpR (op_neD hr) (pe_call F__law_ask hr rfl T.m__law_ask T.f__law_ask.kp (b__law_ask T) .nil pass0 (pa_c (pv 7) (pa_c (pv 2) (pa_c (pv 4) (pa_c (pv 3) (pa_c (pv 5) pa_nil)))))) (pe_tup (pa_c pe_str (pa_c pe_int pa_nil))) (nomark _))
                        case y85 =>
                          refine' pss_one ?y83
                          case y83=>exact (ps_ret pe_bl)
                        case y86=>exact pss_nil
                      case y117 =>
                        refine' pss_cons ?y114 ?y115
                        case y114 =>
                          refine' ps_if ?y92 ?y93 ?y94
                          case y92 =>
                            refine' pt_cmpR ?y87 ?y88 ?y89 ?y90
                            case y87=>exact (op_neD hr)
                            case y88=>exact (pe_call F__law_ask hr rfl T.m__law_ask T.f__law_ask.kp (b__law_ask T) .nil pass0 (pa_c (pv 7) (pa_c (pe_lst (pa_c pe_int (pa_c pe_int (pa_c pe_int pa_nil)))) (pa_c (pv 4) (pa_c (pv 3) (pa_c (pv 5) pa_nil))))))
                            case y89=>exact (pe_tup (pa_c pe_str (pa_c pe_int pa_nil)))
                            case y90=>exact (nomark _)
                          case y93 =>
                            refine' pss_one ?y91
                            case y91=>exact (ps_ret pe_bl)
                          case y94=>exact pss_nil
                        case y115 =>
                          refine' pss_cons ?y112 ?y113
                          case y112 =>
                            refine' ps_if ?y100 ?y101 ?y102
                            case y100 =>
                              refine' pt_cmpR ?y95 ?y96 ?y97 ?y98
                              case y95=>exact (op_neD hr)
                              case y96=>exact (pe_call F__law_ask hr rfl T.m__law_ask T.f__law_ask.kp (b__law_ask T) .nil pass0 (pa_c (pv 7) (pa_c (pe_lst (pa_c pe_int (pa_c pe_int (pa_c pe_int pa_nil)))) (pa_c (pv 4) (pa_c pe_int (pa_c (pv 5) pa_nil))))))
                              case y97=>exact (pe_tup (pa_c pe_str (pa_c pe_int pa_nil)))
                              case y98=>exact (nomark _)
                            case y101 =>
                              refine' pss_one ?y99
                              case y99=>exact (ps_ret pe_bl)
                            case y102=>exact pss_nil
                          case y113 =>
                            refine' pss_one ?y111
                            case y111 =>
                              refine' ps_if ?y108 ?y109 ?y110
                              case y108 =>
                                refine' pt_cmpR ?y103 ?y104 ?y105 ?y106
                                case y103=>exact (op_neD hr)
                                case y104=>exact (pe_call F__law_ask hr rfl T.m__law_ask T.f__law_ask.kp (b__law_ask T) .nil pass0 (pa_c (pv 7) (pa_c (pe_lst (pa_c pe_int pa_nil)) (pa_c (pv 6) (pa_c pe_int (pa_c (pv 5) pa_nil))))))
                                case y105=>exact (pe_tup (pa_c pe_str (pa_c pe_int pa_nil)))
                                case y106=>exact (nomark _)
                              case y109 =>
                                refine' pss_one ?y107
                                case y107=>exact (ps_ret pe_bl)
                              case y110=>exact pss_nil
                  case y158 =>
                    refine' pss_cons ?y155 ?y156
                    case y155 =>
                      refine' ps_if ?y132 ?y133 ?y134
                      case y132 =>
                        refine' PW.pt ?y130
                        case y130 =>
                          refine' pw_or ?y128 ?y129
                          case y128=>exact (pt_cmpR (op_neD hr) (pe_call F__law_ask hr rfl T.m__law_ask T.f__law_ask.kp (b__law_ask T) .nil pass0 (pa_c pe_int (pa_c (pv 2) (pa_c pe_non (pa_c pe_non (pa_c pe_non pa_nil)))))) (pe_tup (pa_c pe_str (pa_c pe_int pa_nil))) (nomark _))
                          case y129 =>
                            refine' pw_or1 ?y127
                            case y127 =>
                              refine' pt_cmpR ?y123 ?y124 ?y125 ?y126
                              case y123=>exact (op_neD hr)
                              case y124=>exact (pe_call F__law_ask hr rfl T.m__law_ask T.f__law_ask.kp (b__law_ask T) .nil pass0 (pa_c pe_int (pa_c (pe_lst (pa_c pe_int pa_nil)) (pa_c pe_non (pa_c pe_non (pa_c pe_non pa_nil))))))
                              case y125=>exact (pe_tup (pa_c pe_str (pa_c pe_int pa_nil)))
                              case y126=>exact (nomark _)
                      case y133 =>
                        refine' pss_one ?y131
                        case y131=>exact (ps_ret pe_bl)
                      case y134=>exact pss_nil
                    case y156 =>
                      refine' pss_cons ?y153 ?y154
                      case y153 =>
                        refine' ps_if ?y148 ?y149 ?y150
                        case y148 =>
                          refine' PW.pt ?y146
                          case y146 =>
                            refine' pw_or ?y144 ?y145
                            case y144 =>
                              refine' pt_cmpR ?y135 ?y136 ?y137 ?y138
                              case y135=>exact (op_neD hr)
                              case y136=>exact (pe_call F__law_ask hr rfl T.m__law_ask T.f__law_ask.kp (b__law_ask T) .nil pass0 (pa_c pe_int (pa_c (pe_lst (pa_c pe_int pa_nil)) (pa_c (pv 6) (pa_c pe_int (pa_c pe_int pa_nil))))))
                              case y137=>exact (pe_tup (pa_c pe_str (pa_c pe_int pa_nil)))
                              case y138=>exact (nomark _)
                            case y145 =>
                              refine' pw_or1 ?y143
                              case y143 =>
                                refine' pt_cmpR ?y139 ?y140 ?y141 ?y142
                                case y139=>exact (op_neD hr)
                                case y140=>exact (pe_call F__law_ask hr rfl T.m__law_ask T.f__law_ask.kp (b__law_ask T) .nil pass0 (pa_c pe_int (pa_c (pe_lst (pa_c pe_int (pa_c pe_int (pa_c pe_int pa_nil)))) (pa_c (pv 6) (pa_c pe_int (pa_c pe_int pa_nil))))))
                                case y141=>exact (pe_tup (pa_c pe_str (pa_c pe_int pa_nil)))
                                case y142=>exact (nomark _)
                        case y149 =>
                          refine' pss_one ?y147
                          case y147=>exact (ps_ret pe_bl)
                        case y150=>exact pss_nil
                      case y154 =>
                        refine' pss_one ?y152
                        case y152 =>
                          refine' ps_ret ?y151
                          case y151=>exact (pe_and (pe_cmpR (op_eqD hr) (pe_call F__law_ask hr rfl T.m__law_ask T.f__law_ask.kp (b__law_ask T) .nil pass0 (pa_c pe_int (pa_c (pe_lst (pa_c pe_int (pa_c pe_int (pa_c pe_int pa_nil)))) (pa_c (pv 6) (pa_c pe_int (pa_c pe_int pa_nil)))))) pe_int (nomark _)) (pe_one (pe_cmpR (op_eqL hr) (pe_call F__law_ask hr rfl T.m__law_ask T.f__law_ask.kp (b__law_ask T) .nil pass0 (pa_c pe_int (pa_c (pe_lst (pa_c pe_int pa_nil)) (pa_c (pv 6) (pa_c pe_int (pa_c pe_int pa_nil)))))) (pe_lst pa_nil) (nomark _))))
  case yread =>
    refine rs_asg ⟨small (by decide),fun t ht=>?_⟩
    have hS1:=hS.same (same_new ht (.lst [.int 0,.int 0]))
    have t1:upd H t (.lst [.int 0,.int 0]) t = some (.lst [.int 0,.int 0]):=upd_same
    generalize upd H t (.lst [.int 0,.int 0]) = H1 at hS1 t1
    refine rs_asg ⟨_,rfl,_,rfl,rl_lstA (K:=K) (as:=BA) (rb_d re_non (rb_l (rl_of (rc_lst ra_nil)) (rb_d (re_tup (ra_cons re_int ra_nil)) (rb_l (rl_of (rc_lst (ra_cons re_int ra_nil))) (rb_l (rl_of (rc_lst (ra_cons (re_un re_int) ra_nil))) (rb_l (rl_of (rc_lst (ra_cons re_bl ra_nil))) (rb_l (rl_of (rc_lst (ra_cons re_str ra_nil))) (rb_l (rl_of (rc_rep2 (ks:=[0]) (k:=1001) (rc_lst (ra_cons re_int ra_nil)) re_int (by decide) (by decide))) (rb_l (rl_of (rc_lst (ra_cons re_int (ra_cons re_non ra_nil)))) (rb_d re_int rb_nil)))))))))) fun lb x0 H2 s2 hlb A2=>?_⟩
    have s3:=s2.trans (same_new hlb (.lst x0))
    have t3:=s3 _ _ t1
    have nlb:lb ≠ t:=fun z=>by rw [z,s2 _ _ t1] at hlb; cases hlb
    have A3:=ars_up (same_new hlb (.lst x0)) A2
    have l0:x0.length = 10:=A2.length.symm
    refine ⟨a,t,lb,ns,x0,0,0,[],rfl,hS1.same s3,SqL.of upd_same,nlb,by omega,by omega,t3,by decide,fun i vb H4 p4 q4 b4 t4 g4 hx=>?_⟩
    obtain ⟨A,hA,hv⟩:=ars_get A3 hx
    obtain ⟨okA',noA,ntA⟩:=bad_all A hA
    have hv:=ari_but b4 t3 t4 ntA hv
    have hS4:=(hS1.same s3).but b4 t3
    clear A3 A2 hx s3 s2 b4
    refine rs_ifr (K:=K) (b:=false) ?_ (fun c=>nomatch c) (fun _ H5 s5=>?_)
    · exact RT.as (rt_or (b:=false) (RT.as (rt_test (re_isnotB (re_callA (R:=RcodeA) (rb_one (k:=2) hv) ⟨A,rfl,okA',rfl⟩) re_bl)) (by rw [noA]; rfl)) fun _=>rt_or (b:=false) (RT.as (rt_test (re_isnotB (re_callA (R:=RcodeA) (rb_l (rl_of (rc_rep2 (ks:=[0]) (k:=1000) (rc_lst (ra_cons re_int ra_nil)) re_int (by decide) (by decide))) rb_nil) ⟨_,rfl,trivial,rfl⟩) re_bl)) (by rw [z1000]; rfl)) fun _=>rt_test (re_isnotB (re_callA (R:=RcodeA) (rb_l (rl_of (rc_lst (ra_cons re_int (ra_cons re_int ra_nil)))) rb_nil) ⟨_,rfl,trivial,rfl⟩) re_bl)) (by rw [z990]; rfl)
    have hv:=s5.ari hv
    have t5:=s5 _ _ t4
    have hS5:=hS4.same s5
    refine rs_asg ⟨_,rfl,_,rfl,rl_lst (K:=K) (ra_cons re_non (ra_cons re_int (ra_cons re_int (ra_cons re_bl (ra_cons re_str ra_nil))))) fun lo yo Go uo nlo eo=>?_⟩
    have wo:=uo.trans (same_new nlo (.lst yo))
    have tto:=wo _ _ t5
    have nto:lo ≠ t:=fun z=>by rw [z,uo _ _ t5] at nlo; cases nlo
    have eo:=(same_new nlo (.lst yo)).dats eo
    have leno:yo.length = 5:=eo.length.symm
    refine ⟨a,t,lo,ns,yo,p4,q4,[],rfl,hS5.same wo,SqL.of upd_same,nto,by omega,by omega,tto,g4,fun io vo H6 p6 q6 b6 t6 g6 hx=>?_⟩
    obtain ⟨od,edo,Do⟩:=eo.getV hx
    have ino:od ∈ odds:=List.mem_of_getElem? edo
    have gro:Grow K _ H6:=b6.grow tto t6
    have Do:=Dat.mono gro _ Do
    have hS6:=(hS5.same wo).but b6 tto
    have hv:=ari_but b6 tto t6 ntA (wo.ari hv)
    refine rs_asg ⟨_,rfl,_,rfl,rl_lst (K:=K) (ra_cons re_non (ra_cons (re_tup ra_nil) (ra_cons (re_tup (ra_cons re_int (ra_cons re_int (ra_cons re_int ra_nil)))) (ra_cons (re_tup (ra_cons re_int (ra_cons re_int (ra_cons re_int (ra_cons re_int ra_nil))))) (ra_cons (re_lst (ra_cons re_int (ra_cons re_int (ra_cons re_int (ra_cons re_int ra_nil))))) (ra_cons (re_tup (ra_cons re_int (ra_cons re_int (ra_cons re_bl (ra_cons re_int ra_nil))))) ra_nil)))))) fun lw yw Gw uw nlw ew=>?_⟩
    have ww:=uw.trans (same_new nlw (.lst yw))
    have ttw:=ww _ _ t6
    have ntw:lw ≠ t:=fun z=>by rw [z,uw _ _ t6] at nlw; cases nlw
    have ew:=(same_new nlw (.lst yw)).dats ew
    have lenw:yw.length = 6:=ew.length.symm
    refine ⟨a,t,lw,ns,yw,p6,q6,[],rfl,hS6.same ww,SqL.of upd_same,ntw,by omega,by omega,ttw,g6,fun iw vw H7 p7 q7 b7 t7 g7 hx=>?_⟩
    obtain ⟨wr,edw,Dw⟩:=ew.getV hx
    have inw:wr ∈ wrongs:=List.mem_of_getElem? edw
    have grw:Grow K _ H7:=b7.grow ttw t7
    have Dw:=Dat.mono grw _ Dw
    have hS7:=(hS6.same ww).but b7 ttw
    have hv:=ari_but b7 ttw t7 ntA (ww.ari hv)
    have Do:=Dat.mono grw _ (ww.dat Do)
    refine rs_asg ⟨_,rfl,_,rfl,rl_lst (K:=K) (ra_cons re_non (ra_cons re_int (ra_cons (re_un re_int) (ra_cons re_int (ra_cons re_bl (ra_cons re_str ra_nil)))))) fun lm ym Gm um nlm em=>?_⟩
    have wm:=um.trans (same_new nlm (.lst ym))
    have ttm:=wm _ _ t7
    have ntm:lm ≠ t:=fun z=>by rw [z,um _ _ t7] at nlm; cases nlm
    have em:=(same_new nlm (.lst ym)).dats em
    have lenm:ym.length = 6:=em.length.symm
    refine ⟨a,t,lm,ns,ym,p7,q7,[],rfl,hS7.same wm,SqL.of upd_same,ntm,by omega,by omega,ttm,g7,fun im vm H8 p8 q8 b8 t8 g8 hx=>?_⟩
    obtain ⟨mo,edm,Dm⟩:=em.getV hx
    have inm:mo ∈ mosts:=List.mem_of_getElem? edm
    have grm:Grow K _ H8:=b8.grow ttm t8
    have Dm:=Dat.mono grm _ Dm
    have hS8:=(hS7.same wm).but b8 ttm
    have hv:=ari_but b8 ttm t8 ntA (wm.ari hv)
    have Do:=Dat.mono grm _ (wm.dat Do)
    have Dw:=Dat.mono grm _ (wm.dat Dw)
    refine rs_setr (K:=K) (d:=.tup [.int 9,.int 9,.int 9,.int 9]) (re_tup (ra_cons re_int (ra_cons re_int (ra_cons re_int (ra_cons re_int ra_nil))))) fun vg H9 s9 Dg=>?_
    have hv:=s9.ari hv
    have Do:=s9.dat Do
    have Dw:=s9.dat Dw
    have Dm:=s9.dat Dm
    refine rs_seq (r_itup (K:=K) (RE.use (K:=K) (d:=.tup [.int 0,.int 1]) (re_tup (ra_cons re_int (ra_cons re_int ra_nil))) fun vt HA sA qA=>?_))
    obtain ⟨at',ts,rfl,hqA,hdA⟩:=qA.tupE
    have ets:ts = ([0,1]:List Int).map V.int:=datIs hdA
    subst ets
    have hv:=sA.ari hv
    have Do:=sA.dat Do
    have Dw:=sA.dat Dw
    have Dm:=sA.dat Dm
    have Dg:=sA.dat Dg
    refine ⟨at',rfl,⟨_,hqA⟩,for_tup (xs:=([0,1]:List Int).map V.int) (fun j σ G=>∃ (z:Option V),σ = [some (.ref a),some (.ref t),some vb,some vo,some vw,some vm,some vg,z]∧Same HA G) ?_ (fun j σ G _ ⟨_,_,sG⟩=>sG.sqT hqA) ?_ ?_⟩
    · exact ⟨none,rfl,Same.refl _⟩
    · rintro j vo' σ G hj ⟨z,rfl,sG⟩
      obtain ⟨w01,hw,rfl⟩:∃ w01:Int,(w01 = 0∨w01 = 1)∧vo' = .int w01:=by
        match j,hj with
        | 0,hj=>cases hj; exact ⟨0,.inl rfl,rfl⟩
        | 1,hj=>cases hj; exact ⟨1,.inr rfl,rfl⟩
        | n + 2,hj=>cases hj
      refine rg_name ?_
      dsimp only
      refine rs_ifr (K:=K) (b:=false) (rt_test (re_ne12 3 (re_ask1 (T:=T) (rb_d (re_var (k:=7) (Dat.intI w01)) (rb_a (k:=2) (sG.ari hv) (rb_d (re_var (k:=4) (sG.dat Dw)) (rb_d (re_var (k:=3) (sG.dat Do)) (rb_d (re_var (k:=5) (sG.dat Dm)) rb_nil))))) hw okA' (.inl ⟨noA,rfl⟩) (.inr (.inr (.inl ⟨rfl,rfl⟩)))) (by decide))) (fun c=>nomatch c) (fun _ K0 k0=>?_)
      have s0x:=sG.trans k0
      refine rs_ifr (K:=K) (b:=false) (rt_test (re_ne12 0 (re_ask1 (T:=T) (rb_d (re_var (k:=7) (Dat.intI w01)) (rb_l (rl_of (rc_lst (ra_cons re_int (ra_cons re_int (ra_cons re_int ra_nil))))) (rb_d (re_var (k:=4) (s0x.dat Dw)) (rb_d (re_var (k:=3) (s0x.dat Do)) (rb_d (re_var (k:=5) (s0x.dat Dm)) rb_nil))))) hw trivial (.inr (.inl ⟨c150,odds_no _ ino,rfl⟩)) (.inl ⟨rfl,rfl⟩)) (by decide))) (fun c=>nomatch c) (fun _ K1 k1=>?_)
      have s1x:=s0x.trans k1
      refine rs_ifr (K:=K) (b:=false) (rt_test (re_ne12 2 (re_ask1 (T:=T) (rb_d (re_var (k:=7) (Dat.intI w01)) (rb_l (rl_of (rc_lst (ra_cons re_int (ra_cons re_int (ra_cons re_int ra_nil))))) (rb_d (re_var (k:=4) (s1x.dat Dw)) (rb_d re_int (rb_d (re_var (k:=5) (s1x.dat Dm)) rb_nil))))) hw trivial (.inr (.inr (.inl ⟨c150,10,rfl,by decide,by decide,wrongs_no _ inw,rfl⟩))) (.inr (.inl ⟨rfl,rfl⟩))) (by decide))) (fun c=>nomatch c) (fun _ K2 k2=>?_)
      have s2x:=s1x.trans k2
      exact rs_if (b:=false) (rt_test (re_ne12 4 (re_ask1 (T:=T) (rb_d (re_var (k:=7) (Dat.intI w01)) (rb_l (rl_of (rc_lst (ra_cons re_int ra_nil))) (rb_d (re_var (k:=6) (s2x.dat Dg)) (rb_d re_int (rb_d (re_var (k:=5) (s2x.dat Dm)) rb_nil))))) hw trivial (.inr (.inr (.inr ⟨c99,10,rfl,by decide,by decide,nines_ok,mosts_no _ inm,rfl⟩))) (.inr (.inr (.inr (.inl ⟨rfl,rfl⟩))))) (by decide))) (fun c=>nomatch c) (fun _ K3 k3=>(show tNext _ _ _ from ⟨_,rfl,s2x.trans k3⟩))
    rintro σ G ⟨z,rfl,sG⟩
    refine rs_ifr (K:=K) (b:=false) (RT.as (rt_or (b:=false) (rt_test (re_ne12 3 (re_ask2 (T:=T) (rb_d re_int (rb_a (k:=2) (sG.ari hv) (rb_d re_non (rb_d re_non (rb_d re_non rb_nil))))) okA' noA) (by decide))) fun _=>rt_test (re_ne12 12 (re_ask3 (T:=T) (cs:=[99]) (p:=0) (rb_d re_int (rb_l (rl_of (rc_lst (ra_cons re_int ra_nil))) (rb_d re_non (rb_d re_non (rb_d re_non rb_nil))))) (okB_ok (by decide)) f99) (by decide))) rfl) (fun c=>nomatch c) (fun _ G1 k1=>?_)
    have sG1:=sG.trans k1
    refine rs_ifr (K:=K) (b:=false) (RT.as (rt_or (b:=false) (rt_test (re_ne12 12 (re_askR (T:=T) (mc:=⟨[99],[9,9,9,9],10⟩) (n:=5) (mc_ok (by decide)) (by decide) (by decide) (.inr (.inl ⟨0,r99,rfl⟩)) re_int (rc_lst (ra_cons re_int ra_nil)) (re_var (k:=6) (sG1.dat Dg)) re_int re_int) (by decide))) fun _=>rt_test (re_ne12 5 (re_askR (T:=T) (mc:=⟨[9,97,99],[9,9,9,9],10⟩) (n:=1) (mc_ok (by decide)) (by decide) (by decide) (.inr (.inr ⟨r9799,rfl⟩)) re_int (rc_lst (ra_cons re_int (ra_cons re_int (ra_cons re_int ra_nil)))) (re_var (k:=6) (sG1.dat Dg)) re_int re_int) (by decide))) rfl) (fun c=>nomatch c) (fun _ G2 k2=>?_)
    have sG2:=sG1.trans k2
    refine rs_ret (K:=K) (d:=.bl true) (RE.as (re_and (b:=true) (RE.as (re_eqDD (d:=.int 5) (e:=.int 5) (re_askR (T:=T) (mc:=⟨[1,25,0],[9,9,9,9],10⟩) (n:=2) (mc_ok (by decide)) (by decide) (by decide) (.inl ⟨5,r125,rfl⟩) re_int (rc_lst (ra_cons re_int (ra_cons re_int (ra_cons re_int ra_nil)))) (re_var (k:=6) (sG2.dat Dg)) re_int re_int) re_int rfl rfl (by decide)) rfl) fun _=>eqLL false (ds:=[]) (rl_askT (T:=T) (mc:=⟨[99],[9,9,9,9],10⟩) (n:=5) (mc_ok (by decide)) (by decide) (by decide) t99 re_int (rc_lst (ra_cons re_int ra_nil)) (re_var (k:=6) (sG2.dat Dg)) re_int re_int) (rl_of (rc_lst ra_nil)) rfl (by decide)) rfl) fun v H' s q=>?_
    rw [q.blE]
    exact post _
end
end My
end
namespace My
open PySem L2 PyProof.Rows
section
variable {P:Program} {w:World} {K:PySem.W.Frag} {mg:Str→Option Value} {base:Heap} {k:Nat}
theorem chain (T:Txt K mg):FnOk P w K mg base CX0 8 T.a_law T.d_law ["_law_script"] (spLaw K):=by
  have w1:=ok_is_whole (P:=P) (w:=w) (base:=base) (k:=0) T
  have ns:=ok_need_size (k:=1) T w1
  have na:=ok_need_args (k:=1) T w1
  have wb:=ok_worth_of_both (P:=P) (w:=w) (base:=base) (k:=0) T
  have ic:=ok_is_code (k:=1) T w1
  have nc:=ok_need_code (k:=2) T ic
  have fi:=ok_Fault__init (P:=P) (w:=w) (base:=base) (k:=0) T
  have ia:=ok_instruction_at (k:=1) T fi
  have nt:=ok_number_told (P:=P) (w:=w) (base:=base) (k:=0) T
  have mi:=ok_Machine___init__ (P:=P) (w:=w) (base:=base) (k:=0) T
  have tk:=ok_Machine_take (k:=1) T fi
  have pu:=ok_Machine_push (k:=1) T fi
  have fn:=ok_Machine_finish (k:=1) T fi
  have wy:=ok_Machine_way (k:=2) T (fi.mono (by decide)) tk
  have ch:=ok_Machine_change (k:=3) T tk pu (wb.mono (by decide))
  have st:=ok_Machine_step (k:=3) T (fi.mono (by decide)) (ia.mono (by decide)) (nt.mono (by decide)) wy (fn.mono (by decide)) ch
  have sd:=ok_started (k:=2) T nc (ns.mono (by decide)) (na.mono (by decide)) (w1.mono (by decide)) (mi.mono (by decide))
  have rn:=ok_run (k:=5) T (sd.mono (by decide)) st
  have tr:=ok_trace (k:=5) T (sd.mono (by decide)) st
  have ls:=ok_listed (k:=3) T nc ia
  have wh:=ok__law_which (P:=P) (w:=w) (base:=base) (k:=5) T
  have ak:=ok__law_ask (k:=6) T (ls.mono (by decide)) rn tr wh
  have dr:=ok__law_draw (P:=P) (w:=w) (base:=base) (k:=0) T
  have pk:=ok__law_pick (k:=1) T dr
  exact ok_law (k:=7) T (ic.mono (by decide)) (pk.mono (by decide)) ak
end
abbrev NsD (K:PySem.W.Frag) (n:Str) (f:Addr):Prop:=PySem.W.nsIn K mainGlobals n = some (some (.ref f))
abbrev LkD (K:PySem.W.Frag) (n:Str) (st:Stmt) (f:Addr) (oc:Value) (od:Option Addr) (sl:Array (Option Value)) (kV dc pm:Value) (an:Option Addr) (cd ct:Value):Prop:=K.lookup f = some ⟨oc,od,.func (PySem.W.fnOf n n (defArgs st) (defBody st) (defScope st) .none kV dc pm an cd ct),sl⟩
theorem all_mk {l:PySem.W.OpenLaw} {w:World} {K:PySem.W.Frag} {h:Heap} {mg:Str→Option Value} {fa:Addr} (X:K.In h) (G:h.Ns mainGlobals mg) (hfa:mg "law" = some (.ref fa))
    {v2:Addr} {q2:Tok} {vc2:Value} {vd2:Option Addr} {vs2:Array (Option Value)} {vn2:Nat}
    {f1 f2 f3 f4 f5 f6 f7 f8 f9 f10 f11 f12 f13 f14 f15 f16 f17:Addr} {od1 od2 od3 od4 od5 od6 od7 od8 od9 od10 od11 od12 od13 od14 od15 od16 od17 an1 an2 an3 an4 an5 an6 an7 an8 an9 an10 an11 an12 an13 an14 an15 an16 an17:Option Addr} {sl1 sl2 sl3 sl4 sl5 sl6 sl7 sl8 sl9 sl10 sl11 sl12 sl13 sl14 sl15 sl16 sl17:Array (Option Value)} {oc1 oc2 oc3 oc4 oc5 oc6 oc7 oc8 oc9 oc10 oc11 oc12 oc13 oc14 oc15 oc16 oc17 kV1 kV2 kV3 kV4 kV5 kV6 kV7 kV8 kV9 kV10 kV11 kV12 kV13 kV14 kV15 kV16 kV17 dc1 dc2 dc3 dc4 dc5 dc6 dc7 dc8 dc9 dc10 dc11 dc12 dc13 dc14 dc15 dc16 dc17 pm1 pm2 pm3 pm4 pm5 pm6 pm7 pm8 pm9 pm10 pm11 pm12 pm13 pm14 pm15 pm16 pm17 cd1 cd2 cd3 cd4 cd5 cd6 cd7 cd8 cd9 cd10 cd11 cd12 cd13 cd14 cd15 cd16 cd17 ct1 ct2 ct3 ct4 ct5 ct6 ct7 ct8 ct9 ct10 ct11 ct12 ct13 ct14 ct15 ct16 ct17:Value}
    {d_Machine:Addr}
    {ii_Machine___init__:Addr} {iod_Machine___init__ ian_Machine___init__:Option Addr} {isl_Machine___init__:Array (Option Value)} {ioc_Machine___init__ ikV_Machine___init__ idc_Machine___init__ ipm_Machine___init__ icd_Machine___init__ ict_Machine___init__:Value}
    {ii_Machine_take:Addr} {iod_Machine_take ian_Machine_take:Option Addr} {isl_Machine_take:Array (Option Value)} {ioc_Machine_take ikV_Machine_take idc_Machine_take ipm_Machine_take icd_Machine_take ict_Machine_take:Value}
    {ii_Machine_push:Addr} {iod_Machine_push ian_Machine_push:Option Addr} {isl_Machine_push:Array (Option Value)} {ioc_Machine_push ikV_Machine_push idc_Machine_push ipm_Machine_push icd_Machine_push ict_Machine_push:Value}
    {ii_Machine_way:Addr} {iod_Machine_way ian_Machine_way:Option Addr} {isl_Machine_way:Array (Option Value)} {ioc_Machine_way ikV_Machine_way idc_Machine_way ipm_Machine_way icd_Machine_way ict_Machine_way:Value}
    {ii_Machine_finish:Addr} {iod_Machine_finish ian_Machine_finish:Option Addr} {isl_Machine_finish:Array (Option Value)} {ioc_Machine_finish ikV_Machine_finish idc_Machine_finish ipm_Machine_finish icd_Machine_finish ict_Machine_finish:Value}
    {ii_Machine_change:Addr} {iod_Machine_change ian_Machine_change:Option Addr} {isl_Machine_change:Array (Option Value)} {ioc_Machine_change ikV_Machine_change idc_Machine_change ipm_Machine_change icd_Machine_change ict_Machine_change:Value}
    {ii_Machine_step:Addr} {iod_Machine_step ian_Machine_step:Option Addr} {isl_Machine_step:Array (Option Value)} {ioc_Machine_step ikV_Machine_step idc_Machine_step ipm_Machine_step icd_Machine_step ict_Machine_step:Value}
    {t_MOST_CELLS:Tok}
    {t_MOST_CELL:Tok}
    {t_MANY_ARGS:Tok}
    {t_MOST_SIZE:Tok}
    {t_MOST_STEPS:Tok}
    {t_MOST_PILE:Tok}
    {t_MOST_KEPT:Tok}
    {d_MOST_TOLD:Addr}
    {d_INSTRUCTIONS:Addr}
    {d_WAYS:Addr}
    {d_PieceError:Addr}
    {d_NoSize:Addr}
    {d_NoTree:Addr}
    {d_NoArgs:Addr}
    {d_NoCode:Addr}
    {d_NoSteps:Addr}
    {d_Late:Addr}
    {d_NoPiece:Addr}
    {d_NoSet:Addr}
    {d_NoCover:Addr}
    {d_NoParts:Addr}
    {d_NoName:Addr}
    {d_Taken:Addr}
    {d_Fault:Addr}
    {d_Broken:Addr}
    {ii_Fault:Addr} {iod_Fault ian_Fault:Option Addr} {isl_Fault:Array (Option Value)} {ioc_Fault ikV_Fault idc_Fault ipm_Fault icd_Fault ict_Fault:Value}
    (a1:NsD K "is_whole" f1) (l1:LkD K "is_whole" s_is_whole f1 oc1 od1 sl1 kV1 dc1 pm1 an1 cd1 ct1) (c1:PySem.W.codeIn K cd1 "is_whole" = true) (k1:PySem.W.keepIn K (.ref f1) = true)
    (a2:NsD K "need_size" f2) (l2:K.lookup f2 = some ⟨oc2,od2,.func (PySem.W.fnOf "need_size" "need_size" (defArgs s_need_size) (defBody s_need_size) (defScope s_need_size) (.ref v2) kV2 dc2 pm2 an2 cd2 ct2),sl2⟩) (c2:PySem.W.codeIn K cd2 "need_size" = true) (k2:PySem.W.keepIn K (.ref f2) = true)
    (a3:NsD K "need_args" f3) (l3:LkD K "need_args" s_need_args f3 oc3 od3 sl3 kV3 dc3 pm3 an3 cd3 ct3) (c3:PySem.W.codeIn K cd3 "need_args" = true) (k3:PySem.W.keepIn K (.ref f3) = true)
    (a4:NsD K "worth_of_both" f4) (l4:LkD K "worth_of_both" s_worth_of_both f4 oc4 od4 sl4 kV4 dc4 pm4 an4 cd4 ct4) (c4:PySem.W.codeIn K cd4 "worth_of_both" = true) (k4:PySem.W.keepIn K (.ref f4) = true)
    (a5:NsD K "is_code" f5) (l5:LkD K "is_code" s_is_code f5 oc5 od5 sl5 kV5 dc5 pm5 an5 cd5 ct5) (c5:PySem.W.codeIn K cd5 "is_code" = true) (k5:PySem.W.keepIn K (.ref f5) = true)
    (a6:NsD K "need_code" f6) (l6:LkD K "need_code" s_need_code f6 oc6 od6 sl6 kV6 dc6 pm6 an6 cd6 ct6) (c6:PySem.W.codeIn K cd6 "need_code" = true) (k6:PySem.W.keepIn K (.ref f6) = true)
    (a7:NsD K "instruction_at" f7) (l7:LkD K "instruction_at" s_instruction_at f7 oc7 od7 sl7 kV7 dc7 pm7 an7 cd7 ct7) (c7:PySem.W.codeIn K cd7 "instruction_at" = true) (k7:PySem.W.keepIn K (.ref f7) = true)
    (a8:NsD K "number_told" f8) (l8:LkD K "number_told" s_number_told f8 oc8 od8 sl8 kV8 dc8 pm8 an8 cd8 ct8) (c8:PySem.W.codeIn K cd8 "number_told" = true) (k8:PySem.W.keepIn K (.ref f8) = true)
    (a9:NsD K "started" f9) (l9:LkD K "started" s_started f9 oc9 od9 sl9 kV9 dc9 pm9 an9 cd9 ct9) (c9:PySem.W.codeIn K cd9 "started" = true) (k9:PySem.W.keepIn K (.ref f9) = true)
    (a10:NsD K "run" f10) (l10:LkD K "run" s_run f10 oc10 od10 sl10 kV10 dc10 pm10 an10 cd10 ct10) (c10:PySem.W.codeIn K cd10 "run" = true) (k10:PySem.W.keepIn K (.ref f10) = true)
    (a11:NsD K "trace" f11) (l11:LkD K "trace" s_trace f11 oc11 od11 sl11 kV11 dc11 pm11 an11 cd11 ct11) (c11:PySem.W.codeIn K cd11 "trace" = true) (k11:PySem.W.keepIn K (.ref f11) = true)
    (a12:NsD K "listed" f12) (l12:LkD K "listed" s_listed f12 oc12 od12 sl12 kV12 dc12 pm12 an12 cd12 ct12) (c12:PySem.W.codeIn K cd12 "listed" = true) (k12:PySem.W.keepIn K (.ref f12) = true)
    (a13:NsD K "_law_draw" f13) (l13:LkD K "_law_draw" s__law_draw f13 oc13 od13 sl13 kV13 dc13 pm13 an13 cd13 ct13) (c13:PySem.W.codeIn K cd13 "_law_draw" = true) (k13:PySem.W.keepIn K (.ref f13) = true)
    (a14:NsD K "_law_pick" f14) (l14:LkD K "_law_pick" s__law_pick f14 oc14 od14 sl14 kV14 dc14 pm14 an14 cd14 ct14) (c14:PySem.W.codeIn K cd14 "_law_pick" = true) (k14:PySem.W.keepIn K (.ref f14) = true)
    (a15:NsD K "_law_which" f15) (l15:LkD K "_law_which" s__law_which f15 oc15 od15 sl15 kV15 dc15 pm15 an15 cd15 ct15) (c15:PySem.W.codeIn K cd15 "_law_which" = true) (k15:PySem.W.keepIn K (.ref f15) = true)
    (a16:NsD K "_law_ask" f16) (l16:LkD K "_law_ask" s__law_ask f16 oc16 od16 sl16 kV16 dc16 pm16 an16 cd16 ct16) (c16:PySem.W.codeIn K cd16 "_law_ask" = true) (k16:PySem.W.keepIn K (.ref f16) = true)
    (a17:NsD K "law" f17) (l17:LkD K "law" s_law f17 oc17 od17 sl17 kV17 dc17 pm17 an17 cd17 ct17) (c17:PySem.W.codeIn K cd17 "law" = true) (k17:PySem.W.keepIn K (.ref f17) = true)
    (e2:K.lookup v2 = some ⟨vc2,vd2,.seq #[.int 10000 q2] vn2,vs2⟩)
    (g_Machine:PySem.W.nsIn K mainGlobals "Machine" = some (some (.ref d_Machine)))
    (if_Machine___init__:PySem.W.findIn K (.ref d_Machine) "__init__" = some (some (.ref ii_Machine___init__))) (il_Machine___init__:K.lookup ii_Machine___init__ = some ⟨ioc_Machine___init__,iod_Machine___init__,.func (PySem.W.fnOf "__init__" "Machine.__init__" (defArgs s_Machine___init__) (defBody s_Machine___init__) (defScope s_Machine___init__) .none ikV_Machine___init__ idc_Machine___init__ ipm_Machine___init__ ian_Machine___init__ icd_Machine___init__ ict_Machine___init__),isl_Machine___init__⟩) (ic_Machine___init__:PySem.W.codeIn K icd_Machine___init__ "Machine.__init__" = true) (ik_Machine___init__:PySem.W.keepIn K (.ref ii_Machine___init__) = true) (ij_Machine___init__:PySem.W.isFn K (.ref ii_Machine___init__) = true)
    (im_Machine:PySem.W.makesIn K d_Machine = true) (io_Machine:PySem.W.keepIn K (.ref d_Machine) = true)
    (if_Machine_take:PySem.W.findIn K (.ref d_Machine) "take" = some (some (.ref ii_Machine_take))) (il_Machine_take:K.lookup ii_Machine_take = some ⟨ioc_Machine_take,iod_Machine_take,.func (PySem.W.fnOf "take" "Machine.take" (defArgs s_Machine_take) (defBody s_Machine_take) (defScope s_Machine_take) .none ikV_Machine_take idc_Machine_take ipm_Machine_take ian_Machine_take icd_Machine_take ict_Machine_take),isl_Machine_take⟩) (ic_Machine_take:PySem.W.codeIn K icd_Machine_take "Machine.take" = true) (ik_Machine_take:PySem.W.keepIn K (.ref ii_Machine_take) = true) (ij_Machine_take:PySem.W.isFn K (.ref ii_Machine_take) = true)
    (if_Machine_push:PySem.W.findIn K (.ref d_Machine) "push" = some (some (.ref ii_Machine_push))) (il_Machine_push:K.lookup ii_Machine_push = some ⟨ioc_Machine_push,iod_Machine_push,.func (PySem.W.fnOf "push" "Machine.push" (defArgs s_Machine_push) (defBody s_Machine_push) (defScope s_Machine_push) .none ikV_Machine_push idc_Machine_push ipm_Machine_push ian_Machine_push icd_Machine_push ict_Machine_push),isl_Machine_push⟩) (ic_Machine_push:PySem.W.codeIn K icd_Machine_push "Machine.push" = true) (ik_Machine_push:PySem.W.keepIn K (.ref ii_Machine_push) = true) (ij_Machine_push:PySem.W.isFn K (.ref ii_Machine_push) = true)
    (if_Machine_way:PySem.W.findIn K (.ref d_Machine) "way" = some (some (.ref ii_Machine_way))) (il_Machine_way:K.lookup ii_Machine_way = some ⟨ioc_Machine_way,iod_Machine_way,.func (PySem.W.fnOf "way" "Machine.way" (defArgs s_Machine_way) (defBody s_Machine_way) (defScope s_Machine_way) .none ikV_Machine_way idc_Machine_way ipm_Machine_way ian_Machine_way icd_Machine_way ict_Machine_way),isl_Machine_way⟩) (ic_Machine_way:PySem.W.codeIn K icd_Machine_way "Machine.way" = true) (ik_Machine_way:PySem.W.keepIn K (.ref ii_Machine_way) = true) (ij_Machine_way:PySem.W.isFn K (.ref ii_Machine_way) = true)
    (if_Machine_finish:PySem.W.findIn K (.ref d_Machine) "finish" = some (some (.ref ii_Machine_finish))) (il_Machine_finish:K.lookup ii_Machine_finish = some ⟨ioc_Machine_finish,iod_Machine_finish,.func (PySem.W.fnOf "finish" "Machine.finish" (defArgs s_Machine_finish) (defBody s_Machine_finish) (defScope s_Machine_finish) .none ikV_Machine_finish idc_Machine_finish ipm_Machine_finish ian_Machine_finish icd_Machine_finish ict_Machine_finish),isl_Machine_finish⟩) (ic_Machine_finish:PySem.W.codeIn K icd_Machine_finish "Machine.finish" = true) (ik_Machine_finish:PySem.W.keepIn K (.ref ii_Machine_finish) = true) (ij_Machine_finish:PySem.W.isFn K (.ref ii_Machine_finish) = true)
    (if_Machine_change:PySem.W.findIn K (.ref d_Machine) "change" = some (some (.ref ii_Machine_change))) (il_Machine_change:K.lookup ii_Machine_change = some ⟨ioc_Machine_change,iod_Machine_change,.func (PySem.W.fnOf "change" "Machine.change" (defArgs s_Machine_change) (defBody s_Machine_change) (defScope s_Machine_change) .none ikV_Machine_change idc_Machine_change ipm_Machine_change ian_Machine_change icd_Machine_change ict_Machine_change),isl_Machine_change⟩) (ic_Machine_change:PySem.W.codeIn K icd_Machine_change "Machine.change" = true) (ik_Machine_change:PySem.W.keepIn K (.ref ii_Machine_change) = true) (ij_Machine_change:PySem.W.isFn K (.ref ii_Machine_change) = true)
    (if_Machine_step:PySem.W.findIn K (.ref d_Machine) "step" = some (some (.ref ii_Machine_step))) (il_Machine_step:K.lookup ii_Machine_step = some ⟨ioc_Machine_step,iod_Machine_step,.func (PySem.W.fnOf "step" "Machine.step" (defArgs s_Machine_step) (defBody s_Machine_step) (defScope s_Machine_step) .none ikV_Machine_step idc_Machine_step ipm_Machine_step ian_Machine_step icd_Machine_step ict_Machine_step),isl_Machine_step⟩) (ic_Machine_step:PySem.W.codeIn K icd_Machine_step "Machine.step" = true) (ik_Machine_step:PySem.W.keepIn K (.ref ii_Machine_step) = true) (ij_Machine_step:PySem.W.isFn K (.ref ii_Machine_step) = true)
    (cl_Machine:Cls K d_Machine)
    (na_cells:PySem.W.findIn K (.ref d_Machine) "cells" = some none)
    (na_given:PySem.W.findIn K (.ref d_Machine) "given" = some none)
    (na_size:PySem.W.findIn K (.ref d_Machine) "size" = some none)
    (na_pile:PySem.W.findIn K (.ref d_Machine) "pile" = some none)
    (na_place:PySem.W.findIn K (.ref d_Machine) "place" = some none)
    (na_kept:PySem.W.findIn K (.ref d_Machine) "kept" = some none)
    (na_ended:PySem.W.findIn K (.ref d_Machine) "ended" = some none)
    (g_MOST_CELLS:PySem.W.nsIn K mainGlobals "MOST_CELLS" = some (some (.int 1000 t_MOST_CELLS)))
    (g_MOST_CELL:PySem.W.nsIn K mainGlobals "MOST_CELL" = some (some (.int 99 t_MOST_CELL)))
    (g_MANY_ARGS:PySem.W.nsIn K mainGlobals "MANY_ARGS" = some (some (.int 4 t_MANY_ARGS)))
    (g_MOST_SIZE:PySem.W.nsIn K mainGlobals "MOST_SIZE" = some (some (.int 10000 t_MOST_SIZE)))
    (g_MOST_STEPS:PySem.W.nsIn K mainGlobals "MOST_STEPS" = some (some (.int 100000 t_MOST_STEPS)))
    (g_MOST_PILE:PySem.W.nsIn K mainGlobals "MOST_PILE" = some (some (.int 64 t_MOST_PILE)))
    (g_MOST_KEPT:PySem.W.nsIn K mainGlobals "MOST_KEPT" = some (some (.int 16 t_MOST_KEPT)))
    (g_MOST_TOLD:PySem.W.nsIn K mainGlobals "MOST_TOLD" = some (some (.ref d_MOST_TOLD))) (t_MOST_TOLD:KTD.tabLook (KTD.datLooks fun b=>K.lookup b) (fun b=>K.lookup b) d_MOST_TOLD TTO = true)
    (g_INSTRUCTIONS:PySem.W.nsIn K mainGlobals "INSTRUCTIONS" = some (some (.ref d_INSTRUCTIONS))) (y_INSTRUCTIONS:datOk K (.tup INS) (.ref d_INSTRUCTIONS) = true)
    (g_WAYS:PySem.W.nsIn K mainGlobals "WAYS" = some (some (.ref d_WAYS))) (y_WAYS:datOk K (.tup WAY) (.ref d_WAYS) = true)
    (g_PieceError:PySem.W.nsIn K mainGlobals "PieceError" = some (some (.ref d_PieceError)))
    (g_NoSize:PySem.W.nsIn K mainGlobals "NoSize" = some (some (.ref d_NoSize)))
    (g_NoTree:PySem.W.nsIn K mainGlobals "NoTree" = some (some (.ref d_NoTree)))
    (g_NoArgs:PySem.W.nsIn K mainGlobals "NoArgs" = some (some (.ref d_NoArgs)))
    (g_NoCode:PySem.W.nsIn K mainGlobals "NoCode" = some (some (.ref d_NoCode)))
    (g_NoSteps:PySem.W.nsIn K mainGlobals "NoSteps" = some (some (.ref d_NoSteps)))
    (g_Late:PySem.W.nsIn K mainGlobals "Late" = some (some (.ref d_Late)))
    (g_NoPiece:PySem.W.nsIn K mainGlobals "NoPiece" = some (some (.ref d_NoPiece)))
    (g_NoSet:PySem.W.nsIn K mainGlobals "NoSet" = some (some (.ref d_NoSet)))
    (g_NoCover:PySem.W.nsIn K mainGlobals "NoCover" = some (some (.ref d_NoCover)))
    (g_NoParts:PySem.W.nsIn K mainGlobals "NoParts" = some (some (.ref d_NoParts)))
    (g_NoName:PySem.W.nsIn K mainGlobals "NoName" = some (some (.ref d_NoName)))
    (g_Taken:PySem.W.nsIn K mainGlobals "Taken" = some (some (.ref d_Taken)))
    (g_Fault:PySem.W.nsIn K mainGlobals "Fault" = some (some (.ref d_Fault)))
    (g_Broken:PySem.W.nsIn K mainGlobals "Broken" = some (some (.ref d_Broken)))
    (if_Fault:PySem.W.findIn K (.ref d_Fault) "__init__" = some (some (.ref ii_Fault))) (il_Fault:K.lookup ii_Fault = some ⟨ioc_Fault,iod_Fault,.func (PySem.W.fnOf "__init__" "Fault.__init__" (defArgs s_Fault__init) (defBody s_Fault__init) (defScope s_Fault__init) .none ikV_Fault idc_Fault ipm_Fault ian_Fault icd_Fault ict_Fault),isl_Fault⟩) (ic_Fault:PySem.W.codeIn K icd_Fault "Fault.__init__" = true) (ik_Fault:PySem.W.keepIn K (.ref ii_Fault) = true)
    (ix_Fault:IniK K d_Fault ii_Fault) (is_Fault:StoK K d_Fault "place")
    (x_Fault:ExcK K d_Fault)
    (r_NoSize:excAt K d_NoSize [.type "ValueError",.type "Exception",.type "BaseException",.type "object"] "ValueError.__new__" none = true) (x_NoSize:ExcK K d_NoSize)
    (r_NoArgs:excAt K d_NoArgs [.type "ValueError",.type "Exception",.type "BaseException",.type "object"] "ValueError.__new__" none = true) (x_NoArgs:ExcK K d_NoArgs)
    (r_NoCode:excAt K d_NoCode [.type "ValueError",.type "Exception",.type "BaseException",.type "object"] "ValueError.__new__" none = true) (x_NoCode:ExcK K d_NoCode)
    (r_NoSteps:excAt K d_NoSteps [.type "ValueError",.type "Exception",.type "BaseException",.type "object"] "ValueError.__new__" none = true) (x_NoSteps:ExcK K d_NoSteps)
    (r_Late:excAt K d_Late [.type "ValueError",.type "Exception",.type "BaseException",.type "object"] "ValueError.__new__" none = true) (x_Late:ExcK K d_Late)
    (e_NoSize_PieceError:PySem.W.exmOne K (.ref d_NoSize) (.ref d_PieceError) = some true)
    (e_NoArgs_PieceError:PySem.W.exmOne K (.ref d_NoArgs) (.ref d_PieceError) = some true)
    (e_NoCode_PieceError:PySem.W.exmOne K (.ref d_NoCode) (.ref d_PieceError) = some true)
    (e_NoSteps_PieceError:PySem.W.exmOne K (.ref d_NoSteps) (.ref d_PieceError) = some true)
    (e_Late_PieceError:PySem.W.exmOne K (.ref d_Late) (.ref d_PieceError) = some true)
    (e_Fault_PieceError:PySem.W.exmOne K (.ref d_Fault) (.ref d_PieceError) = some true)
    (e_Fault_Fault:PySem.W.exmOne K (.ref d_Fault) (.ref d_Fault) = some true)
    (k_NoSize_NoSize:PySem.W.kitOne K (.ref d_NoSize) (.ref d_NoSize) = some true)
    (k_NoSize_NoTree:PySem.W.kitOne K (.ref d_NoSize) (.ref d_NoTree) = some false)
    (k_NoSize_NoArgs:PySem.W.kitOne K (.ref d_NoSize) (.ref d_NoArgs) = some false)
    (k_NoSize_NoCode:PySem.W.kitOne K (.ref d_NoSize) (.ref d_NoCode) = some false)
    (k_NoSize_NoSteps:PySem.W.kitOne K (.ref d_NoSize) (.ref d_NoSteps) = some false)
    (k_NoSize_Late:PySem.W.kitOne K (.ref d_NoSize) (.ref d_Late) = some false)
    (k_NoSize_NoPiece:PySem.W.kitOne K (.ref d_NoSize) (.ref d_NoPiece) = some false)
    (k_NoSize_NoSet:PySem.W.kitOne K (.ref d_NoSize) (.ref d_NoSet) = some false)
    (k_NoSize_NoCover:PySem.W.kitOne K (.ref d_NoSize) (.ref d_NoCover) = some false)
    (k_NoSize_NoParts:PySem.W.kitOne K (.ref d_NoSize) (.ref d_NoParts) = some false)
    (k_NoSize_NoName:PySem.W.kitOne K (.ref d_NoSize) (.ref d_NoName) = some false)
    (k_NoSize_Taken:PySem.W.kitOne K (.ref d_NoSize) (.ref d_Taken) = some false)
    (k_NoSize_Fault:PySem.W.kitOne K (.ref d_NoSize) (.ref d_Fault) = some false)
    (k_NoSize_Broken:PySem.W.kitOne K (.ref d_NoSize) (.ref d_Broken) = some false)
    (k_NoArgs_NoSize:PySem.W.kitOne K (.ref d_NoArgs) (.ref d_NoSize) = some false)
    (k_NoArgs_NoTree:PySem.W.kitOne K (.ref d_NoArgs) (.ref d_NoTree) = some false)
    (k_NoArgs_NoArgs:PySem.W.kitOne K (.ref d_NoArgs) (.ref d_NoArgs) = some true)
    (k_NoArgs_NoCode:PySem.W.kitOne K (.ref d_NoArgs) (.ref d_NoCode) = some false)
    (k_NoArgs_NoSteps:PySem.W.kitOne K (.ref d_NoArgs) (.ref d_NoSteps) = some false)
    (k_NoArgs_Late:PySem.W.kitOne K (.ref d_NoArgs) (.ref d_Late) = some false)
    (k_NoArgs_NoPiece:PySem.W.kitOne K (.ref d_NoArgs) (.ref d_NoPiece) = some false)
    (k_NoArgs_NoSet:PySem.W.kitOne K (.ref d_NoArgs) (.ref d_NoSet) = some false)
    (k_NoArgs_NoCover:PySem.W.kitOne K (.ref d_NoArgs) (.ref d_NoCover) = some false)
    (k_NoArgs_NoParts:PySem.W.kitOne K (.ref d_NoArgs) (.ref d_NoParts) = some false)
    (k_NoArgs_NoName:PySem.W.kitOne K (.ref d_NoArgs) (.ref d_NoName) = some false)
    (k_NoArgs_Taken:PySem.W.kitOne K (.ref d_NoArgs) (.ref d_Taken) = some false)
    (k_NoArgs_Fault:PySem.W.kitOne K (.ref d_NoArgs) (.ref d_Fault) = some false)
    (k_NoArgs_Broken:PySem.W.kitOne K (.ref d_NoArgs) (.ref d_Broken) = some false)
    (k_NoCode_NoSize:PySem.W.kitOne K (.ref d_NoCode) (.ref d_NoSize) = some false)
    (k_NoCode_NoTree:PySem.W.kitOne K (.ref d_NoCode) (.ref d_NoTree) = some false)
    (k_NoCode_NoArgs:PySem.W.kitOne K (.ref d_NoCode) (.ref d_NoArgs) = some false)
    (k_NoCode_NoCode:PySem.W.kitOne K (.ref d_NoCode) (.ref d_NoCode) = some true)
    (k_NoCode_NoSteps:PySem.W.kitOne K (.ref d_NoCode) (.ref d_NoSteps) = some false)
    (k_NoCode_Late:PySem.W.kitOne K (.ref d_NoCode) (.ref d_Late) = some false)
    (k_NoCode_NoPiece:PySem.W.kitOne K (.ref d_NoCode) (.ref d_NoPiece) = some false)
    (k_NoCode_NoSet:PySem.W.kitOne K (.ref d_NoCode) (.ref d_NoSet) = some false)
    (k_NoCode_NoCover:PySem.W.kitOne K (.ref d_NoCode) (.ref d_NoCover) = some false)
    (k_NoCode_NoParts:PySem.W.kitOne K (.ref d_NoCode) (.ref d_NoParts) = some false)
    (k_NoCode_NoName:PySem.W.kitOne K (.ref d_NoCode) (.ref d_NoName) = some false)
    (k_NoCode_Taken:PySem.W.kitOne K (.ref d_NoCode) (.ref d_Taken) = some false)
    (k_NoCode_Fault:PySem.W.kitOne K (.ref d_NoCode) (.ref d_Fault) = some false)
    (k_NoCode_Broken:PySem.W.kitOne K (.ref d_NoCode) (.ref d_Broken) = some false)
    (k_NoSteps_NoSize:PySem.W.kitOne K (.ref d_NoSteps) (.ref d_NoSize) = some false)
    (k_NoSteps_NoTree:PySem.W.kitOne K (.ref d_NoSteps) (.ref d_NoTree) = some false)
    (k_NoSteps_NoArgs:PySem.W.kitOne K (.ref d_NoSteps) (.ref d_NoArgs) = some false)
    (k_NoSteps_NoCode:PySem.W.kitOne K (.ref d_NoSteps) (.ref d_NoCode) = some false)
    (k_NoSteps_NoSteps:PySem.W.kitOne K (.ref d_NoSteps) (.ref d_NoSteps) = some true)
    (k_NoSteps_Late:PySem.W.kitOne K (.ref d_NoSteps) (.ref d_Late) = some false)
    (k_NoSteps_NoPiece:PySem.W.kitOne K (.ref d_NoSteps) (.ref d_NoPiece) = some false)
    (k_NoSteps_NoSet:PySem.W.kitOne K (.ref d_NoSteps) (.ref d_NoSet) = some false)
    (k_NoSteps_NoCover:PySem.W.kitOne K (.ref d_NoSteps) (.ref d_NoCover) = some false)
    (k_NoSteps_NoParts:PySem.W.kitOne K (.ref d_NoSteps) (.ref d_NoParts) = some false)
    (k_NoSteps_NoName:PySem.W.kitOne K (.ref d_NoSteps) (.ref d_NoName) = some false)
    (k_NoSteps_Taken:PySem.W.kitOne K (.ref d_NoSteps) (.ref d_Taken) = some false)
    (k_NoSteps_Fault:PySem.W.kitOne K (.ref d_NoSteps) (.ref d_Fault) = some false)
    (k_NoSteps_Broken:PySem.W.kitOne K (.ref d_NoSteps) (.ref d_Broken) = some false)
    (k_Late_NoSize:PySem.W.kitOne K (.ref d_Late) (.ref d_NoSize) = some false)
    (k_Late_NoTree:PySem.W.kitOne K (.ref d_Late) (.ref d_NoTree) = some false)
    (k_Late_NoArgs:PySem.W.kitOne K (.ref d_Late) (.ref d_NoArgs) = some false)
    (k_Late_NoCode:PySem.W.kitOne K (.ref d_Late) (.ref d_NoCode) = some false)
    (k_Late_NoSteps:PySem.W.kitOne K (.ref d_Late) (.ref d_NoSteps) = some false)
    (k_Late_Late:PySem.W.kitOne K (.ref d_Late) (.ref d_Late) = some true)
    (k_Late_NoPiece:PySem.W.kitOne K (.ref d_Late) (.ref d_NoPiece) = some false)
    (k_Late_NoSet:PySem.W.kitOne K (.ref d_Late) (.ref d_NoSet) = some false)
    (k_Late_NoCover:PySem.W.kitOne K (.ref d_Late) (.ref d_NoCover) = some false)
    (k_Late_NoParts:PySem.W.kitOne K (.ref d_Late) (.ref d_NoParts) = some false)
    (k_Late_NoName:PySem.W.kitOne K (.ref d_Late) (.ref d_NoName) = some false)
    (k_Late_Taken:PySem.W.kitOne K (.ref d_Late) (.ref d_Taken) = some false)
    (k_Late_Fault:PySem.W.kitOne K (.ref d_Late) (.ref d_Fault) = some false)
    (k_Late_Broken:PySem.W.kitOne K (.ref d_Late) (.ref d_Broken) = some false)
    (k_Fault_NoSize:PySem.W.kitOne K (.ref d_Fault) (.ref d_NoSize) = some false)
    (k_Fault_NoTree:PySem.W.kitOne K (.ref d_Fault) (.ref d_NoTree) = some false)
    (k_Fault_NoArgs:PySem.W.kitOne K (.ref d_Fault) (.ref d_NoArgs) = some false)
    (k_Fault_NoCode:PySem.W.kitOne K (.ref d_Fault) (.ref d_NoCode) = some false)
    (k_Fault_NoSteps:PySem.W.kitOne K (.ref d_Fault) (.ref d_NoSteps) = some false)
    (k_Fault_Late:PySem.W.kitOne K (.ref d_Fault) (.ref d_Late) = some false)
    (k_Fault_NoPiece:PySem.W.kitOne K (.ref d_Fault) (.ref d_NoPiece) = some false)
    (k_Fault_NoSet:PySem.W.kitOne K (.ref d_Fault) (.ref d_NoSet) = some false)
    (k_Fault_NoCover:PySem.W.kitOne K (.ref d_Fault) (.ref d_NoCover) = some false)
    (k_Fault_NoParts:PySem.W.kitOne K (.ref d_Fault) (.ref d_NoParts) = some false)
    (k_Fault_NoName:PySem.W.kitOne K (.ref d_Fault) (.ref d_NoName) = some false)
    (k_Fault_Taken:PySem.W.kitOne K (.ref d_Fault) (.ref d_Taken) = some false)
    (k_Fault_Fault:PySem.W.kitOne K (.ref d_Fault) (.ref d_Fault) = some true)
    (k_Fault_Broken:PySem.W.kitOne K (.ref d_Fault) (.ref d_Broken) = some false)
    (k_NoSize_ValueError:PySem.W.kitOne K (.ref d_NoSize) (.type "ValueError") = some true)
    (k_NoArgs_ValueError:PySem.W.kitOne K (.ref d_NoArgs) (.type "ValueError") = some true)
    (k_NoCode_ValueError:PySem.W.kitOne K (.ref d_NoCode) (.type "ValueError") = some true)
    (k_NoSteps_ValueError:PySem.W.kitOne K (.ref d_NoSteps) (.type "ValueError") = some true)
    (k_Late_ValueError:PySem.W.kitOne K (.ref d_Late) (.type "ValueError") = some true)
    (k_Fault_ValueError:PySem.W.kitOne K (.ref d_Fault) (.type "ValueError") = some true)
    (z_len:PySem.W.nsIn K mainGlobals "len" = some none)
    (z_isinstance:PySem.W.nsIn K mainGlobals "isinstance" = some none)
    (z_int:PySem.W.nsIn K mainGlobals "int" = some none)
    (z_bool:PySem.W.nsIn K mainGlobals "bool" = some none)
    (z_list:PySem.W.nsIn K mainGlobals "list" = some none)
    (z_tuple:PySem.W.nsIn K mainGlobals "tuple" = some none)
    (z_range:PySem.W.nsIn K mainGlobals "range" = some none)
    (z_all:PySem.W.nsIn K mainGlobals "all" = some none)
    (z_reversed:PySem.W.nsIn K mainGlobals "reversed" = some none)
    (z_ValueError:PySem.W.nsIn K mainGlobals "ValueError" = some none) :
    ∃ fd:FuncData,(∀ (s:Shared) (v:Value),BindsTo s fd ⟨[v],[]⟩ [("_law_script",v)])∧∀ base:Heap,K.In base→base.Ns mainGlobals mg→FnOk l.prog w K mg base CX0 8 fa fd ["_law_script"] (spLaw K):=by
  have M:∀ {n:Str} {v:Value},PySem.W.nsIn K mainGlobals n = some (some v)→mg n = some v:=PySem.W.mg_of X G
  have N:∀ {n:Str},PySem.W.nsIn K mainGlobals n = some none→mg n = none:=PySem.W.mg_none_of X G
  have e:=hfa.symm.trans (M a17)
  cases e
  let T:Txt K mg :=
    { a_is_whole:=f1,d_is_whole:=_,f_is_whole:=fun_mk (st:=s_is_whole) l1 c1 k1,m_is_whole:=M a1,
      a_need_size:=f2,d_need_size:=PySem.W.fnOf "need_size" "need_size" (defArgs s_need_size) (defBody s_need_size) (defScope s_need_size) (.ref v2) kV2 dc2 pm2 an2 cd2 ct2,u_need_size:=v2,q_need_size:=q2,f_need_size:=⟨⟨_,_,_,_,_,_,_,_,_,rfl,l2,c2⟩,k2,⟨_,_,e2,rfl⟩⟩,m_need_size:=M a2,
      a_need_args:=f3,d_need_args:=_,f_need_args:=fun_mk (st:=s_need_args) l3 c3 k3,m_need_args:=M a3,
      a_worth_of_both:=f4,d_worth_of_both:=_,f_worth_of_both:=fun_mk (st:=s_worth_of_both) l4 c4 k4,m_worth_of_both:=M a4,
      a_is_code:=f5,d_is_code:=_,f_is_code:=fun_mk (st:=s_is_code) l5 c5 k5,m_is_code:=M a5,
      a_need_code:=f6,d_need_code:=_,f_need_code:=fun_mk (st:=s_need_code) l6 c6 k6,m_need_code:=M a6,
      a_instruction_at:=f7,d_instruction_at:=_,f_instruction_at:=fun_mk (st:=s_instruction_at) l7 c7 k7,m_instruction_at:=M a7,
      a_number_told:=f8,d_number_told:=_,f_number_told:=fun_mk (st:=s_number_told) l8 c8 k8,m_number_told:=M a8,
      a_started:=f9,d_started:=_,f_started:=fun_mk (st:=s_started) l9 c9 k9,m_started:=M a9,
      a_run:=f10,d_run:=_,f_run:=fun_mk (st:=s_run) l10 c10 k10,m_run:=M a10,
      a_trace:=f11,d_trace:=_,f_trace:=fun_mk (st:=s_trace) l11 c11 k11,m_trace:=M a11,
      a_listed:=f12,d_listed:=_,f_listed:=fun_mk (st:=s_listed) l12 c12 k12,m_listed:=M a12,
      a__law_draw:=f13,d__law_draw:=_,f__law_draw:=fun_mk (st:=s__law_draw) l13 c13 k13,m__law_draw:=M a13,
      a__law_pick:=f14,d__law_pick:=_,f__law_pick:=fun_mk (st:=s__law_pick) l14 c14 k14,m__law_pick:=M a14,
      a__law_which:=f15,d__law_which:=_,f__law_which:=fun_mk (st:=s__law_which) l15 c15 k15,m__law_which:=M a15,
      a__law_ask:=f16,d__law_ask:=_,f__law_ask:=fun_mk (st:=s__law_ask) l16 c16 k16,m__law_ask:=M a16,
      a_law:=fa,d_law:=_,f_law:=fun_mk (st:=s_law) l17 c17 k17,m_law:=M a17,
      a_Machine:=d_Machine,g_Machine:=M g_Machine,
      a_Machine___init__:=ii_Machine___init__,d_Machine___init__:=PySem.W.fnOf "__init__" "Machine.__init__" (defArgs s_Machine___init__) (defBody s_Machine___init__) (defScope s_Machine___init__) .none ikV_Machine___init__ idc_Machine___init__ ipm_Machine___init__ ian_Machine___init__ icd_Machine___init__ ict_Machine___init__,f_Machine___init__:=fun_mk (st:=s_Machine___init__) il_Machine___init__ ic_Machine___init__ ik_Machine___init__,
      mk_Machine:=⟨im_Machine,if_Machine___init__,ij_Machine___init__,io_Machine⟩,
      a_Machine_take:=ii_Machine_take,d_Machine_take:=PySem.W.fnOf "take" "Machine.take" (defArgs s_Machine_take) (defBody s_Machine_take) (defScope s_Machine_take) .none ikV_Machine_take idc_Machine_take ipm_Machine_take ian_Machine_take icd_Machine_take ict_Machine_take,f_Machine_take:=fun_mk (st:=s_Machine_take) il_Machine_take ic_Machine_take ik_Machine_take,
      mt_Machine_take:=⟨if_Machine_take,ij_Machine_take,ik_Machine_take⟩,
      a_Machine_push:=ii_Machine_push,d_Machine_push:=PySem.W.fnOf "push" "Machine.push" (defArgs s_Machine_push) (defBody s_Machine_push) (defScope s_Machine_push) .none ikV_Machine_push idc_Machine_push ipm_Machine_push ian_Machine_push icd_Machine_push ict_Machine_push,f_Machine_push:=fun_mk (st:=s_Machine_push) il_Machine_push ic_Machine_push ik_Machine_push,
      mt_Machine_push:=⟨if_Machine_push,ij_Machine_push,ik_Machine_push⟩,
      a_Machine_way:=ii_Machine_way,d_Machine_way:=PySem.W.fnOf "way" "Machine.way" (defArgs s_Machine_way) (defBody s_Machine_way) (defScope s_Machine_way) .none ikV_Machine_way idc_Machine_way ipm_Machine_way ian_Machine_way icd_Machine_way ict_Machine_way,f_Machine_way:=fun_mk (st:=s_Machine_way) il_Machine_way ic_Machine_way ik_Machine_way,
      mt_Machine_way:=⟨if_Machine_way,ij_Machine_way,ik_Machine_way⟩,
      a_Machine_finish:=ii_Machine_finish,d_Machine_finish:=PySem.W.fnOf "finish" "Machine.finish" (defArgs s_Machine_finish) (defBody s_Machine_finish) (defScope s_Machine_finish) .none ikV_Machine_finish idc_Machine_finish ipm_Machine_finish ian_Machine_finish icd_Machine_finish ict_Machine_finish,f_Machine_finish:=fun_mk (st:=s_Machine_finish) il_Machine_finish ic_Machine_finish ik_Machine_finish,
      mt_Machine_finish:=⟨if_Machine_finish,ij_Machine_finish,ik_Machine_finish⟩,
      a_Machine_change:=ii_Machine_change,d_Machine_change:=PySem.W.fnOf "change" "Machine.change" (defArgs s_Machine_change) (defBody s_Machine_change) (defScope s_Machine_change) .none ikV_Machine_change idc_Machine_change ipm_Machine_change ian_Machine_change icd_Machine_change ict_Machine_change,f_Machine_change:=fun_mk (st:=s_Machine_change) il_Machine_change ic_Machine_change ik_Machine_change,
      mt_Machine_change:=⟨if_Machine_change,ij_Machine_change,ik_Machine_change⟩,
      a_Machine_step:=ii_Machine_step,d_Machine_step:=PySem.W.fnOf "step" "Machine.step" (defArgs s_Machine_step) (defBody s_Machine_step) (defScope s_Machine_step) .none ikV_Machine_step idc_Machine_step ipm_Machine_step ian_Machine_step icd_Machine_step ict_Machine_step,f_Machine_step:=fun_mk (st:=s_Machine_step) il_Machine_step ic_Machine_step ik_Machine_step,
      mt_Machine_step:=⟨if_Machine_step,ij_Machine_step,ik_Machine_step⟩,
      cl_Machine:=cl_Machine,
      na_cells:=na_cells,
      na_given:=na_given,
      na_size:=na_size,
      na_pile:=na_pile,
      na_place:=na_place,
      na_kept:=na_kept,
      na_ended:=na_ended,
      t_MOST_CELLS:=t_MOST_CELLS,g_MOST_CELLS:=M g_MOST_CELLS,
      t_MOST_CELL:=t_MOST_CELL,g_MOST_CELL:=M g_MOST_CELL,
      t_MANY_ARGS:=t_MANY_ARGS,g_MANY_ARGS:=M g_MANY_ARGS,
      t_MOST_SIZE:=t_MOST_SIZE,g_MOST_SIZE:=M g_MOST_SIZE,
      t_MOST_STEPS:=t_MOST_STEPS,g_MOST_STEPS:=M g_MOST_STEPS,
      t_MOST_PILE:=t_MOST_PILE,g_MOST_PILE:=M g_MOST_PILE,
      t_MOST_KEPT:=t_MOST_KEPT,g_MOST_KEPT:=M g_MOST_KEPT,
      a_MOST_TOLD:=d_MOST_TOLD,g_MOST_TOLD:=M g_MOST_TOLD,t_MOST_TOLD:=fun h x=>PySem.W.kt_text_in x t_MOST_TOLD,
      a_INSTRUCTIONS:=d_INSTRUCTIONS,g_INSTRUCTIONS:=M g_INSTRUCTIONS,c_INSTRUCTIONS:=y_INSTRUCTIONS,
      a_WAYS:=d_WAYS,g_WAYS:=M g_WAYS,c_WAYS:=y_WAYS,
      a_PieceError:=d_PieceError,g_PieceError:=M g_PieceError,
      a_NoSize:=d_NoSize,g_NoSize:=M g_NoSize,
      a_NoTree:=d_NoTree,g_NoTree:=M g_NoTree,
      a_NoArgs:=d_NoArgs,g_NoArgs:=M g_NoArgs,
      a_NoCode:=d_NoCode,g_NoCode:=M g_NoCode,
      a_NoSteps:=d_NoSteps,g_NoSteps:=M g_NoSteps,
      a_Late:=d_Late,g_Late:=M g_Late,
      a_NoPiece:=d_NoPiece,g_NoPiece:=M g_NoPiece,
      a_NoSet:=d_NoSet,g_NoSet:=M g_NoSet,
      a_NoCover:=d_NoCover,g_NoCover:=M g_NoCover,
      a_NoParts:=d_NoParts,g_NoParts:=M g_NoParts,
      a_NoName:=d_NoName,g_NoName:=M g_NoName,
      a_Taken:=d_Taken,g_Taken:=M g_Taken,
      a_Fault:=d_Fault,g_Fault:=M g_Fault,
      a_Broken:=d_Broken,g_Broken:=M g_Broken,
      i_Fault:=ii_Fault,di_Fault:=PySem.W.fnOf "__init__" "Fault.__init__" (defArgs s_Fault__init) (defBody s_Fault__init) (defScope s_Fault__init) .none ikV_Fault idc_Fault ipm_Fault ian_Fault icd_Fault ict_Fault,fi_Fault:=fun_mk (st:=s_Fault__init) il_Fault ic_Fault ik_Fault,c_Fault:=ix_Fault,so_Fault:=is_Fault,
      x_Fault:=x_Fault,
      r_NoSize:=r_NoSize,x_NoSize:=x_NoSize,
      r_NoArgs:=r_NoArgs,x_NoArgs:=x_NoArgs,
      r_NoCode:=r_NoCode,x_NoCode:=x_NoCode,
      r_NoSteps:=r_NoSteps,x_NoSteps:=x_NoSteps,
      r_Late:=r_Late,x_Late:=x_Late,
      e_NoSize_PieceError:=e_NoSize_PieceError,
      e_NoArgs_PieceError:=e_NoArgs_PieceError,
      e_NoCode_PieceError:=e_NoCode_PieceError,
      e_NoSteps_PieceError:=e_NoSteps_PieceError,
      e_Late_PieceError:=e_Late_PieceError,
      e_Fault_PieceError:=e_Fault_PieceError,
      e_Fault_Fault:=e_Fault_Fault,
      k_NoSize_NoSize:=k_NoSize_NoSize,
      k_NoSize_NoTree:=k_NoSize_NoTree,
      k_NoSize_NoArgs:=k_NoSize_NoArgs,
      k_NoSize_NoCode:=k_NoSize_NoCode,
      k_NoSize_NoSteps:=k_NoSize_NoSteps,
      k_NoSize_Late:=k_NoSize_Late,
      k_NoSize_NoPiece:=k_NoSize_NoPiece,
      k_NoSize_NoSet:=k_NoSize_NoSet,
      k_NoSize_NoCover:=k_NoSize_NoCover,
      k_NoSize_NoParts:=k_NoSize_NoParts,
      k_NoSize_NoName:=k_NoSize_NoName,
      k_NoSize_Taken:=k_NoSize_Taken,
      k_NoSize_Fault:=k_NoSize_Fault,
      k_NoSize_Broken:=k_NoSize_Broken,
      k_NoArgs_NoSize:=k_NoArgs_NoSize,
      k_NoArgs_NoTree:=k_NoArgs_NoTree,
      k_NoArgs_NoArgs:=k_NoArgs_NoArgs,
      k_NoArgs_NoCode:=k_NoArgs_NoCode,
      k_NoArgs_NoSteps:=k_NoArgs_NoSteps,
      k_NoArgs_Late:=k_NoArgs_Late,
      k_NoArgs_NoPiece:=k_NoArgs_NoPiece,
      k_NoArgs_NoSet:=k_NoArgs_NoSet,
      k_NoArgs_NoCover:=k_NoArgs_NoCover,
      k_NoArgs_NoParts:=k_NoArgs_NoParts,
      k_NoArgs_NoName:=k_NoArgs_NoName,
      k_NoArgs_Taken:=k_NoArgs_Taken,
      k_NoArgs_Fault:=k_NoArgs_Fault,
      k_NoArgs_Broken:=k_NoArgs_Broken,
      k_NoCode_NoSize:=k_NoCode_NoSize,
      k_NoCode_NoTree:=k_NoCode_NoTree,
      k_NoCode_NoArgs:=k_NoCode_NoArgs,
      k_NoCode_NoCode:=k_NoCode_NoCode,
      k_NoCode_NoSteps:=k_NoCode_NoSteps,
      k_NoCode_Late:=k_NoCode_Late,
      k_NoCode_NoPiece:=k_NoCode_NoPiece,
      k_NoCode_NoSet:=k_NoCode_NoSet,
      k_NoCode_NoCover:=k_NoCode_NoCover,
      k_NoCode_NoParts:=k_NoCode_NoParts,
      k_NoCode_NoName:=k_NoCode_NoName,
      k_NoCode_Taken:=k_NoCode_Taken,
      k_NoCode_Fault:=k_NoCode_Fault,
      k_NoCode_Broken:=k_NoCode_Broken,
      k_NoSteps_NoSize:=k_NoSteps_NoSize,
      k_NoSteps_NoTree:=k_NoSteps_NoTree,
      k_NoSteps_NoArgs:=k_NoSteps_NoArgs,
      k_NoSteps_NoCode:=k_NoSteps_NoCode,
      k_NoSteps_NoSteps:=k_NoSteps_NoSteps,
      k_NoSteps_Late:=k_NoSteps_Late,
      k_NoSteps_NoPiece:=k_NoSteps_NoPiece,
      k_NoSteps_NoSet:=k_NoSteps_NoSet,
      k_NoSteps_NoCover:=k_NoSteps_NoCover,
      k_NoSteps_NoParts:=k_NoSteps_NoParts,
      k_NoSteps_NoName:=k_NoSteps_NoName,
      k_NoSteps_Taken:=k_NoSteps_Taken,
      k_NoSteps_Fault:=k_NoSteps_Fault,
      k_NoSteps_Broken:=k_NoSteps_Broken,
      k_Late_NoSize:=k_Late_NoSize,
      k_Late_NoTree:=k_Late_NoTree,
      k_Late_NoArgs:=k_Late_NoArgs,
      k_Late_NoCode:=k_Late_NoCode,
      k_Late_NoSteps:=k_Late_NoSteps,
      k_Late_Late:=k_Late_Late,
      k_Late_NoPiece:=k_Late_NoPiece,
      k_Late_NoSet:=k_Late_NoSet,
      k_Late_NoCover:=k_Late_NoCover,
      k_Late_NoParts:=k_Late_NoParts,
      k_Late_NoName:=k_Late_NoName,
      k_Late_Taken:=k_Late_Taken,
      k_Late_Fault:=k_Late_Fault,
      k_Late_Broken:=k_Late_Broken,
      k_Fault_NoSize:=k_Fault_NoSize,
      k_Fault_NoTree:=k_Fault_NoTree,
      k_Fault_NoArgs:=k_Fault_NoArgs,
      k_Fault_NoCode:=k_Fault_NoCode,
      k_Fault_NoSteps:=k_Fault_NoSteps,
      k_Fault_Late:=k_Fault_Late,
      k_Fault_NoPiece:=k_Fault_NoPiece,
      k_Fault_NoSet:=k_Fault_NoSet,
      k_Fault_NoCover:=k_Fault_NoCover,
      k_Fault_NoParts:=k_Fault_NoParts,
      k_Fault_NoName:=k_Fault_NoName,
      k_Fault_Taken:=k_Fault_Taken,
      k_Fault_Fault:=k_Fault_Fault,
      k_Fault_Broken:=k_Fault_Broken,
      k_NoSize_ValueError:=k_NoSize_ValueError,
      k_NoArgs_ValueError:=k_NoArgs_ValueError,
      k_NoCode_ValueError:=k_NoCode_ValueError,
      k_NoSteps_ValueError:=k_NoSteps_ValueError,
      k_Late_ValueError:=k_Late_ValueError,
      k_Fault_ValueError:=k_Fault_ValueError,
      n_len:=N z_len,
      n_isinstance:=N z_isinstance,
      n_int:=N z_int,
      n_bool:=N z_bool,
      n_list:=N z_list,
      n_tuple:=N z_tuple,
      n_range:=N z_range,
      n_all:=N z_all,
      n_reversed:=N z_reversed,
      n_ValueError:=N z_ValueError }
  exact ⟨_,fun s v=>.of_eq rfl,fun base _ _=>chain T⟩
theorem walk {l:PySem.W.OpenLaw} {q:Program} {loose:List Str} {XP:(Str→Option Value)→Heap→Prop} {YP:World→Heap→Prop} {d:DefRec} {K:Params→PySem.W.Frag} (hn:l.most = some 63) (hdf:d.params.defaults = [])
    (hY:∀ (w:World) (h:Heap),YP w h→(K w.params).In h)
    (F:∀ (w:World) (mg:Str→Option Value) (fa:Addr) (h:Heap),(K w.params).In h→h.Ns mainGlobals mg→mg d.name = some (.ref fa) →
      ∃ fd:FuncData,(∀ (s:Shared) (u:Value),BindsTo s fd ⟨[u],[]⟩ [("_law_script",u)])∧∀ base:Heap,(K w.params).In base→base.Ns mainGlobals mg→FnOk l.prog w (K w.params) mg base CX0 8 fa fd ["_law_script"] (spLaw (K w.params))) :
    PySem.W.WalkO q loose XP YP l.row.toRowW d [] (fun f vs=>PySem.call f vs) :=
  L2.walk_of (n:=63) (k:=8) (x:="_law_script") (CX:=fun _=>CX0) (sp:=fun w=>spLaw (K w.params)) hn (by decide) hdf ⟨rfl,by decide,by decide⟩ hY F (fun _ _ a ns hl hO hS=>⟨a,ns,rfl,scr_of hO hS,fun _=>rfl⟩) fun _ _ _ _ _ z=>z
end My
open PySem PySem.W PyProof.Rows
set_option maxRecDepth 100000 in
set_option maxHeartbeats 0 in
theorem PySem.Challenge.cw_piecelay_k08_machine_refused_holds : PySem.Challenge.rw_piecelay_k08_machine_refused.Holds := by
  w_on; o_law
  refine holds_open (q:=My.view) (loose:=My.loose) (Xt:=My.xt) (XP:=XL My.view []) (Yf:=Hook.obs (kHook My.k0.heap_1 My.kas My.kas_ok)) (Ya:=Hook.val (kHook My.k0.heap_1 My.kas My.kas_ok)) (YP:=Hook.says (kHook My.k0.heap_1 My.kas My.kas_ok)) (N:=My.NN) My.left (Hook.of (kHook My.k0.heap_1 My.kas My.kas_ok)) (Hook.keeps (kHook My.k0.heap_1 My.kas My.kas_ok)) (fun s e=>xl_of s (Bool.and_eq_true_iff.mp e).1) XL.keeps (by rfl) (by rfl) (by rfl) (fun s e=>recFacts_of (Bool.and_eq_true_iff.mp e).2) (by rfl) (by first | assumption | decide +kernel) (by decide +kernel) ⟨rfl,rfl,rfl,rfl,rfl,by decide +kernel⟩ ?hw ?hc
  case hw=>w_witness2
  k_fill
  refine My.walk (l:=PySem.Challenge.rw_piecelay_k08_machine_refused) rfl rfl (fun w h Y=>PySem.W.kIn_of Y) ?F
  case F =>
    intro w mg fa h KX G hmg
    refine' My.all_mk KX G hmg ?a1 ?l1 ?c1 ?k1 ?a2 ?l2 ?c2 ?k2 ?a3 ?l3 ?c3 ?k3 ?a4 ?l4 ?c4 ?k4 ?a5 ?l5 ?c5 ?k5 ?a6 ?l6 ?c6 ?k6 ?a7 ?l7 ?c7 ?k7 ?a8 ?l8 ?c8 ?k8 ?a9 ?l9 ?c9 ?k9 ?a10 ?l10 ?c10 ?k10 ?a11 ?l11 ?c11 ?k11 ?a12 ?l12 ?c12 ?k12 ?a13 ?l13 ?c13 ?k13 ?a14 ?l14 ?c14 ?k14 ?a15 ?l15 ?c15 ?k15 ?a16 ?l16 ?c16 ?k16 ?a17 ?l17 ?c17 ?k17 ?e2 ?g_Machine ?if_Machine___init__ ?il_Machine___init__ ?ic_Machine___init__ ?ik_Machine___init__ ?ij_Machine___init__ ?im_Machine ?io_Machine ?if_Machine_take ?il_Machine_take ?ic_Machine_take ?ik_Machine_take ?ij_Machine_take ?if_Machine_push ?il_Machine_push ?ic_Machine_push ?ik_Machine_push ?ij_Machine_push ?if_Machine_way ?il_Machine_way ?ic_Machine_way ?ik_Machine_way ?ij_Machine_way ?if_Machine_finish ?il_Machine_finish ?ic_Machine_finish ?ik_Machine_finish ?ij_Machine_finish ?if_Machine_change ?il_Machine_change ?ic_Machine_change ?ik_Machine_change ?ij_Machine_change ?if_Machine_step ?il_Machine_step ?ic_Machine_step ?ik_Machine_step ?ij_Machine_step ?cl_Machine ?na_cells ?na_given ?na_size ?na_pile ?na_place ?na_kept ?na_ended ?g_MOST_CELLS ?g_MOST_CELL ?g_MANY_ARGS ?g_MOST_SIZE ?g_MOST_STEPS ?g_MOST_PILE ?g_MOST_KEPT ?g_MOST_TOLD ?t_MOST_TOLD ?g_INSTRUCTIONS ?y_INSTRUCTIONS ?g_WAYS ?y_WAYS ?g_PieceError ?g_NoSize ?g_NoTree ?g_NoArgs ?g_NoCode ?g_NoSteps ?g_Late ?g_NoPiece ?g_NoSet ?g_NoCover ?g_NoParts ?g_NoName ?g_Taken ?g_Fault ?g_Broken ?if_Fault ?il_Fault ?ic_Fault ?ik_Fault ?ix_Fault ?is_Fault ?x_Fault ?r_NoSize ?x_NoSize ?r_NoArgs ?x_NoArgs ?r_NoCode ?x_NoCode ?r_NoSteps ?x_NoSteps ?r_Late ?x_Late ?e_NoSize_PieceError ?e_NoArgs_PieceError ?e_NoCode_PieceError ?e_NoSteps_PieceError ?e_Late_PieceError ?e_Fault_PieceError ?e_Fault_Fault ?k_NoSize_NoSize ?k_NoSize_NoTree ?k_NoSize_NoArgs ?k_NoSize_NoCode ?k_NoSize_NoSteps ?k_NoSize_Late ?k_NoSize_NoPiece ?k_NoSize_NoSet ?k_NoSize_NoCover ?k_NoSize_NoParts ?k_NoSize_NoName ?k_NoSize_Taken ?k_NoSize_Fault ?k_NoSize_Broken ?k_NoArgs_NoSize ?k_NoArgs_NoTree ?k_NoArgs_NoArgs ?k_NoArgs_NoCode ?k_NoArgs_NoSteps ?k_NoArgs_Late ?k_NoArgs_NoPiece ?k_NoArgs_NoSet ?k_NoArgs_NoCover ?k_NoArgs_NoParts ?k_NoArgs_NoName ?k_NoArgs_Taken ?k_NoArgs_Fault ?k_NoArgs_Broken ?k_NoCode_NoSize ?k_NoCode_NoTree ?k_NoCode_NoArgs ?k_NoCode_NoCode ?k_NoCode_NoSteps ?k_NoCode_Late ?k_NoCode_NoPiece ?k_NoCode_NoSet ?k_NoCode_NoCover ?k_NoCode_NoParts ?k_NoCode_NoName ?k_NoCode_Taken ?k_NoCode_Fault ?k_NoCode_Broken ?k_NoSteps_NoSize ?k_NoSteps_NoTree ?k_NoSteps_NoArgs ?k_NoSteps_NoCode ?k_NoSteps_NoSteps ?k_NoSteps_Late ?k_NoSteps_NoPiece ?k_NoSteps_NoSet ?k_NoSteps_NoCover ?k_NoSteps_NoParts ?k_NoSteps_NoName ?k_NoSteps_Taken ?k_NoSteps_Fault ?k_NoSteps_Broken ?k_Late_NoSize ?k_Late_NoTree ?k_Late_NoArgs ?k_Late_NoCode ?k_Late_NoSteps ?k_Late_Late ?k_Late_NoPiece ?k_Late_NoSet ?k_Late_NoCover ?k_Late_NoParts ?k_Late_NoName ?k_Late_Taken ?k_Late_Fault ?k_Late_Broken ?k_Fault_NoSize ?k_Fault_NoTree ?k_Fault_NoArgs ?k_Fault_NoCode ?k_Fault_NoSteps ?k_Fault_Late ?k_Fault_NoPiece ?k_Fault_NoSet ?k_Fault_NoCover ?k_Fault_NoParts ?k_Fault_NoName ?k_Fault_Taken ?k_Fault_Fault ?k_Fault_Broken ?k_NoSize_ValueError ?k_NoArgs_ValueError ?k_NoCode_ValueError ?k_NoSteps_ValueError ?k_Late_ValueError ?k_Fault_ValueError ?z_len ?z_isinstance ?z_int ?z_bool ?z_list ?z_tuple ?z_range ?z_all ?z_reversed ?z_ValueError
    case a1 | a2 | a3 | a4 | a5 | a6 | a7 | a8 | a9 | a10 | a11 | a12 | a13 | a14 | a15 | a16 | a17=>change _ = _; k_is
    case l1 | l2 | l3 | l4 | l5 | l6 | l7 | l8 | l9 | l10 | l11 | l12 | l13 | l14 | l15 | l16 | l17=>change _ = _; k_is
    case c1 | c2 | c3 | c4 | c5 | c6 | c7 | c8 | c9 | c10 | c11 | c12 | c13 | c14 | c15 | c16 | c17 | k1 | k2 | k3 | k4 | k5 | k6 | k7 | k8 | k9 | k10 | k11 | k12 | k13 | k14 | k15 | k16 | k17=>k_is
    case e2 | g_Machine | if_Machine___init__ | il_Machine___init__ | ic_Machine___init__ | ik_Machine___init__ | if_Machine_take | il_Machine_take | ic_Machine_take | ik_Machine_take | if_Machine_push | il_Machine_push | ic_Machine_push | ik_Machine_push | if_Machine_way | il_Machine_way | ic_Machine_way | ik_Machine_way | if_Machine_finish | il_Machine_finish | ic_Machine_finish | ik_Machine_finish | if_Machine_change | il_Machine_change | ic_Machine_change | ik_Machine_change | if_Machine_step | il_Machine_step | ic_Machine_step | ik_Machine_step | g_MOST_CELLS | g_MOST_CELL | g_MANY_ARGS | g_MOST_SIZE | g_MOST_STEPS | g_MOST_PILE | g_MOST_KEPT | g_MOST_TOLD | g_INSTRUCTIONS | g_WAYS | g_PieceError | g_NoSize | g_NoTree | g_NoArgs | g_NoCode | g_NoSteps | g_Late | g_NoPiece | g_NoSet | g_NoCover | g_NoParts | g_NoName | g_Taken | g_Fault | g_Broken | if_Fault | il_Fault | ic_Fault | ik_Fault | z_len | z_isinstance | z_int | z_bool | z_list | z_tuple | z_range | z_all | z_reversed | z_ValueError=>k_is
    case ij_Machine___init__ | im_Machine | io_Machine | ij_Machine_take | ij_Machine_push | ij_Machine_way | ij_Machine_finish | ij_Machine_change | ij_Machine_step | na_cells | na_given | na_size | na_pile | na_place | na_kept | na_ended | r_NoSize | r_NoArgs | r_NoCode | r_NoSteps | r_Late | e_NoSize_PieceError | e_NoArgs_PieceError | e_NoCode_PieceError | e_NoSteps_PieceError | e_Late_PieceError | e_Fault_PieceError | e_Fault_Fault | k_NoSize_NoSize | k_NoSize_NoTree | k_NoSize_NoArgs | k_NoSize_NoCode | k_NoSize_NoSteps | k_NoSize_Late | k_NoSize_NoPiece | k_NoSize_NoSet | k_NoSize_NoCover | k_NoSize_NoParts | k_NoSize_NoName | k_NoSize_Taken | k_NoSize_Fault | k_NoSize_Broken | k_NoArgs_NoSize | k_NoArgs_NoTree | k_NoArgs_NoArgs | k_NoArgs_NoCode | k_NoArgs_NoSteps | k_NoArgs_Late | k_NoArgs_NoPiece | k_NoArgs_NoSet | k_NoArgs_NoCover | k_NoArgs_NoParts | k_NoArgs_NoName | k_NoArgs_Taken | k_NoArgs_Fault | k_NoArgs_Broken | k_NoCode_NoSize | k_NoCode_NoTree | k_NoCode_NoArgs | k_NoCode_NoCode | k_NoCode_NoSteps | k_NoCode_Late | k_NoCode_NoPiece | k_NoCode_NoSet | k_NoCode_NoCover | k_NoCode_NoParts | k_NoCode_NoName | k_NoCode_Taken | k_NoCode_Fault | k_NoCode_Broken | k_NoSteps_NoSize | k_NoSteps_NoTree | k_NoSteps_NoArgs | k_NoSteps_NoCode | k_NoSteps_NoSteps | k_NoSteps_Late | k_NoSteps_NoPiece | k_NoSteps_NoSet | k_NoSteps_NoCover | k_NoSteps_NoParts | k_NoSteps_NoName | k_NoSteps_Taken | k_NoSteps_Fault | k_NoSteps_Broken | k_Late_NoSize | k_Late_NoTree | k_Late_NoArgs | k_Late_NoCode | k_Late_NoSteps | k_Late_Late | k_Late_NoPiece | k_Late_NoSet | k_Late_NoCover | k_Late_NoParts | k_Late_NoName | k_Late_Taken | k_Late_Fault | k_Late_Broken | k_Fault_NoSize | k_Fault_NoTree | k_Fault_NoArgs | k_Fault_NoCode | k_Fault_NoSteps | k_Fault_Late | k_Fault_NoPiece | k_Fault_NoSet | k_Fault_NoCover | k_Fault_NoParts | k_Fault_NoName | k_Fault_Taken | k_Fault_Fault | k_Fault_Broken | k_NoSize_ValueError | k_NoArgs_ValueError | k_NoCode_ValueError | k_NoSteps_ValueError | k_Late_ValueError | k_Fault_ValueError=>first | rfl | kernel_rfl | decide +kernel
    case cl_Machine | ix_Fault=>refine ⟨?_,?_,?_,?_⟩ <;> (first | rfl | kernel_rfl | decide +kernel)
    case t_MOST_TOLD | y_INSTRUCTIONS | y_WAYS=>first | rfl | decide +kernel
    case is_Fault=>refine ⟨?_,?_,?_,?_,?_⟩ <;> (first | rfl | kernel_rfl | decide +kernel)
    case x_Fault | x_NoSize | x_NoArgs | x_NoCode | x_NoSteps | x_Late=>refine ⟨?_,?_,?_,?_,?_,?_,?_,?_⟩ <;> (first | rfl | kernel_rfl | decide +kernel)
