import PyProof.Rows.All
import Wide.All
import OpenK.AllK
import Wide.FinOn
import Lean
import PyProof.EqAt
import PyProof.EqKinds
import PyProof.TupleCall
import PyProof.NeKinds
import KE.KTab
import KE.KTops
import PyProof.FString5
import PyProof.ListRange
import KE.KRevIter
import PyProof.Rows.SumAny
import PyProof.Rows.SetFrom
import KE.KRevSl
import KE.KTryMore
import PyProof.ExcAttrAll.ValueError
import PyProof.Rows.CountFlat
import PyProof.ExcInit
import PyProof.InstStoreFacts
import PyProof.Draws
import PyProof.EnumMake
import PyProof.ZipIter
import PyProof.WalkInts
import PyProof.Rows.MinMaxN
import PySem.Challenge.RW_piecelay_k13_whole_least
set_option Elab.async false
set_option linter.all false
set_option maxRecDepth 100000
set_option maxHeartbeats 4000000
section
namespace L2
open PySem PySem.Spec PyProof.Rows
abbrev Key:=Sum Int Str
def nF:Key→Value→Bool
  | .inl k,v=>Value.isInt k v
  | .inr x,v=>Value.isStrOf x v
def CN (w:World):Key→Int
  | .inl k=>hashInt k
  | .inr x=>hashStr w x
theorem cI:∀ {k:Key} {v:Value},nF k v = true→(∃ i t,k = Sum.inl i∧v = Value.int i t)∨(∃ x t,k = Sum.inr x∧v = Value.str x t)
  | .inl i,v,h=>by
    obtain ⟨t,e⟩:=Value.isInt_shape (k:=i) (v:=v) h
    exact .inl ⟨i,t,rfl,e⟩
  | .inr x,v,h=>by
    obtain ⟨t,e⟩:=Value.isStrOf_shape (x:=x) (v:=v) h
    exact .inr ⟨x,t,rfl,e⟩
theorem uF (i:Int) (t:Tok):nF (.inl i) (.int i t) = true:=by simp [nF,Value.isInt]
theorem uG (x:Str) (t:Tok):nF (.inr x) (.str x t) = true:=by simp [nF,Value.isStrOf]
theorem A3 (a b:Int):decide ((Sum.inl a:Key) = Sum.inl b) = (a == b):=by
  by_cases e:a = b
  · subst e; simp
  · have h:¬ (Sum.inl a:Key) = Sum.inl b:=fun q=>e (Sum.inl.inj q)
    rw [decide_eq_false h]
    exact (beq_eq_false_iff_ne.mpr e).symm
theorem A6 (a b:Str):decide ((Sum.inr a:Key) = Sum.inr b) = decide (a = b):=by
  by_cases e:a = b
  · subst e; simp
  · have h:¬ (Sum.inr a:Key) = Sum.inr b:=fun q=>e (Sum.inr.inj q)
    rw [decide_eq_false h,decide_eq_false e]
theorem A4 (a:Int) (b:Str):decide ((Sum.inl a:Key) = Sum.inr b) = false:=decide_eq_false (fun q=>nomatch q)
theorem A5 (a:Str) (b:Int):decide ((Sum.inr a:Key) = Sum.inl b) = false:=decide_eq_false (fun q=>nomatch q)
def dm (prog:Program) (w:World):PySem.KeyKind prog w Key where
  is:=nF
  hash:=CN w
  inj:=fun v a b ha hb=>by
    rcases cI ha with ⟨i,t,rfl,rfl⟩ | ⟨x,t,rfl,rfl⟩
    · rcases cI hb with ⟨j,u,rfl,e⟩ | ⟨y,u,rfl,e⟩
      · injection e with e1 _; rw [e1]
      · exact nomatch e
    · rcases cI hb with ⟨j,u,rfl,e⟩ | ⟨y,u,rfl,e⟩
      · exact nomatch e
      · injection e with e1 _; rw [e1]
  byValue:=fun k v h=>by
    rcases cI h with ⟨i,t,rfl,rfl⟩ | ⟨x,t,rfl,rfl⟩ <;> rfl
  pyHash:=fun hv h=>by
    rcases cI hv with ⟨i,t,rfl,rfl⟩ | ⟨x,t,rfl,rfl⟩
    · exact wpAny_pyHash_int h
    · exact wpAny_pyHash_str h
  eqBool:=fun hu hv h=>by
    rcases cI hu with ⟨i,t,rfl,rfl⟩ | ⟨x,t,rfl,rfl⟩
    · rcases cI hv with ⟨j,u,rfl,rfl⟩ | ⟨y,u,rfl,rfl⟩
      · rw [A3] at h; exact wpAny_eqBool_int h
      · rw [A4] at h; exact SeqAt.EqAt.int_str i t y u _ _ _ _ h
    · rcases cI hv with ⟨j,u,rfl,rfl⟩ | ⟨y,u,rfl,rfl⟩
      · rw [A5] at h; exact SeqAt.EqAt.str_int x t j u _ _ _ _ h
      · rw [A6] at h; exact wpAny_eqBool_str h
  «strs»:=fun k x t v h=>by
    rcases cI h with ⟨i,u,rfl,e⟩ | ⟨y,u,rfl,e⟩
    · exact nomatch e
    · injection e with e1 _
      subst e1
      cases v <;> rfl
theorem qD (prog:Program) (w:World) (i:Int) (t:Tok):(dm prog w).is (.inl i) (.int i t) = true:=uF i t
theorem qE (prog:Program) (w:World) (x:Str) (t:Tok):(dm prog w).is (.inr x) (.str x t) = true:=uG x t
end L2
namespace L2
open PySem PySem.Spec PyProof.Rows
inductive V where
  | non | bl (b:Bool) | int (i:Int) | str (x:Str) | byt (b:Array UInt8) | flt (b:UInt64) | ref (a:Addr) | ty (n:String)
  deriving DecidableEq
def RelV:V→Value→Prop
  | .non,u=>u = Value.none
  | .bl b,u=>u = Value.bool b
  | .int i,u=>∃ t,u = Value.int i t
  | .str x,u=>∃ t,u = Value.str x t
  | .byt b,u=>∃ t,u = Value.bytes b t
  | .flt b,u=>∃ t,u = Value.float b t
  | .ref a,u=>u = Value.ref a
  | .ty n,u=>u = Value.type n
abbrev Vals:List V→List Value→Prop:=Paired RelV
theorem Vals.length {xs:List V} {us:List Value} (r:Vals xs us):xs.length = us.length:=Paired.length r
theorem Vals.get:∀ {xs:List V} {us:List Value} {i:Nat} {x:V},Vals xs us→xs[i]? = some x→∃ u,us[i]? = some u∧RelV x u
  | _,_,_,_,.nil,e=>by simp at e
  | _,_,0,_,.cons r _,e=>by simp at e; subst e; exact ⟨_,rfl,r⟩
  | _,_,i + 1,x,.cons _ t,e=>by
    obtain ⟨u,h1,h2⟩:=Vals.get (i:=i) (x:=x) t (by simpa using e)
    exact ⟨u,by simpa using h1,h2⟩
theorem Vals.set {x:V} {u:Value} (r:RelV x u):∀ {xs:List V} {us:List Value} (i:Nat),Vals xs us→Vals (xs.set i x) (us.set i u)
  | _,_,_,.nil=>.nil
  | _,_,0,.cons _ t=>.cons r t
  | _,_,i + 1,.cons q t=>.cons q (Vals.set r i t)
theorem Vals.append:∀ {xs ys:List V} {us ws:List Value},Vals xs us→Vals ys ws→Vals (xs ++ ys) (us ++ ws)
  | _,_,_,_,.nil,s=>s
  | _,_,_,_,.cons r t,s=>.cons r (Vals.append t s)
theorem Vals.take:∀ {xs:List V} {us:List Value} (n:Nat),Vals xs us→Vals (xs.take n) (us.take n)
  | _,_,0,_=>.nil
  | _,_,_ + 1,.nil=>.nil
  | _,_,n + 1,.cons r t=>.cons r (Vals.take n t)
theorem Vals.drop:∀ {xs:List V} {us:List Value} (n:Nat),Vals xs us→Vals (xs.drop n) (us.drop n)
  | _,_,0,r=>r
  | _,_,_ + 1,.nil=>.nil
  | _,_,n + 1,.cons _ t=>Vals.drop n t
def RelO:Option V→Option Value→Prop
  | some v,some u=>RelV v u
  | none,none=>True
  | _,_=>False
def KV {κ:Type}:List (κ × V)→List (κ × Value)→Prop:=Paired fun (p:κ × V) (q:κ × Value)=>p.1 = q.1∧RelV p.2 q.2
def kV:Key→V
  | .inl i=>.int i
  | .inr x=>.str x
inductive HO where
  | lst (xs:List V)
  | tup (xs:List V)
  | dK (kvs:List (Key × V)) | dT (kvs:List (List Key × V))
  | set (S:Int→Bool) (n:Nat)
  | ins (C dx:Addr) (fs:List (Str × V))
  | own (x:Addr)
  | xd (fs:List (Str × V))
  | met (f x:Addr)
  | rng (lo hi:Int)
  | frz (o:Obj) (u:HO)
  | tbl (ps:Array Value)
  | ext (φ:Heap→Prop)
abbrev Hp:=Addr→Option HO
def upd (H:Hp) (a:Addr) (o:HO):Hp:=fun b=>if b = a then some o else H b
theorem aq {H:Hp} {a:Addr} {o:HO}:upd H a o a = some o:=by unfold upd; rw [if_pos rfl]
theorem aB {H:Hp} {a b:Addr} {o:HO} (h:b ≠ a):upd H a o b = H b:=by unfold upd; rw [if_neg h]
theorem av {H:Hp} {a b:Addr} {o:HO} (h:H a = some o) (h':H b = none):a ≠ b:=by
  intro e; subst e; rw [h] at h'; cases h'
section
variable (P:Program) (w:World)
def ObjOk (H:Hp) (h:Heap) (a:Addr):HO→Prop
  | .lst xs=>xs.length ≤ sizeLine∧∃ (its:List Value) (n:Nat),Vals xs its∧h.get? a = some { cls:=.type "list",data:=.seq its.toArray n }
  | .tup xs=>xs.length ≤ sizeLine∧∃ its:List Value,Vals xs its∧IsTup h a its.toArray
  | .dK kvs=>kvs.length ≤ sizeLine∧(a == sysModules) = false∧∃ vs,KV kvs vs∧h.DictOf (dm P w) a vs
  | .dT kvs=>kvs.length ≤ sizeLine∧(a == sysModules) = false∧∃ xs:List (List Key × Addr × Value),
      Paired (fun (p:List Key × V) (q:List Key × Addr × Value)=>p.1 = q.1∧H q.2.1 = some (.tup (p.1.map kV))∧RelV p.2 q.2.2) kvs xs ∧
      ∃ o es ep,h.get? a = some o∧o.ExactDict∧o.data = .dict es ep∧es.toList = xs.map (entryOfKey (tupleKind (dm P w)))∧(xs.map (·.1)).Nodup
  | .set S n=>h.SetOf (intKind P w) a S n
  | .ins C dx fs=>H dx = some (.own a)∧fs.length ≤ 1000∧dx ≠ a∧h.get? a = some (PySem.W.instObj C dx) ∧
      ∃ mA,h.Ns1 dx mA∧(∀ f,RelO (fs.lookup f) (mA f))∧PySem.Within mA (fs.map (·.1))
  | .own _=>∃ o,h.get? a = some o
  | .xd fs=>∃ mA,h.Ns1 a mA∧∀ f,RelO (fs.lookup f) (mA f)
  | .rng lo hi=>∃ t u v,h.get? a = some { cls:=.type "range",data:=.fields #[.int lo t,.int hi u,.int 1 v] }
  | .frz o u=>h.get? a = some o∧ObjOk H h a u
  | .tbl ps=>h.get? a = some { cls:=.none,data:=.fields ps }
  | .met f x=>h.get? a = some (PySem.W.methodObj (.ref f) (.ref x))
  | .ext φ=>φ h∧(∃ o,h.get? a = some o)∧∀ h1 h2:Heap,φ h1→(∀ o,h1.get? a = some o→h2.get? a = some o)→φ h2
def HOk (H:Hp) (h:Heap):Prop:=∀ a o,H a = some o→ObjOk P w H h a o
end
section
variable {P:Program} {w:World} {H H':Hp} {h h':Heap} {a:Addr} {o:HO}
theorem ObjOk.lt (x:ObjOk P w H h a o):a < h.objs.size:=by
  cases o with
  | lst xs=>obtain ⟨_,_,_,_,e⟩:=x; exact Heap.lt_size e
  | tup xs=>obtain ⟨_,_,_,p⟩:=x; exact p.lt
  | dK kvs=>obtain ⟨_,_,_,_,o,_,_,e,_⟩:=x; exact Heap.lt_size e
  | dT kvs=>obtain ⟨_,_,_,_,o,_,_,e,_⟩:=x; exact Heap.lt_size e
  | set S n=>obtain ⟨o,_,_,_,e,_⟩:=x; exact Heap.lt_size e
  | ins C dx fs=>obtain ⟨_,_,_,e,_⟩:=x; exact Heap.lt_size e
  | own y=>obtain ⟨_,e⟩:=x; exact Heap.lt_size e
  | xd fs=>obtain ⟨_,⟨_,_,_,e,_⟩,_⟩:=x; exact Heap.lt_size e
  | rng lo hi=>obtain ⟨_,_,_,e⟩:=x; exact Heap.lt_size e
  | frz ob u=>obtain ⟨e,_⟩:=x; exact Heap.lt_size e
  | tbl ps=>exact Heap.lt_size (show h.get? a = some _ from x)
  | met f y=>exact Heap.lt_size (show h.get? a = some _ from x)
  | ext φ=>obtain ⟨_,⟨_,e⟩,_⟩:=x; exact Heap.lt_size e
theorem Paired.mapP {α β:Type} {F G:α→β→Prop}:∀ {l₁:List α} {l₂:List β},Paired F l₁ l₂→(∀ a b,F a b→G a b)→Paired G l₁ l₂
  | _,_,.nil,_=>.nil
  | _,_,.cons r t,f=>.cons (f _ _ r) (Paired.mapP t f)
theorem ObjOk.stay (x:ObjOk P w H h a o) (k:∀ b u,(b = a∨H b = some (.own a))→h.get? b = some u→h'.get? b = some u)
    (ho:∀ b,H b = some (.own a)→H' b = some (.own a)) (ht:∀ b xs,H b = some (.tup xs)→H' b = some (.tup xs)):ObjOk P w H' h' a o:=by
  induction o with
  | lst xs=>obtain ⟨z,its,n,r,e⟩:=x; exact ⟨z,its,n,r,k _ _ (.inl rfl) e⟩
  | tup xs=>obtain ⟨z,its,r,ob,e,c⟩:=x; exact ⟨z,its,r,ob,k _ _ (.inl rfl) e,c⟩
  | dK kvs=>obtain ⟨z,y,vs,r,ob,es,ep,e,c⟩:=x; exact ⟨z,y,vs,r,ob,es,ep,k _ _ (.inl rfl) e,c⟩
  | dT kvs =>
    obtain ⟨z,y,xs,r,ob,es,ep,e,c⟩:=x
    exact ⟨z,y,xs,Paired.mapP r fun p q z=>⟨z.1,ht _ _ z.2.1,z.2.2⟩,ob,es,ep,k _ _ (.inl rfl) e,c⟩
  | set S n=>obtain ⟨ob,es,ep,t,e,c⟩:=x; exact ⟨ob,es,ep,t,k _ _ (.inl rfl) e,c⟩
  | ins C dx fs =>
    obtain ⟨d,z,ne,e,mA,⟨od,es,ep,e2,c⟩,r⟩:=x
    exact ⟨ho _ d,z,ne,k _ _ (.inl rfl) e,mA,⟨od,es,ep,k _ _ (.inr d) e2,c⟩,r⟩
  | own y=>obtain ⟨ob,e⟩:=x; exact ⟨ob,k _ _ (.inl rfl) e⟩
  | xd fs=>obtain ⟨mA,⟨od,es,ep,e,c⟩,r⟩:=x; exact ⟨mA,⟨od,es,ep,k _ _ (.inl rfl) e,c⟩,r⟩
  | rng lo hi=>obtain ⟨t,u,v,e⟩:=x; exact ⟨t,u,v,k _ _ (.inl rfl) e⟩
  | frz ob u ih=>obtain ⟨e,q⟩:=x; exact ⟨k _ _ (.inl rfl) e,ih q⟩
  | tbl ps =>
    have e:h.get? a = some { cls:=.none,data:=.fields ps }:=x
    show h'.get? a = some { cls:=.none,data:=.fields ps }
    exact k a _ (.inl rfl) e
  | met f y =>
    have e:h.get? a = some (PySem.W.methodObj (.ref f) (.ref y)):=x
    show h'.get? a = some (PySem.W.methodObj (.ref f) (.ref y))
    exact k a _ (.inl rfl) e
  | ext φ=>obtain ⟨p,⟨o,e⟩,st⟩:=x; exact ⟨st _ _ p fun o q=>k _ _ (.inl rfl) q,⟨o,k _ _ (.inl rfl) e⟩,st⟩
theorem HOk.lt (x:HOk P w H h) (e:H a = some o):a < h.objs.size:=(x a o e).lt
theorem HOk.fresh (x:HOk P w H h) (e:h.objs.size ≤ a):H a = none:=by
  cases q:H a with
  | none=>rfl
  | some u=>exact absurd (Nat.lt_of_lt_of_le (x.lt q) e) (Nat.lt_irrefl _)
theorem HOk.kept (x:HOk P w H h) (k:∀ b u,h.get? b = some u→h'.get? b = some u):HOk P w H h':=fun a o e =>
  (x a o e).stay (fun b u _ q=>k b u q) (fun _ q=>q) fun _ _ q=>q
theorem HOk.laid (x:HOk P w H h) (k:∀ b u,h.get? b = some u→h'.get? b = some u) (hp:h.objs.size ≤ a) (new:ObjOk P w (upd H a o) h' a o):HOk P w (upd H a o) h':=fun b u e=>by
  have hn:=x.fresh hp
  by_cases hb:b = a
  · subst hb; rw [aq] at e; cases e; exact new
  · rw [aB hb] at e
    exact (x b u e).stay (fun c v _ q=>k c v q) (fun c q=>by rw [aB (av q hn)]; exact q) fun c xs q=>by rw [aB (av q hn)]; exact q
end
def Rd (H:Hp) (a:Addr) (u:HO):Prop:=H a = some u∨∃ o,H a = some (.frz o u)
theorem Rd.ok {P:Program} {w:World} {H:Hp} {h:Heap} {a:Addr} {u:HO} (r:Rd H a u) (x:HOk P w H h):ObjOk P w H h a u:=by
  rcases r with r | ⟨o,r⟩
  · exact x a u r
  · obtain ⟨_,q⟩:=x a _ r
    exact q
def Mut:Option HO→Prop
  | some (.lst _)=>True
  | some (.dK _)=>True
  | some (.dT _)=>True
  | some (.set _ _)=>True
  | some (.ins _ _ _)=>True
  | some (.ext _)=>True
  | _=>False
section
variable {P:Program} {w:World} {H:Hp} {h h':Heap} {x e:Addr} {o':HO}
theorem HOk.write (ok:HOk P w H h) (mu:Mut (H x)) (he:e = x∨H e = some (.own x)) (k:∀ b u,b ≠ e→h.get? b = some u→h'.get? b = some u) (heo:∃ u,h'.get? e = some u)
    (new:ObjOk P w (upd H x o') h' x o'):HOk P w (upd H x o') h':=fun b u q=>by
  have nown:∀ c y,H c = some (.own y)→c ≠ x:=fun c y r z=>by subst z; rw [r] at mu; exact mu
  have ntup:∀ c xs,H c = some (.tup xs)→c ≠ x:=fun c xs r z=>by subst z; rw [r] at mu; exact mu
  by_cases hb:b = x
  · subst hb; rw [aq] at q; cases q; exact new
  · rw [aB hb] at q
    by_cases hbe:b = e
    · have q':H b = some (.own x):=by
        rcases he with z | z
        · exact absurd (hbe.trans z) hb
        · rw [hbe]; exact z
      rw [q] at q'; cases q'
      obtain ⟨v,hv⟩:=heo
      exact ⟨v,by rw [hbe]; exact hv⟩
    · refine (ok b u q).stay (fun c v hc r=>k c v ?_ r) (fun c r=>by rw [aB (nown c b r)]; exact r) fun c xs r=>by rw [aB (ntup c xs r)]; exact r
      rcases hc with rfl | hc
      · exact hbe
      · rintro rfl
        rcases he with z | z
        · exact nown c b hc z
        · rw [hc] at z; cases z; exact hb rfl
end
structure Un (fs ex:List Addr) (H H':Hp) (h h':Heap):Prop where
  keep:∀ b o,h.get? b = some o→H b = none→b ∉ fs→b ∉ ex→h'.get? b = some o
  slot:∀ b o,h.get? b = some o→H b = none→b ∈ fs→b ∉ ex→∃ sl,h'.get? b = some { o with slots:=sl }
  free:∀ b o,h.get? b = some o→H b = none→b ∉ ex→H' b = none
  there:∀ b o,h.get? b = some o→b ∉ ex→∃ o',h'.get? b = some o'
  tups:∀ b xs,H b = some (.tup xs)→H' b = some (.tup xs)
  frzs:∀ b o u,H b = some (.frz o u)→H' b = some (.frz o u)
  tbls:∀ b ps,H b = some (.tbl ps)→∃ more,H' b = some (.tbl (ps ++ more))
section
variable {fs fs' ex ex':List Addr} {H H1 H2:Hp} {h h1 h2 h':Heap} {a x e:Addr} {o:HO}
theorem Un.any (u:Un fs ex H H1 h h1) {b:Addr} {ob:Obj} (q:h.get? b = some ob) (n:H b = none) (hx:b ∉ ex):∃ sl,h1.get? b = some { ob with slots:=sl }:=by
  by_cases hb:b ∈ fs
  · exact u.slot b ob q n hb hx
  · exact ⟨ob.slots,u.keep b ob q n hb hx⟩
theorem Un.kept (k:∀ b u,h.get? b = some u→h'.get? b = some u):Un fs ex H H h h' :=
  ⟨fun b ob q _ _ _=>k b ob q,fun b ob q _ _ _=>⟨ob.slots,k b ob q⟩,fun _ _ _ n _=>n,fun b ob q _=>⟨ob,k b ob q⟩,fun _ _ q=>q,fun _ _ _ q=>q,fun _ ps q=>⟨#[],by rw [q]; simp⟩⟩
theorem Un.refl:Un fs ex H H h h:=Un.kept fun _ _ q=>q
theorem Un.laid (k:∀ b u,h.get? b = some u→h'.get? b = some u) (hp:h.objs.size ≤ a) (hn:H a = none):Un fs ex H (upd H a o) h h' where
  keep:=fun b u q _ _ _=>k b u q
  slot:=fun b u q _ _ _=>⟨u.slots,k b u q⟩
  free:=fun b u q n _=>by rw [aB (Nat.ne_of_lt (Nat.lt_of_lt_of_le (Heap.lt_size q) hp))]; exact n
  there:=fun b u q _=>⟨u,k b u q⟩
  tups:=fun b xs q=>by rw [aB (av q hn)]; exact q
  frzs:=fun b u xs q=>by rw [aB (av q hn)]; exact q
  tbls:=fun b ps q=>⟨#[],by rw [aB (av q hn),q]; simp⟩
theorem Un.write (mu:Mut (H x)) (he:e = x∨H e = some (.own x)) (k:∀ b u,b ≠ e→h.get? b = some u→h'.get? b = some u) (heo:∃ u,h'.get? e = some u):Un fs ex H (upd H x o) h h':=by
  have hx:∀ b,H b = none→b ≠ x:=fun b n z=>by subst z; rw [n] at mu; exact mu
  have hb:∀ b,H b = none→b ≠ e:=fun b n z=>by
    subst z
    rcases he with r | r
    · exact hx b n r
    · rw [n] at r; cases r
  have hm:∀ b u,H b = some u→¬ Mut (some u)→b ≠ x:=fun b u q nm z=>by subst z; rw [q] at mu; exact nm mu
  refine ⟨fun b u q n _ _=>k b u (hb b n) q,fun b u q n _ _=>⟨u.slots,k b u (hb b n) q⟩,fun b u q n _=>by rw [aB (hx b n)]; exact n,fun b u q _=>?_,
    fun b xs q=>by rw [aB (hm b _ q fun z=>z)]; exact q,fun b u xs q=>by rw [aB (hm b _ q fun z=>z)]; exact q,fun b ps q=>⟨#[],by rw [aB (hm b _ q fun z=>z),q]; simp⟩⟩
  by_cases hbe:b = e
  · subst hbe; exact heo
  · exact ⟨u,k b u hbe q⟩
end
def trk (h:Heap) (H:Hp):List Addr:=(List.range h.objs.size).filter fun a=>(H a).isSome
def oC (h:Heap) (H:Hp):Heap:=PySem.W.hideAll h (trk h H)
theorem uD (h:Heap) (H:Hp):(oC h H).objs.size = h.objs.size:=PySem.W.hideAll_size _ _
theorem wI {h:Heap} {H:Hp} {b:Addr} {o:Obj} (e:h.get? b = some o) (n:H b = none):(oC h H).get? b = some o :=
  PySem.W.hideAll_get _ e fun hm=>by
    have q:(H b).isSome = true:=(List.mem_filter.mp hm).2
    rw [n] at q; simp at q
theorem zk {h:Heap} {H:Hp} {b:Addr} {o:Obj} (e:(oC h H).get? b = some o):h.get? b = some o∧H b = none:=by
  have e':h.get? b = some o:=PySem.W.of_hideAll (trk h H) e
  refine ⟨e',?_⟩
  cases q:H b with
  | none=>rfl
  | some x =>
    have hm:b ∈ trk h H:=List.mem_filter.mpr ⟨List.mem_range.mpr (Heap.lt_size e'),by simp [q]⟩
    have z:(oC h H).get? b = none:=PySem.W.hideAll_none (trk h H) hm
    rw [z] at e; cases e
end L2
namespace L2
open PySem PySem.Spec PyProof.Rows
structure Mod (K:PySem.W.Frag) (mg:Str→Option Value) (base:Heap):Prop where
  kin:K.In base
  glob:base.Ns mainGlobals mg
  blt:∃ mb,base.Ns builtinsNs mb∧∀ x:Str,x ≠ "__name__"→mb x = bootBuiltins x
  nolimit:base.NoLimit
structure Cx where
  prog:Program
  w:World
  K:PySem.W.Frag
  mg:Str→Option Value
  base:Heap
  A:Around
  N:List Str
  s₀:Shared
  H₀:Hp
  env:Env
  outer:List Env
  stack:List Env
  ex:List Addr
  fn:Str→Bool
  calm:Bool
  pn:List (Addr × Obj)
  xe:Value→Shared→Prop
def frs (l:List Env):List Addr:=l.filterMap (·.frame)
abbrev Cx.fs (X:Cx):List Addr:=frs X.outer
def Vis (sc:Scope) (x:Str):Prop:=sc.names.lookup x = some .local∨sc.names.lookup x = some .cell∨sc.names.lookup x = some .free
def Loc (sc:Scope) (x:Str):Prop:=sc.names.lookup x = some .local∨sc.names.lookup x = some .cell
def Cs (env:Env) (h:Heap) (m:Str→Option Value) (x:Str) (u:Value):Prop :=
  (env.kindOf x = some .local∧m x = some u)∨((env.kindOf x = some .cell∨env.kindOf x = some .free)∧∃ c,env.cells.lookup x = some c∧h.IsCell c (some u))
structure Cx.Ok (X:Cx):Prop where
  mod:Mod X.K X.mg X.base
  kind:X.env.scope.kind = .function
  glob:X.env.globals = mainGlobals
  blt:X.env.builtins = builtinsNs
  above:X.s₀.heap.objs.size ≤ X.env.locals
  inj:∀ x y c,X.env.cells.lookup x = some c→X.env.cells.lookup y = some c→x = y
  has:∀ x,(X.env.kindOf x = some .cell∨X.env.kindOf x = some .free)→∃ c,X.env.cells.lookup x = some c
  cab:∀ x c,X.fn x = true→X.env.cells.lookup x = some c→X.s₀.heap.objs.size ≤ c
  hd:X.calm = true→X.A.handled = none
  frames:X.A.frames = some X.stack
  stk:X.stack = X.outer∨(X.stack = X.env :: X.outer∧X.env.frame = some X.env.locals)
  exf:∀ b ∈ X.ex,b ≠ X.env.locals∧∀ x c,X.env.cells.lookup x = some c→c ≠ b
  bs:∀ b o,X.base.get? b = some o→X.s₀.heap.get? b = some o∧X.H₀ b = none
  bsz:X.base.objs.size ≤ X.s₀.heap.objs.size
  noex:∀ b o,X.base.get? b = some o→b ∉ X.ex
  exfs:∀ b ∈ X.ex,b ∉ X.fs
  funs:X.s₀.heap.FunFrames X.base X.outer
  frf:∀ b ∈ X.fs,X.H₀ b = none
structure Inv (X:Cx) (pins:List (Addr × Obj)) (σ:List (Option V)) (H:Hp) (s:Shared):Prop where
  ok:X.Ok
  os:s.os = X.s₀.os
  bare:AllBare s.gens
  base:Un X.fs X.ex X.H₀ H X.s₀.heap s.heap
  loc:∃ m,s.heap.Ns X.env.locals m∧∀ (i:Nat) (x:Str) (v:V),X.N[i]? = some x→σ[i]? = some (some v)→Vis X.env.scope x→∃ u,RelV v u∧Cs X.env s.heap m x u
  cell:∀ x c,X.env.cells.lookup x = some c→∃ v,s.heap.IsCell c v
  free:H X.env.locals = none
  freeC:∀ x c,X.env.cells.lookup x = some c→H c = none
  pin:∀ p ∈ X.pn ++ pins,s.heap.get? p.1 = some p.2∧H p.1 = none∧p.1 ≠ X.env.locals∧p.1 ∉ X.fs∧∀ v,p.2.data ≠ .cell v
  hok:HOk X.prog X.w H s.heap
  len:σ.length = X.N.length
section
variable {X:Cx} {pins:List (Addr × Obj)} {σ:List (Option V)} {H H':Hp} {s:Shared} {h':Heap}
theorem Cx.Ok.nofr (ok:X.Ok) {b:Addr} {o:Obj} (e:X.base.get? b = some o):b ∉ X.fs:=fun hb=>by
  have:=(ok.funs.mem hb).1
  rw [e] at this; cases this
theorem Inv.bs (I:Inv X pins σ H s):∀ b o,X.base.get? b = some o→s.heap.get? b = some o∧H b = none:=fun b o e =>
  ⟨I.base.keep b o (I.ok.bs b o e).1 (I.ok.bs b o e).2 (I.ok.nofr e) (I.ok.noex b o e),I.base.free b o (I.ok.bs b o e).1 (I.ok.bs b o e).2 (I.ok.noex b o e)⟩
theorem Inv.bk (I:Inv X pins σ H s):∀ b o,X.base.get? b = some o→s.heap.get? b = some o:=fun b o e=>(I.bs b o e).1
theorem Inv.mod (I:Inv X pins σ H s):Mod X.K X.mg X.base:=I.ok.mod
theorem Inv.kIn (I:Inv X pins σ H s):X.K.In s.heap:=I.ok.mod.kin.keeps I.bk
theorem Inv.lt (I:Inv X pins σ H s):X.env.locals < s.heap.objs.size:=let ⟨_,hn,_⟩:=I.loc; hn.lt
theorem Inv.sz (I:Inv X pins σ H s):X.s₀.heap.objs.size ≤ s.heap.objs.size:=Nat.le_trans I.ok.above (Nat.le_of_lt I.lt)
theorem Inv.nofs (I:Inv X pins σ H s) {a:Addr} (h:s.heap.objs.size ≤ a):a ∉ X.fs:=fun hb=>by
  obtain ⟨_,o,ho,_⟩:=I.ok.funs.mem hb
  exact absurd (Nat.lt_of_lt_of_le (Heap.lt_size ho) (Nat.le_trans I.sz h)) (Nat.lt_irrefl _)
theorem Inv.cne (I:Inv X pins σ H s):∀ x c,X.env.cells.lookup x = some c→c ≠ X.env.locals:=fun x c e z=>by
  obtain ⟨v,o,ho,hd⟩:=I.cell x c e
  obtain ⟨m,⟨o',es,ep,ho',hd',_⟩,_⟩:=I.loc
  rw [z,ho'] at ho; cases ho; rw [hd'] at hd; cases hd
theorem Inv.funs (I:Inv X pins σ H s):s.heap.FunFrames X.base X.outer:=by
  have all:∀ (l:List Env),(∀ b ∈ frs l,b ∈ X.fs)→X.s₀.heap.FunFrames X.base l→s.heap.FunFrames X.base l:=by
    intro l
    induction l with
    | nil=>intro _ _; trivial
    | cons env r ih =>
      intro hs hl
      obtain ⟨hk,⟨L,o,hf,hn,ho,hd⟩,hr⟩:=hl
      have hL:L ∈ X.fs:=hs L (by unfold frs; rw [List.filterMap_cons,hf]; exact List.mem_cons_self)
      obtain ⟨sl,e⟩:=I.base.slot L o ho (I.ok.frf L hL) hL fun z=>I.ok.exfs L z hL
      exact ⟨hk,⟨L,_,hf,hn,e,hd⟩,ih (fun b hb=>hs b (by unfold frs; rw [List.filterMap_cons,hf]; exact List.mem_cons_of_mem _ hb)) hr⟩
  exact all X.outer (fun _ hb=>hb) I.ok.funs
theorem Inv.stack (I:Inv X pins σ H s):s.heap.FunFrames X.base X.stack:=by
  rcases I.ok.stk with e | ⟨e,hf⟩
  · rw [e]; exact I.funs
  · rw [e]
    obtain ⟨m,hn,_⟩:=I.loc
    refine .cons (by rw [I.ok.kind]; decide) hf hn ?_ I.funs
    exact Heap.get?_none_of_le (Nat.le_trans I.ok.bsz I.ok.above)
theorem Inv.stkSub (I:Inv X pins σ H s):∀ b ∈ frs X.stack,b ∈ X.env.locals :: X.fs:=fun b hb=>by
  rcases I.ok.stk with e | ⟨e,hf⟩
  · rw [e] at hb; exact List.mem_cons_of_mem _ hb
  · rw [e] at hb
    unfold frs at hb
    rw [List.filterMap_cons,hf] at hb
    exact hb
theorem Inv.stkFree (I:Inv X pins σ H s):∀ b ∈ frs X.stack,H b = none:=fun b hb=>by
  rcases List.mem_cons.mp (I.stkSub b hb) with e | hb
  · rw [e]; exact I.free
  · obtain ⟨_,o,ho,_⟩:=I.ok.funs.mem hb
    exact I.base.free b o ho (I.ok.frf b hb) fun z=>I.ok.exfs b z hb
theorem Inv.step {g':Array GenState} {t':Nat} {d':Drawn} {ch:List Addr} (I:Inv X pins σ H s)
    (hch:∀ b ∈ ch,(b ∈ X.ex∨X.s₀.heap.objs.size ≤ b)∧b ≠ X.env.locals∧(∀ x c,X.env.cells.lookup x = some c→c ≠ b)∧∀ p ∈ X.pn ++ pins,p.1 ≠ b)
    (keep:∀ b o,b ≠ X.env.locals→b ∉ X.fs→b ∉ ch→s.heap.get? b = some o→H b = none→h'.get? b = some o)
    (slot:∀ b o,b ≠ X.env.locals→b ∈ X.fs→b ∉ ch→s.heap.get? b = some o→H b = none→∃ sl,h'.get? b = some { o with slots:=sl }) (free:∀ b o,b ∉ ch→s.heap.get? b = some o→H b = none→H' b = none)
    (there:∀ b o,b ∉ ch→s.heap.get? b = some o→∃ o',h'.get? b = some o')
    (tups:∀ b xs,H b = some (.tup xs)→H' b = some (.tup xs)) (frzs:∀ b o u,H b = some (.frz o u)→H' b = some (.frz o u)) (tbls:∀ b ps,H b = some (.tbl ps)→∃ more,H' b = some (.tbl (ps ++ more)))
    (ns:∀ m,s.heap.Ns X.env.locals m→h'.Ns X.env.locals m) (hok:HOk X.prog X.w H' h') (hg:AllBare g') :
    Inv X pins σ H' { s with heap:=h',gens:=g',drawn:=d',toks:=t' }:=by
  have neL:∀ b o,X.s₀.heap.get? b = some o→b ≠ X.env.locals:=fun b o e=>Nat.ne_of_lt (Nat.lt_of_lt_of_le (Heap.lt_size e) I.ok.above)
  have neC:∀ b o,X.s₀.heap.get? b = some o→b ∉ X.ex→b ∉ ch:=fun b o e hx hb=>by
    rcases (hch b hb).1 with z | z
    · exact hx z
    · exact absurd (Nat.lt_of_lt_of_le (Heap.lt_size e) z) (Nat.lt_irrefl _)
  have cellK:∀ x c,X.env.cells.lookup x = some c→∀ v,s.heap.IsCell c v→h'.IsCell c v:=fun x c e v ⟨o,ho,hd⟩=>by
    have nch:c ∉ ch:=fun z=>(hch c z).2.2.1 x c e rfl
    by_cases hc:c ∈ X.fs
    · obtain ⟨sl,q⟩:=slot c o (I.cne x c e) hc nch ho (I.freeC x c e)
      exact ⟨_,q,hd⟩
    · exact ⟨o,keep c o (I.cne x c e) hc nch ho (I.freeC x c e),hd⟩
  refine ⟨I.ok,I.os,hg,⟨fun b o e n hb hx=>?_,fun b o e n hb hx=>?_,fun b o e n hx=>?_,fun b o e hx=>?_,fun b xs e=>tups b xs (I.base.tups b xs e),fun b o xs e=>frzs b o xs (I.base.frzs b o xs e),fun b ps e=>?_⟩,?_,fun x c e=>?_,?_,fun x c e=>?_,fun p hp=>?_,hok,I.len⟩
  · exact keep b o (neL b o e) hb (neC b o e hx) (I.base.keep b o e n hb hx) (I.base.free b o e n hx)
  · obtain ⟨sl,e1⟩:=I.base.slot b o e n hb hx
    obtain ⟨sl',e2⟩:=slot b _ (neL b o e) hb (neC b o e hx) e1 (I.base.free b o e n hx)
    exact ⟨sl',e2⟩
  · obtain ⟨o',e1⟩:=I.base.there b o e hx
    exact free b o' (neC b o e hx) e1 (I.base.free b o e n hx)
  · obtain ⟨o',e1⟩:=I.base.there b o e hx
    exact there b o' (neC b o e hx) e1
  · obtain ⟨m1,e1⟩:=I.base.tbls b ps e
    obtain ⟨m2,e2⟩:=tbls b _ e1
    exact ⟨m1 ++ m2,by rw [e2,Array.append_assoc]⟩
  · obtain ⟨m,hn,hl⟩:=I.loc
    refine ⟨m,ns m hn,fun i x v e1 e2 e3=>?_⟩
    obtain ⟨u,r,l⟩:=hl i x v e1 e2 e3
    refine ⟨u,r,?_⟩
    rcases l with l | ⟨k,c,e,z⟩
    · exact .inl l
    · exact .inr ⟨k,c,e,cellK x c e _ z⟩
  · obtain ⟨v,z⟩:=I.cell x c e
    exact ⟨v,cellK x c e v z⟩
  · obtain ⟨m,⟨o,_,_,ho,_⟩,_⟩:=I.loc
    exact free _ o (fun z=>(hch _ z).2.1 rfl) ho I.free
  · obtain ⟨v,o,ho,hd⟩:=I.cell x c e
    exact free c o (fun z=>(hch c z).2.2.1 x c e rfl) ho (I.freeC x c e)
  · obtain ⟨e,n,ne,nf,d⟩:=I.pin p hp
    have nch:p.1 ∉ ch:=fun z=>(hch p.1 z).2.2.2 p hp rfl
    exact ⟨keep p.1 p.2 ne nf nch e n,free p.1 p.2 nch e n,ne,nf,d⟩
theorem Inv.un {t':Nat} (I:Inv X pins σ H s) (u:Un X.fs [] H H' s.heap h') (hok:HOk X.prog X.w H' h'):Inv X pins σ H' { s with heap:=h',toks:=t' }:=by
  obtain ⟨m,⟨o,es,ep,ho,r⟩,_⟩:=id I.loc
  obtain ⟨sl,hL⟩:=u.any ho I.free (by simp)
  exact I.step (g':=s.gens) (d':=s.drawn) (ch:=[]) (fun _ z=>nomatch z) (fun b o _ hb _ e n=>u.keep b o e n hb (by simp)) (fun b o _ hb _ e n=>u.slot b o e n hb (by simp)) (fun b o _ e n=>u.free b o e n (by simp)) (fun b o _ e=>u.there b o e (by simp)) u.tups u.frzs u.tbls (fun m' hm=>by
    obtain ⟨o',es',ep',ho',r'⟩:=hm
    rw [ho] at ho'; cases ho'
    exact ⟨_,es',ep',hL,r'⟩) hok I.bare
theorem Inv.call {g':Array GenState} {t':Nat} {d':Drawn} {ch:List Addr} (I:Inv X pins σ H s) (u:Un (frs X.stack) ch H H' s.heap h') (hok:HOk X.prog X.w H' h') (hg:AllBare g')
    (hch:∀ b ∈ ch,(b ∈ X.ex∨X.s₀.heap.objs.size ≤ b)∧b ≠ X.env.locals∧(∀ x c,X.env.cells.lookup x = some c→c ≠ b)∧∀ p ∈ X.pn ++ pins,p.1 ≠ b) :
    Inv X pins σ H' { s with heap:=h',gens:=g',drawn:=d',toks:=t' }:=by
  obtain ⟨m,⟨o,es,ep,ho,r⟩,_⟩:=id I.loc
  obtain ⟨sl,hL⟩:=u.any ho I.free fun z=>(hch _ z).2.1 rfl
  exact I.step (ch:=ch) hch (fun b o hL hb hc e n=>u.keep b o e n (fun z=>(List.mem_cons.mp (I.stkSub b z)).elim hL hb) hc) (fun b o _ _ hc e n=>u.any e n hc) (fun b o hc e n=>u.free b o e n hc) (fun b o hc e=>u.there b o e hc) u.tups u.frzs u.tbls (fun m' hm=>by
    obtain ⟨o',es',ep',ho',r'⟩:=hm
    rw [ho] at ho'; cases ho'
    exact ⟨_,es',ep',hL,r'⟩) hok hg
theorem Inv.turned {t':Nat} {it:Addr} (I:Inv X pins σ H s) (k:∀ b o,b ≠ it→s.heap.get? b = some o→h'.get? b = some o) (hn:H it = none) (hL:it ≠ X.env.locals)
    (h1:it ∈ X.ex∨X.s₀.heap.objs.size ≤ it) (h2:∀ x c,X.env.cells.lookup x = some c→c ≠ it) (h3:∀ p ∈ X.pn ++ pins,p.1 ≠ it):Inv X pins σ H { s with heap:=h',toks:=t' }:=by
  have nit:∀ b u,H b = some u→b ≠ it:=fun b u e z=>by rw [z,hn] at e; cases e
  refine I.step (g':=s.gens) (d':=s.drawn) (ch:=[it]) (fun b hb=>?_) (fun b o _ _ hc e _=>k b o (fun z=>hc (by simp [z])) e) (fun b o _ _ hc e _=>⟨o.slots,k b o (fun z=>hc (by simp [z])) e⟩) (fun _ _ _ _ n=>n)
    (fun b o hc e=>⟨o,k b o (fun z=>hc (by simp [z])) e⟩) (fun _ _ e=>e) (fun _ _ _ e=>e) (fun b ps e=>⟨#[],by rw [e]; simp⟩) (fun m hm=>?_) (fun b u e=>?_) I.bare
  · have e:b = it:=by simpa using hb
    subst e
    exact ⟨h1,hL,h2,h3⟩
  · obtain ⟨o,es,ep,ho,r⟩:=hm
    exact ⟨o,es,ep,k _ o (Ne.symm hL) ho,r⟩
  · refine (I.hok b u e).stay (fun c v hc q=>k c v ?_ q) (fun _ q=>q) fun _ _ q=>q
    rcases hc with z | z
    · rw [z]; exact nit b u e
    · exact nit c _ z
theorem Inv.tok (I:Inv X pins σ H s) (t:Nat):Inv X pins σ H { s with toks:=t }:=I.un (h':=s.heap) (t':=t) Un.refl I.hok
theorem Inv.kept {t':Nat} (I:Inv X pins σ H s) (k:∀ b u,s.heap.get? b = some u→h'.get? b = some u):Inv X pins σ H { s with heap:=h',toks:=t' }:=I.un (Un.kept k) (I.hok.kept k)
theorem Inv.laid {a:Addr} {o:HO} {t':Nat} (I:Inv X pins σ H s) (k:∀ b u,s.heap.get? b = some u→h'.get? b = some u) (hp:s.heap.objs.size ≤ a) (new:ObjOk X.prog X.w (upd H a o) h' a o) :
    Inv X pins σ (upd H a o) { s with heap:=h',toks:=t' }:=I.un (Un.laid k hp (I.hok.fresh hp)) (I.hok.laid k hp new)
theorem Inv.write {x e:Addr} {o:HO} {t':Nat} (I:Inv X pins σ H s) (mu:Mut (H x)) (he:e = x∨H e = some (.own x)) (k:∀ b u,b ≠ e→s.heap.get? b = some u→h'.get? b = some u) (heo:∃ u,h'.get? e = some u)
    (new:ObjOk X.prog X.w (upd H x o) h' x o):Inv X pins σ (upd H x o) { s with heap:=h',toks:=t' }:=I.un (Un.write mu he k heo) (I.hok.write mu he k heo new)
theorem Inv.pins_of {pins':List (Addr × Obj)} (I:Inv X pins σ H s) (h:∀ p ∈ pins',s.heap.get? p.1 = some p.2∧H p.1 = none∧p.1 ≠ X.env.locals∧p.1 ∉ X.fs∧∀ v,p.2.data ≠ .cell v):Inv X pins' σ H s :=
  ⟨I.ok,I.os,I.bare,I.base,I.loc,I.cell,I.free,I.freeC,fun p hp=>(List.mem_append.mp hp).elim (fun z=>I.pin p (List.mem_append_left _ z)) (h p),I.hok,I.len⟩
theorem mf {N:List Str} (hN:N.Nodup) {i j:Nat} {x:Str} (a:N[i]? = some x) (b:N[j]? = some x):i = j:=by
  obtain ⟨h1,e1⟩:=List.getElem?_eq_some_iff.mp a
  obtain ⟨h2,e2⟩:=List.getElem?_eq_some_iff.mp b
  exact (List.getElem_inj hN).mp (e1.trans e2.symm)
theorem nQ {M:Model} {A:Around} {E:Value→Shared→Prop} {i:Nat} {x:Str} {v:V} {u:Value} {Q:Unit→Shared→Prop} (I:Inv X pins σ H s) (hN:X.N.Nodup) (hi:X.N[i]? = some x) (hx:Loc X.env.scope x) (r:RelV v u)
    (h:∀ s',Inv X pins (σ.set i (some v)) H s'→(∃ a,Heap.SameBut a s.heap s'.heap∧(a = X.env.locals∨X.env.cells.lookup x = some a))→Q () s') (hf:X.fn x = true∨X.env.scope.names.lookup x = some .local:=by first | exact .inl rfl | exact .inr rfl | assumption):wpAny M A (storeName X.env x u) Q E s:=by
  obtain ⟨m,hn,hl⟩:=id I.loc
  have hcls:(X.env.scope.kind == .class || (X.env.scope.kind == .module && X.env.locals != X.env.globals)) = false:=by rw [I.ok.kind]; rfl
  have hiσ:i < σ.length:=by rw [I.len]; exact (List.getElem?_eq_some_iff.mp hi).1
  have cne:=I.cne
  have tracked:∀ {a:Addr} {h':Heap},(∃ o,s.heap.get? a = some o∧H a = none)→Heap.SameBut a s.heap h'→HOk X.prog X.w H h':=fun {a h'} ha hs b ob e=>by
    obtain ⟨_,_,hfree⟩:=ha
    refine (I.hok b ob e).stay (fun c w' hc q=>(hs.2 c ?_).trans q) (fun _ q=>q) fun _ _ q=>q
    rintro rfl
    rcases hc with rfl | hc
    · rw [hfree] at e; cases e
    · rw [hfree] at hc; cases hc
  rcases hx with hk | hk
  · refine wpAny_storeName_local hk hn (fun h' hn' hs=>?_) hcls
    obtain ⟨oL,_,_,hoL,_⟩:=id hn
    refine h _ ⟨I.ok,I.os,I.bare,⟨fun b o e n hb hx=>?_,fun b o e n hb hx=>?_,I.base.free,fun b o e hx=>?_,I.base.tups,I.base.frzs,I.base.tbls⟩,⟨_,hn',fun j y v' e1 e2 e3=>?_⟩,fun y c e=>?_,I.free,I.freeC,fun p hp=>?_,tracked ⟨oL,hoL,I.free⟩ hs,by simpa using I.len⟩ ⟨_,hs,.inl rfl⟩
    · exact (hs.2 b (Nat.ne_of_lt (Nat.lt_of_lt_of_le (Heap.lt_size e) I.ok.above))).trans (I.base.keep b o e n hb hx)
    · obtain ⟨sl,e1⟩:=I.base.slot b o e n hb hx
      exact ⟨sl,(hs.2 b (Nat.ne_of_lt (Nat.lt_of_lt_of_le (Heap.lt_size e) I.ok.above))).trans e1⟩
    · obtain ⟨o',e1⟩:=I.base.there b o e hx
      exact ⟨o',(hs.2 b (Nat.ne_of_lt (Nat.lt_of_lt_of_le (Heap.lt_size e) I.ok.above))).trans e1⟩
    · by_cases hj:j = i
      · subst hj
        rw [hi] at e1; cases e1
        rw [List.getElem?_set_self hiσ] at e2
        cases e2
        exact ⟨u,r,.inl ⟨hk,by simp⟩⟩
      · rw [List.getElem?_set_ne (Ne.symm hj)] at e2
        obtain ⟨u',r',q⟩:=hl j y v' e1 e2 e3
        refine ⟨u',r',?_⟩
        rcases q with ⟨k,e⟩ | ⟨k,c,e,z⟩
        · refine .inl ⟨k,?_⟩
          have:y ≠ x:=fun e=>hj (mf hN e1 (e ▸ hi))
          simp [this,e]
        · exact .inr ⟨k,c,e,z.sameBut hs (cne y c e)⟩
    · obtain ⟨w',z⟩:=I.cell y c e
      exact ⟨w',z.sameBut hs (cne y c e)⟩
    · obtain ⟨e,n,ne,nf,d⟩:=I.pin p hp
      exact ⟨(hs.2 p.1 ne).trans e,n,ne,nf,d⟩
  · have hfn:X.fn x = true:=by
      rcases hf with z | z
      · exact z
      · rw [z] at hk; cases hk
    obtain ⟨c,hc⟩:=I.ok.has x (.inl hk)
    obtain ⟨w',z⟩:=I.cell x c hc
    refine wpAny_storeName_cell I.ok.kind hk hc z (fun h' hc' hs=>?_)
    obtain ⟨oc,hoc,hocd⟩:=id z
    refine h { s with heap:=h' } ⟨I.ok,I.os,I.bare,⟨fun b o e n hb hx=>?_,fun b o e n hb hx=>?_,I.base.free,fun b o e hx=>?_,I.base.tups,I.base.frzs,I.base.tbls⟩,⟨m,hn.sameBut hs (Ne.symm (cne x c hc)),fun j y v' e1 e2 e3=>?_⟩,fun y c' e=>?_,I.free,I.freeC,fun p hp=>?_,tracked ⟨oc,hoc,I.freeC x c hc⟩ hs,by simpa using I.len⟩ ⟨c,hs,.inr hc⟩
    · exact (hs.2 b (Nat.ne_of_lt (Nat.lt_of_lt_of_le (Heap.lt_size e) (I.ok.cab x c hfn hc)))).trans (I.base.keep b o e n hb hx)
    · obtain ⟨sl,e1⟩:=I.base.slot b o e n hb hx
      exact ⟨sl,(hs.2 b (Nat.ne_of_lt (Nat.lt_of_lt_of_le (Heap.lt_size e) (I.ok.cab x c hfn hc)))).trans e1⟩
    · obtain ⟨o',e1⟩:=I.base.there b o e hx
      exact ⟨o',(hs.2 b (Nat.ne_of_lt (Nat.lt_of_lt_of_le (Heap.lt_size e) (I.ok.cab x c hfn hc)))).trans e1⟩
    · by_cases hj:j = i
      · subst hj
        rw [hi] at e1; cases e1
        rw [List.getElem?_set_self hiσ] at e2
        cases e2
        exact ⟨u,r,.inr ⟨.inl hk,c,hc,hc'⟩⟩
      · rw [List.getElem?_set_ne (Ne.symm hj)] at e2
        obtain ⟨u',r',q⟩:=hl j y v' e1 e2 e3
        refine ⟨u',r',?_⟩
        rcases q with q | ⟨k,c',e,z'⟩
        · exact .inl q
        · refine .inr ⟨k,c',e,z'.sameBut hs ?_⟩
          rintro rfl
          exact hj (mf hN e1 (I.ok.inj _ _ _ e hc ▸ hi))
    · by_cases hcc:c' = c
      · subst hcc; exact ⟨_,hc'⟩
      · obtain ⟨w2,z2⟩:=I.cell y c' e
        exact ⟨w2,z2.sameBut hs hcc⟩
    · obtain ⟨e,n,ne,nf,d⟩:=I.pin p hp
      refine ⟨(hs.2 p.1 ?_).trans e,n,ne,nf,d⟩
      intro q
      rw [q,hoc] at e
      have q':oc = p.2:=Option.some.inj e
      exact d w' (by rw [← q']; exact hocd)
theorem gP {M:Model} {A:Around} {E:Value→Shared→Prop} {i:Nat} {x:Str} {v:V} {u:Value} {Q:Unit→Shared→Prop} (I:Inv X pins σ H s) (hN:X.N.Nodup) (hi:X.N[i]? = some x) (hx:Loc X.env.scope x) (r:RelV v u)
    (h:∀ s',Inv X pins (σ.set i (some v)) H s'→Q () s') (hf:X.fn x = true∨X.env.scope.names.lookup x = some .local:=by first | exact .inl rfl | exact .inr rfl | assumption):wpAny M A (storeName X.env x u) Q E s :=
  nQ I hN hi hx r (fun s' I' _=>h s' I') hf
theorem Inv.call' {s':Shared} {ch:List Addr} (I:Inv X pins σ H s) (ho:s'.os = s.os) (u:Un (frs X.stack) ch H H' s.heap s'.heap) (hok:HOk X.prog X.w H' s'.heap) (hg:AllBare s'.gens)
    (hch:∀ b ∈ ch,(b ∈ X.ex∨X.s₀.heap.objs.size ≤ b)∧b ≠ X.env.locals∧(∀ x c,X.env.cells.lookup x = some c→c ≠ b)∧∀ p ∈ X.pn ++ pins,p.1 ≠ b):Inv X pins σ H' s':=by
  obtain ⟨h',g',d',t',o'⟩:=s'
  have e:o' = s.os:=ho
  subst e
  exact I.call (g':=g') (t':=t') (d':=d') u hok hg hch
end
abbrev XK:=Value→Option Addr→Hp→Prop
abbrev St:=List (Option V)
abbrev VK:=V→Hp→Prop
abbrev TE:=St→Hp→VK→Prop
abbrev TT:=St→Hp→(Bool→Hp→Prop)→Prop
abbrev TA:=St→Hp→(List V→Hp→Prop)→Prop
structure Ends where
  nx:St→Hp→Prop
  rt:VK
  bk:St→Hp→Prop:=fun _ _=>False
  ct:St→Hp→Prop:=fun _ _=>False
abbrev TS:=Ends→St→Hp→Prop
def EP (X:Cx) (pins:List (Addr × Obj)) (σ:St) (Q:VK) (u:Value) (s':Shared):Prop:=∃ v H',Inv X pins σ H' s'∧RelV v u∧Q v H'
def TP (X:Cx) (pins:List (Addr × Obj)) (σ:St) (Q:Bool→Hp→Prop) (b:Bool) (s':Shared):Prop:=∃ H',Inv X pins σ H' s'∧Q b H'
def AP (X:Cx) (pins:List (Addr × Obj)) (σ:St) (Q:List V→Hp→Prop) (us:List Value) (s':Shared):Prop:=∃ vs H',Inv X pins σ H' s'∧Vals vs us∧Q vs H'
def SP (X:Cx) (pins:List (Addr × Obj)) (D:Ends) (f:Flow) (s':Shared):Prop :=
  match f with
  | .next=>∃ σ' H',Inv X pins σ' H' s'∧D.nx σ' H'
  | .brk=>∃ σ' H',Inv X pins σ' H' s'∧D.bk σ' H'
  | .cont=>∃ σ' H',Inv X pins σ' H' s'∧D.ct σ' H'
  | .ret u=>∃ v σ' H',Inv X pins σ' H' s'∧RelV v u∧D.rt v H'
def PE (X:Cx) (e:Expr) (t:TE):Prop :=
  ∀ (pins:List (Addr × Obj)) (s:Shared) (σ:St) (H:Hp) (Q:VK),Inv X pins σ H s→t σ H Q→wpAny (model X.prog X.w) X.A (eval e X.env) (EP X pins σ Q) X.xe s
def PT (X:Cx) (e:Expr) (t:TT):Prop :=
  ∀ (pins:List (Addr × Obj)) (s:Shared) (σ:St) (H:Hp) (Q:Bool→Hp→Prop),Inv X pins σ H s→t σ H Q→wpAny (model X.prog X.w) X.A (isTrue e X.env (eval e X.env)) (TP X pins σ Q) X.xe s
def PW (X:Cx) (e:Expr) (t:TT):Prop :=
  ∀ (whole:Sem Value) (pins:List (Addr × Obj)) (s:Shared) (σ:St) (H:Hp) (Q:Bool→Hp→Prop),Inv X pins σ H s→t σ H Q→wpAny (model X.prog X.w) X.A (isTrue e X.env whole) (TP X pins σ Q) X.xe s
theorem PW.pt {X:Cx} {e:Expr} {t:TT} (h:PW X e t):PT X e t:=h _
def PA (X:Cx) (es:List Expr) (t:TA):Prop :=
  ∀ (pos:Pos) (pins:List (Addr × Obj)) (s:Shared) (σ:St) (H:Hp) (Q:List V→Hp→Prop),Inv X pins σ H s→t σ H Q→wpAny (model X.prog X.w) X.A (spliced (backTo pos (starEach es X.env))) (AP X pins σ Q) X.xe s
def PS (X:Cx) (st:Stmt) (t:TS):Prop :=
  ∀ (pins:List (Addr × Obj)) (s:Shared) (σ:St) (H:Hp) (D:Ends),Inv X pins σ H s→t D σ H→wpAny (model X.prog X.w) X.A (exec st X.env) (SP X pins D) X.xe s
def PSs (X:Cx) (st:List Stmt) (t:TS):Prop :=
  ∀ (pins:List (Addr × Obj)) (s:Shared) (σ:St) (H:Hp) (D:Ends),Inv X pins σ H s→t D σ H→wpAny (model X.prog X.w) X.A (execs st X.env) (SP X pins D) X.xe s
theorem thn {α:Type} {t:Sem α} {Q Q':α→Shared→Prop} {M:Model} {A:Around} {E:Value→Shared→Prop} {s:Shared} (h:wpAny M A t Q E s) (hQ:∀ a s,Q a s→Q' a s):wpAny M A t Q' E s:=wpAny_mono h hQ fun _ _ x=>x
end L2
namespace L2
open PySem PySem.Spec PyProof.Rows
section
variable {X:Cx}
def eJ (i:Nat):TE:=fun σ H Q=>∃ v,σ[i]? = some (some v)∧Q v H
def tC (v:V):TE:=fun _ H Q=>Q v H
theorem Bg {i:Nat} {x:Str} {pos:Pos} (hN:X.N[i]? = some x) (hv:Vis X.env.scope x) (hd:(x == ("__debug__":Str)) = false:=by decide) (hcd:(x == ("__classdict__":Str)) = false:=by decide):PE X (.Name x pos) (eJ i):=by
  intro pins s σ H Q I h
  obtain ⟨v,e,h⟩:=h
  obtain ⟨m,hn,hl⟩:=I.loc
  obtain ⟨u,r,l⟩:=hl i x v hN e hv
  have fin:EP X pins σ Q u s:=⟨v,H,I,r,h⟩
  rcases l with ⟨hk,hm⟩ | ⟨hk,c,hc,hcell⟩
  · exact wpAny_Name (wpAny_loadName_local I.ok.kind hk hn hm fin) hd
  · rcases hk with hk | hk
    · exact wpAny_Name (wpAny_loadName_cell I.ok.kind hk hc hcell fin) hd
    · exact wpAny_Name (wpAny_loadName_free I.ok.kind hk hc hcell fin hcd) hd
theorem ag {i j pos}:PE X (.Constant (.int i) j pos) (tC (.int i)):=fun _ _ _ H _ I h=>wpAny_Constant_int ⟨.int i,H,I.tok _,⟨_,rfl⟩,h⟩
theorem cG {b j pos}:PE X (.Constant (.bool b) j pos) (tC (.bl b)):=fun _ _ _ H _ I h=>Constant_bool ⟨.bl b,H,I,rfl,h⟩
theorem dn {j pos}:PE X (.Constant .none j pos) (tC .non):=fun _ _ _ H _ I h=>Constant_none ⟨.non,H,I,rfl,h⟩
theorem aJ {x j pos}:PE X (.Constant (.str x) j pos) (tC (.str x)):=fun _ _ _ H _ I h=>Calls.Constant_str ⟨.str x,H,I.tok _,⟨_,rfl⟩,h⟩
def Gl (X:Cx) (x:Str):Prop:=X.env.kindOf x = some .globalImplicit
theorem iQ {E:Value→Shared→Prop} {pins:List (Addr × Obj)} {s:Shared} {σ:St} {H:Hp} {x:Str} {u:Value} {pos:Pos} {Q:Value→Shared→Prop} (I:Inv X pins σ H s) (hg:Gl X x) (hm:X.mg x = some u) (h:Q u s)
    (hd:(x == ("__debug__":Str)) = false:=by decide):wpAny (model X.prog X.w) X.A (eval (.Name x pos) X.env) Q E s :=
  Calls.Name_function_global I.ok.kind hg (Calls.loadGlobal_global (by rw [I.ok.glob]; exact I.mod.glob.keeps I.bk) hm h) hd
theorem jm {E:Value→Shared→Prop} {pins:List (Addr × Obj)} {s:Shared} {σ:St} {H:Hp} {x:Str} {u:Value} {pos:Pos} {Q:Value→Shared→Prop} (I:Inv X pins σ H s) (hg:Gl X x) (hm:X.mg x = none) (hv:bootBuiltins x = some u) (h:Q u s)
    (hn:x ≠ "__name__":=by decide) (hd:(x == ("__debug__":Str)) = false:=by decide):wpAny (model X.prog X.w) X.A (eval (.Name x pos) X.env) Q E s:=by
  obtain ⟨mb,h1,h2⟩:=I.mod.blt
  exact Calls.Name_function_global I.ok.kind hg (Calls.loadGlobal_builtin (by rw [I.ok.glob]; exact I.mod.glob.keeps I.bk) hm (by rw [I.ok.blt]; exact h1.keeps I.bk) ((h2 x hn).trans hv) h) hd
theorem bg {x:Str} {v:V} {u:Value} {pos:Pos} (hg:Gl X x) (hm:X.mg x = some u) (r:RelV v u) (hd:(x == ("__debug__":Str)) = false:=by decide):PE X (.Name x pos) (tC v) :=
  fun _ _ _ H _ I h=>iQ I hg hm ⟨v,H,I,r,h⟩ hd
theorem dM {x:Str} {v:V} {u:Value} {pos:Pos} (hg:Gl X x) (hm:X.mg x = none) (hv:bootBuiltins x = some u) (r:RelV v u) (hn:x ≠ "__name__":=by decide) (hd:(x == ("__debug__":Str)) = false:=by decide):PE X (.Name x pos) (tC v) :=
  fun _ _ _ H _ I h=>jm I hg hm hv ⟨v,H,I,r,h⟩ hn hd
variable {a b:Expr} {ta tb:TE} {pos:Pos}
variable {tA tB':TT} {rest:List Expr}
def CU (t u:TT):TT:=fun σ H Q=>t σ H fun c H1=>if c = true then u σ H1 Q else Q false H1
def tOr (t u:TT):TT:=fun σ H Q=>t σ H fun c H1=>if c = true then Q true H1 else u σ H1 Q
def BF (t:TT):TT:=fun σ H Q=>t σ H fun c H1=>Q (!c) H1
theorem zx (ha:PT X a tA):PW X (.BoolOp .And [a] pos) tA:=by
  intro wh pins s σ H Q I h
  refine isTrue_and (thn (ha pins s σ H Q I h) fun c s1 e=>?_)
  cases c with
  | true=>exact isTrue_and_nil e
  | false=>exact e
theorem de (ha:PT X a tA):PW X (.BoolOp .Or [a] pos) tA:=by
  intro wh pins s σ H Q I h
  refine isTrue_or (thn (ha pins s σ H Q I h) fun c s1 e=>?_)
  cases c with
  | false=>exact isTrue_or_nil e
  | true=>exact e
theorem Bk (ha:PT X a tA) (hb:PW X (.BoolOp .And (b :: rest) pos) tB'):PW X (.BoolOp .And (a :: b :: rest) pos) (CU tA tB'):=by
  intro wh pins s σ H Q I h
  refine isTrue_and (thn (ha pins s σ H _ I h) fun c s1 ⟨H1,I1,q1⟩=>?_)
  cases c with
  | true=>exact hb wh pins s1 σ H1 Q I1 q1
  | false=>exact ⟨H1,I1,q1⟩
theorem cQ (ha:PT X a tA) (hb:PW X (.BoolOp .Or (b :: rest) pos) tB'):PW X (.BoolOp .Or (a :: b :: rest) pos) (tOr tA tB'):=by
  intro wh pins s σ H Q I h
  refine isTrue_or (thn (ha pins s σ H _ I h) fun c s1 ⟨H1,I1,q1⟩=>?_)
  cases c with
  | true=>exact ⟨H1,I1,q1⟩
  | false=>exact hb wh pins s1 σ H1 Q I1 q1
theorem bR (ha:PT X a tA):PT X (.UnaryOp .Not a pos) (BF tA):=by
  intro pins s σ H Q I h
  exact isTrue_not (ha pins s σ H (fun c H1=>Q (!c) H1) I h)
def yf (ta tb:TE):TE:=fun σ H Q=>ta σ H fun x H1=>∃ c,x = .bl c∧if c = true then tb σ H1 Q else Q (.bl false) H1
def Cn (ta tb:TE):TE:=fun σ H Q=>ta σ H fun x H1=>∃ c,x = .bl c∧if c = true then Q (.bl true) H1 else tb σ H1 Q
def As (ta:TE):TE:=fun σ H Q=>ta σ H fun x H1=>∃ c,x = .bl c∧Q (.bl (!c)) H1
theorem fD {op} {t:TE} (h:PE X a t):PE X (.BoolOp op [a] pos) t:=fun pins s σ H Q I hw=>BoolOp_one (h pins s σ H Q I hw)
theorem fC (ha:PE X a ta) (hb:PE X (.BoolOp .And (b :: rest) pos) tb):PE X (.BoolOp .And (a :: b :: rest) pos) (yf ta tb):=by
  intro pins s σ H Q I h
  refine BoolOp_and (thn (ha pins s σ H _ I h) fun v s1 ⟨x,H1,I1,r1,q1⟩=>?_)
  obtain ⟨c,rfl,q1⟩:=q1
  cases r1
  refine wpAny_truthy_bool ?_
  cases c with
  | true=>exact hb pins s1 σ H1 Q I1 q1
  | false=>exact ⟨.bl false,H1,I1,rfl,q1⟩
theorem xu (ha:PE X a ta) (hb:PE X (.BoolOp .Or (b :: rest) pos) tb):PE X (.BoolOp .Or (a :: b :: rest) pos) (Cn ta tb):=by
  intro pins s σ H Q I h
  refine BoolOp_or (thn (ha pins s σ H _ I h) fun v s1 ⟨x,H1,I1,r1,q1⟩=>?_)
  obtain ⟨c,rfl,q1⟩:=q1
  cases r1
  refine wpAny_truthy_bool ?_
  cases c with
  | false=>exact hb pins s1 σ H1 Q I1 q1
  | true=>exact ⟨.bl true,H1,I1,rfl,q1⟩
theorem Bf (ha:PE X a ta):PE X (.UnaryOp .Not a pos) (As ta):=by
  intro pins s σ H Q I h
  refine UnaryOp_ (thn (ha pins s σ H _ I h) fun v s1 ⟨x,H1,I1,r1,q1⟩=>?_)
  obtain ⟨c,rfl,q1⟩:=q1
  cases r1
  exact not_of (wpAny_truthy_bool ⟨.bl (!c),H1,I1,rfl,q1⟩)
def tIf (t:TT) (ta tb:TE):TE:=fun σ H Q=>t σ H fun c H1=>if c = true then ta σ H1 Q else tb σ H1 Q
theorem gK {c:Expr} (hc:PT X c tA) (ha:PE X a ta) (hb:PE X b tb):PE X (.IfExp c a b pos) (tIf tA ta tb):=by
  intro pins s σ H Q I h
  refine wpAny_IfExp (thn (hc pins s σ H _ I h) fun d s1 ⟨H1,I1,q1⟩=>?_)
  cases d with
  | true=>exact ha pins s1 σ H1 Q I1 q1
  | false=>exact hb pins s1 σ H1 Q I1 q1
end
end L2
namespace L2
open PySem PySem.Spec PyProof.Rows
def SqL (K:PySem.W.Frag) (H:Hp) (a:Addr) (xs:List V):Prop :=
  Rd H a (.lst xs) ∨
    ∃ (o:Obj) (its:Array Value) (n:Nat),K.lookup a = some o∧o.cls = .type "list"∧o.dict = none∧o.data = .seq its n∧its.size ≤ sizeLine∧Vals xs its.toList
def SqT (K:PySem.W.Frag) (H:Hp) (a:Addr) (xs:List V):Prop :=
  Rd H a (.tup xs) ∨
    ∃ (o:Obj) (its:Array Value) (n:Nat),K.lookup a = some o∧o.cls = .type "tuple"∧o.data = .seq its n∧its.size ≤ sizeLine∧Vals xs its.toList
def Cu:Value→Option V
  | .none=>some .non
  | .bool b=>some (.bl b)
  | .int i _=>some (.int i)
  | .str x _=>some (.str x)
  | .bytes b _=>some (.byt b)
  | .float b _=>some (.flt b)
  | .ref a=>some (.ref a)
  | .type n=>some (.ty n)
  | _=>none
theorem RelV.abs {x:V} {u:Value} (r:RelV x u):Cu u = some x:=by
  cases x with
  | non=>cases r; rfl
  | bl _=>cases r; rfl
  | int _=>obtain ⟨t,rfl⟩:=r; rfl
  | str _=>obtain ⟨t,rfl⟩:=r; rfl
  | byt _=>obtain ⟨t,rfl⟩:=r; rfl
  | flt _=>obtain ⟨t,rfl⟩:=r; rfl
  | ref _=>cases r; rfl
  | ty _=>cases r; rfl
theorem RelV.inj {x y:V} {u:Value} (r:RelV x u) (q:RelV y u):x = y:=Option.some.inj (r.abs.symm.trans q.abs)
theorem Vals.inj:∀ {xs ys:List V} {us:List Value},Vals xs us→Vals ys us→xs = ys
  | _,_,_,.nil,.nil=>rfl
  | _,_,_,.cons r t,.cons r' t'=>by rw [r.inj r',Vals.inj t t']
section
variable {X:Cx} {pins:List (Addr × Obj)} {σ:St} {H:Hp} {s:Shared} {a:Addr} {xs ys:List V}
theorem SqL.of {K:PySem.W.Frag} (h:H a = some (.lst xs)):SqL K H a xs:=.inl (.inl h)
theorem SqT.of {K:PySem.W.Frag} (h:H a = some (.tup xs)):SqT K H a xs:=.inl (.inl h)
theorem Inv.list (I:Inv X pins σ H s) (h:SqL X.K H a xs):∃ its:List Value,Vals xs its∧PlainL s.heap a its.toArray∧xs.length ≤ sizeLine:=by
  rcases h with h | ⟨o,its,n,hk,hc,hd,hs,hz,r⟩
  · obtain ⟨z,its,n,r,e⟩:=h.ok I.hok
    exact ⟨its,r,⟨_,n,e,rfl,rfl,rfl⟩,z⟩
  · refine ⟨its.toList,r,⟨o,n,I.kIn a o hk,hc,hd,by simpa using hs⟩,?_⟩
    have e:=r.length
    simp only [Array.length_toList] at e
    omega
theorem Inv.tuple (I:Inv X pins σ H s) (h:SqT X.K H a xs):∃ its:List Value,Vals xs its∧IsTup s.heap a its.toArray∧xs.length ≤ sizeLine:=by
  rcases h with h | ⟨o,its,n,hk,hc,hs,hz,r⟩
  · obtain ⟨z,its,r,p⟩:=h.ok I.hok
    exact ⟨its,r,p,z⟩
  · refine ⟨its.toList,r,⟨o,I.kIn a o hk,hc,n,by simpa using hs⟩,?_⟩
    have e:=r.length
    simp only [Array.length_toList] at e
    omega
theorem Inv.list_inj (I:Inv X pins σ H s) (h:SqL X.K H a xs) (h':SqL X.K H a ys):xs = ys:=by
  obtain ⟨its,r,⟨o,n,e,_,_,d⟩,_⟩:=I.list h
  obtain ⟨its',r',⟨o',n',e',_,_,d'⟩,_⟩:=I.list h'
  rw [e] at e'; cases e'
  rw [d] at d'
  injection d' with d1 _
  have:its = its':=by simpa using congrArg Array.toList d1
  subst this
  exact r.inj r'
theorem Inv.tuple_inj (I:Inv X pins σ H s) (h:SqT X.K H a xs) (h':SqT X.K H a ys):xs = ys:=by
  obtain ⟨its,r,⟨o,e,_,n,d⟩,_⟩:=I.tuple h
  obtain ⟨its',r',⟨o',e',_,n',d'⟩,_⟩:=I.tuple h'
  rw [e] at e'; cases e'
  rw [d] at d'
  injection d' with d1 _
  have:its = its':=by simpa using congrArg Array.toList d1
  subst this
  exact r.inj r'
end
abbrev Cx.wish (X:Cx) (E:Value→Shared→Prop):Cx:={ X with xe:=E }
abbrev Cx.nox (X:Cx):Cx:=X.wish fun _ _=>False
theorem Cx.Ok.wish {X:Cx} (ok:X.Ok) (E:Value→Shared→Prop):(X.wish E).Ok :=
  ⟨ok.mod,ok.kind,ok.glob,ok.blt,ok.above,ok.inj,ok.has,ok.cab,ok.hd,ok.frames,ok.stk,ok.exf,ok.bs,ok.bsz,ok.noex,ok.exfs,ok.funs,ok.frf⟩
theorem Cx.Ok.unwish {X:Cx} {E:Value→Shared→Prop} (ok:(X.wish E).Ok):X.Ok :=
  ⟨ok.mod,ok.kind,ok.glob,ok.blt,ok.above,ok.inj,ok.has,ok.cab,ok.hd,ok.frames,ok.stk,ok.exf,ok.bs,ok.bsz,ok.noex,ok.exfs,ok.funs,ok.frf⟩
section
variable {X:Cx} {pins:List (Addr × Obj)} {σ:St} {H:Hp} {s:Shared} {E:Value→Shared→Prop}
theorem Inv.wish (I:Inv X pins σ H s) (E:Value→Shared→Prop):Inv (X.wish E) pins σ H s:=⟨I.ok.wish E,I.os,I.bare,I.base,I.loc,I.cell,I.free,I.freeC,I.pin,I.hok,I.len⟩
theorem Inv.unwish (I:Inv (X.wish E) pins σ H s):Inv X pins σ H s:=⟨I.ok.unwish,I.os,I.bare,I.base,I.loc,I.cell,I.free,I.freeC,I.pin,I.hok,I.len⟩
theorem SP.unwish {D:Ends} {f:Flow} {s':Shared} (h:SP (X.wish E) pins D f s'):SP X pins D f s':=by
  cases f with
  | next=>obtain ⟨σ',H',I,q⟩:=h; exact ⟨σ',H',I.unwish,q⟩
  | brk=>obtain ⟨σ',H',I,q⟩:=h; exact ⟨σ',H',I.unwish,q⟩
  | cont=>obtain ⟨σ',H',I,q⟩:=h; exact ⟨σ',H',I.unwish,q⟩
  | ret u=>obtain ⟨v,σ',H',I,r,q⟩:=h; exact ⟨v,σ',H',I.unwish,r,q⟩
theorem PSs.nox {st:List Stmt} {t:TS} (h:PSs X.nox st t):PSs X st t:=fun pins s σ H D I hw =>
  wpAny_mono (h pins s σ H D (I.wish _) hw) (fun _ _ q=>q.unwish) fun _ _ z=>False.elim z
end
section
variable {X:Cx} {st:Stmt} {rest:List Stmt} {t u:TS} {e:Expr} {te:TE} {pos:Pos}
def uc:TS:=fun D σ H=>D.nx σ H
def jS (t u:TS):TS:=fun D σ H=>t { D with nx:=u D } σ H
theorem aK:PSs X [] uc:=fun _ _ σ H _ I h=>wpAny_execs_nil ⟨σ,H,I,h⟩
theorem ao (h1:PS X st t) (h2:PSs X rest u):PSs X (st :: rest) (jS t u):=by
  intro pins s σ H D I h
  refine wpAny_execs_cons (thn (h1 pins s σ H { D with nx:=u D } I h) fun f s1 q=>?_)
  cases f with
  | next =>
    obtain ⟨σ',H',I',q⟩:=q
    exact h2 pins s1 σ' H' D I' q
  | ret v=>exact q
  | brk=>exact q
  | cont=>exact q
theorem au (h1:PS X st t):PSs X [st] t:=by
  intro pins s σ H D I h
  refine wpAny_execs_cons (thn (h1 pins s σ H D I h) fun f s1 q=>?_)
  cases f with
  | next=>exact wpAny_execs_nil q
  | ret v=>exact q
  | brk=>exact q
  | cont=>exact q
def Ap:TS:=fun D σ H=>D.ct σ H
theorem qS:PS X (.Continue pos) Ap:=fun _ _ σ H _ I h=>wpAny_Continue ⟨σ,H,I,h⟩
theorem Inv.quiet {pins:List (Addr × Obj)} {σ:St} {H:Hp} {s:Shared} (I:Inv X pins σ H s):interactive X.env = false:=by simp [interactive,I.ok.kind]
def rj (te:TE):TS:=fun D σ H=>te σ H fun _ H1=>D.nx σ H1
theorem bF (he:PE X e te) (hs:swapsWith e none pos.line X.env = pure false:=by rfl):PS X (.Expr e pos) (rj te):=by
  intro pins s σ H D I h
  exact wpAny_Expr_any (thn (he pins s σ H _ I h) fun v s1 ⟨x,H1,I1,r1,q1⟩=>⟨σ,H1,I1,q1⟩) I.quiet hs
def zR (te:TE):TS:=fun D σ H=>te σ H D.rt
theorem aD (he:PE X e te):PS X (.Return (some e) pos) (zR te):=by
  intro pins s σ H D I h
  exact wpAny_Return_some (thn (he pins s σ H _ I h) fun v s1 ⟨x,H1,I1,r1,q1⟩=>⟨x,σ,H1,I1,r1,q1⟩)
def zQ (c:TT) (t u:TS):TS:=fun D σ H=>c σ H fun b H1=>if b = true then t D σ H1 else u D σ H1
theorem bj {c:Expr} {a b:List Stmt} {tc:TT} (hc:PT X c tc) (ha:PSs X a t) (hb:PSs X b u):PS X (.If c a b pos) (zQ tc t u):=by
  intro pins s σ H D I h
  refine wpAny_If (thn (hc pins s σ H _ I h) fun d s1 ⟨H1,I1,q1⟩=>?_)
  cases d with
  | true=>exact ha pins s1 σ H1 D I1 q1
  | false=>exact hb pins s1 σ H1 D I1 q1
def BE:TS:=fun _ _ _=>False
theorem jL:PS X st BE:=fun _ _ _ _ _ _ h=>h.elim
end
abbrev TG:=V→St→Hp→(St→Hp→Prop)→Prop
abbrev TGs:=List V→St→Hp→(St→Hp→Prop)→Prop
def PG (X:Cx) (target:Expr) (t:TG):Prop :=
  ∀ (pins:List (Addr × Obj)) (s:Shared) (σ:St) (H:Hp) (v:V) (u:Value) (Q:St→Hp→Prop),Inv X pins σ H s→RelV v u→t v σ H Q →
    wpAny (model X.prog X.w) X.A (assign target X.env u) (fun _ s'=>∃ σ' H',Inv X pins σ' H' s'∧Q σ' H') X.xe s
def PGs (X:Cx) (ts:List Expr) (t:TGs):Prop :=
  ∀ (pins:List (Addr × Obj)) (s:Shared) (σ:St) (H:Hp) (vs:List V) (us:List Value) (Q:St→Hp→Prop),Inv X pins σ H s→Vals vs us→t vs σ H Q →
    wpAny (model X.prog X.w) X.A (assignInOrder ((assignEach ts X.env).map (·.2)) us) (fun _ s'=>∃ σ' H',Inv X pins σ' H' s'∧Q σ' H') X.xe s
abbrev vY:=V→V→V→Hp→(Hp→Prop)→Prop
def Aw (X:Cx) (t:vY):Prop :=
  ∀ (pins:List (Addr × Obj)) (s:Shared) (σ:St) (H:Hp) (o i v:V) (ov iv u:Value) (Q:Hp→Prop),Inv X pins σ H s→RelV o ov→RelV i iv→RelV v u→t o i v H Q →
    wpAny (model X.prog X.w) X.A (setItem ov iv u) (fun _ s'=>∃ H',Inv X pins σ H' s'∧Q H') X.xe s
abbrev TIp:=V→V→Hp→VK→Prop
def PIp (X:Cx) (op:Operator) (t:TIp):Prop :=
  ∀ (pins:List (Addr × Obj)) (s:Shared) (σ:St) (H:Hp) (x y:V) (v u:Value) (Q:VK),Inv X pins σ H s→RelV x v→RelV y u→t x y H Q →
    wpAny (model X.prog X.w) X.A (inplaceOp op v u) (EP X pins σ Q) X.xe s
section
variable {X:Cx} {pos:Pos}
def cf (i:Nat):TG:=fun v σ H Q=>Q (σ.set i (some v)) H
theorem aV {i:Nat} {x:Str} (hN:X.N.Nodup) (hi:X.N[i]? = some x) (hx:Loc X.env.scope x) (hf:X.fn x = true∨X.env.scope.names.lookup x = some .local:=by first | exact .inl rfl | exact .inr rfl | assumption):PG X (.Name x pos) (cf i):=by
  intro pins s σ H v u Q I r h
  exact wpAny_assign_Name (gP I hN hi hx r (fun s' I'=>⟨_,H,I',h⟩) hf)
def uC:TGs:=fun vs σ H Q=>vs = []∧Q σ H
def iu (t:TG) (u:TGs):TGs:=fun vs σ H Q=>∃ v r,vs = v :: r∧t v σ H fun σ' H'=>u r σ' H' Q
theorem d8:PGs X [] uC:=by
  intro pins s σ H vs us Q I r h
  obtain ⟨e,h⟩:=h
  subst e
  cases r
  exact assignInOrder_nil ⟨σ,H,I,h⟩
theorem bx {e:Expr} {es:List Expr} {t:TG} {u:TGs} (h1:PG X e t) (h2:PGs X es u)
    (hs:(assignEach (e :: es) X.env).map (·.2) = assign e X.env :: (assignEach es X.env).map (·.2):=by rfl):PGs X (e :: es) (iu t u):=by
  intro pins s σ H vs us Q I r h
  obtain ⟨v,vr,e1,h⟩:=h
  subst e1
  cases r with
  | cons r rr =>
    rw [hs]
    refine assignInOrder_cons (thn (h1 pins s σ H _ _ _ I r h) fun _ s1 ⟨σ1,H1,I1,q1⟩=>?_)
    exact h2 pins s1 σ1 H1 _ _ Q I1 rr q1
def rR (K:PySem.W.Frag) (n:Nat) (t:TGs):TG:=fun v σ H Q=>∃ a xs,v = .ref a∧SqT K H a xs∧xs.length = n∧t xs σ H Q
theorem gD {es:List Expr} {k:Nat} {t:TGs} {n:Nat} (hc:X.calm = true) (h:PGs X es t)
    (hn:(assignEach es X.env).length = n:=by rfl) (hst:(assignEach es X.env).findIdx? (·.1) = none:=by rfl):PG X (.Tuple es k pos) (rR X.K n t):=by
  intro pins s σ H v u Q I r hw
  obtain ⟨a,xs,e1,hq,hl,hw⟩:=hw
  subst e1
  cases r
  obtain ⟨its,rv,ht,hz⟩:=I.tuple hq
  refine assign_Tuple_tuple (I.ok.hd hc) ht (by simp [hn,← hl,rv.length]) hst fun h' hx=>?_
  have I1:Inv X pins σ H { s with heap:=h' }:=I.kept (t':=s.toks) fun b o e=>hx b o (Nat.ne_of_lt (Heap.lt_size e)) e
  exact h pins _ σ H xs _ Q I1 (by simpa using rv) hw
def CA (to ti:TE) (t:vY):TG:=fun v σ H Q=>to σ H fun o H1=>ti σ H1 fun i H2=>t o i v H2 fun H3=>Q σ H3
theorem xx {o i:Expr} {to ti:TE} {t:vY} (ho:PE X o to) (hi:PE X i ti) (hs:Aw X t)
    (ha:∀ v,assign (.Subscript o i pos) X.env v = (do
      let ov ← holding [v] (eval o X.env)
      let iv ← holding [v,ov] (eval i X.env)
      standAt pos
      holding [v,ov,iv] (setItem ov iv v)
      release [v,ov,iv] []):=by intro _; rfl):PG X (.Subscript o i pos) (CA to ti t):=by
  intro pins s σ H v u Q I r h
  rw [ha]
  refine wpAny_bind (wpAny_holding (thn (ho pins s σ H _ I h) fun ov s1 ⟨x,H1,I1,r1,q1⟩=>?_))
  refine wpAny_bind (wpAny_holding (thn (hi pins s1 σ H1 _ I1 q1) fun iv s2 ⟨y,H2,I2,r2,q2⟩=>?_))
  refine wpAny_bind (wpAny_standAt (wpAny_bind (wpAny_holding (thn (hs pins s2 σ H2 x y v ov iv u _ I2 r1 r2 r q2) fun _ s3 ⟨H3,I3,q3⟩=>?_))))
  exact wpAny_release ⟨σ,H3,I3,q3⟩
def m5 (te:TE) (g:TG):TS:=fun D σ H=>te σ H fun x H1=>g x σ H1 D.nx
theorem hU {tg e:Expr} {te:TE} {g:TG} (he:PE X e te) (hg:PG X tg g) (hs:swapsWithSole [tg] e pos.line X.env = pure false:=by rfl) (hw:swappedStores [tg] e X.env = pure none:=by rfl)
    (h1:(assignEach [tg] X.env).map (·.2) = [assign tg X.env]:=by rfl):PS X (.Assign [tg] e pos) (m5 te g):=by
  intro pins s σ H D I h
  refine wpAny_Assign_stores (thn (he pins s σ H _ I h) fun v s1 ⟨x,H1,I1,r1,q1⟩=>?_) hs hw
  rw [h1]
  exact thn (hg pins s1 σ H1 x v _ I1 r1 q1) fun _ s2 q=>q
theorem bz {i:Nat} {x:Str} {e:Expr} {te:TE} {pos':Pos} (hN:X.N.Nodup) (hi:X.N[i]? = some x) (hx:Loc X.env.scope x) (he:PE X e te) (hs:swapsWith e (some (.Name x pos')) pos.line X.env = pure false:=by rfl) (hf:X.fn x = true∨X.env.scope.names.lookup x = some .local:=by first | exact .inl rfl | exact .inr rfl | assumption) :
    PS X (.Assign [.Name x pos'] e pos) (m5 te (cf i)):=by
  intro pins s σ H D I h
  refine wpAny_Assign_Name (thn (he pins s σ H _ I h) fun v s1 ⟨y,H1,I1,r1,q1⟩=>?_) hs
  exact gP I1 hN hi hx r1 (fun s2 I2=>⟨_,H1,I2,q1⟩) hf
def CZ (i j:Nat) (ta:TA):TS:=fun D σ H=>ta σ H fun vs H1=>∃ v w,vs = [v,w]∧D.nx ((σ.set i (some v)).set j (some w)) H1
theorem xE {i j:Nat} {x y:Str} {a b:Expr} {ta:TA} {px py pt:Pos} {kt k2 pt2} (hc:X.calm = true) (hN:X.N.Nodup) (hi:X.N[i]? = some x) (hj:X.N[j]? = some y) (hij:i ≠ j)
    (hx:X.env.scope.names.lookup x = some .local) (hy:X.env.scope.names.lookup y = some .local) (ha:PA X [a,b] ta)
    (hw:swappedStores [.Tuple [.Name x px,.Name y py] kt pt] (.Tuple [a,b] k2 pt2) X.env = pure (some [x,y]))
    (hs:swapsWithSole [.Tuple [.Name x px,.Name y py] kt pt] (.Tuple [a,b] k2 pt2) pos.line X.env = pure false:=by rfl) :
    PS X (.Assign [.Tuple [.Name x px,.Name y py] kt pt] (.Tuple [a,b] k2 pt2) pos) (CZ i j ta):=by
  intro pins s σ H D I h
  rw [exec_Assign_arm]
  refine wpAny_bind (wpAny_standAt ?_)
  rw [hs]
  refine wpAny_bind (wpAny_pure ?_)
  rw [if_neg (by decide)]
  refine wpAny_bind (Tuple_ (thn (ha _ pins s σ H _ I h) fun us s1 ⟨vs,H1,I1,r1,q1⟩=>?_))
  obtain ⟨v,w,e1,q1⟩:=q1
  subst e1
  obtain ⟨u1,u2,rfl,rv,rw'⟩:∃ u1 u2,us = [u1,u2]∧RelV v u1∧RelV w u2:=by
    cases r1 with
    | cons p q =>
      cases q with
      | cons p' q' =>
        cases q'
        exact ⟨_,_,rfl,p,p'⟩
  refine wpAny_newObj_type ?_ (by show 2 ≤ sizeLine; decide)
  have I2:Inv X pins σ H1 { s1 with heap:=s1.heap.push { cls:=.type "tuple",data:=.seq [u1,u2].toArray } }:=I1.kept (t':=s1.toks) fun b o e=>Heap.get?_push_of_some _ e
  rw [hw]
  refine wpAny_bind (wpAny_pure ?_)
  show wpAny (model X.prog X.w) X.A (do rule "assign.swapped-stores"; let items ← unpackItems (.ref s1.heap.objs.size) 2 none; assignInOrder [fun v=>bindName X.env y v,fun v=>bindName X.env x v] items.reverse; pure Flow.next) _ _ _
  refine wpAny_bind (wpAny_rule (wpAny_bind (unpackItems_tuple (items:=#[u1,u2]) (I.ok.hd hc) (IsTup.new s1.heap _) fun h' hx'=>?_)))
  have I3:=I2.kept (h':=h') (t':=s1.toks) fun b o e=>hx' b o (Nat.ne_of_lt (Heap.lt_size e)) e
  show wpAny _ _ (assignInOrder [fun v=>bindName X.env y v,fun v=>bindName X.env x v] [u2,u1] >>= fun _=>pure Flow.next) _ _ _
  refine wpAny_bind (assignInOrder_cons (wpAny_bindName (gP I3 hN hj (.inl hy) rw' (fun s2 I4=>?_) (.inr hy))))
  refine assignInOrder_cons (wpAny_bindName (gP I4 hN hi (.inl hx) rv (fun s3 I5=>assignInOrder_nil (wpAny_pure ?_)) (.inr hx)))
  rw [List.set_comm _ _ (Ne.symm hij)] at I5
  exact ⟨_,H1,I5,q1⟩
def CW (i:Nat) (te:TE) (ti:TIp):TS:=fun D σ H=>∃ x,σ[i]? = some (some x)∧te σ H fun y H1=>ti x y H1 fun z H2=>D.nx (σ.set i (some z)) H2
theorem xD {i:Nat} {x:Str} {e:Expr} {te:TE} {op:Operator} {ti:TIp} {pos':Pos} (hN:X.N.Nodup) (hi:X.N[i]? = some x) (hx:Loc X.env.scope x) (he:PE X e te) (ho:PIp X op ti) (hf:X.fn x = true∨X.env.scope.names.lookup x = some .local:=by first | exact .inl rfl | exact .inr rfl | assumption) :
    PS X (.AugAssign (.Name x pos') op e pos) (CW i te ti):=by
  intro pins s σ H D I h
  obtain ⟨v,e1,h⟩:=h
  obtain ⟨m,hn,hl⟩:=I.loc
  have vis:Vis X.env.scope x:=by rcases hx with k | k; exact .inl k; exact .inr (.inl k)
  obtain ⟨u,r,l⟩:=hl i x v hi e1 vis
  refine wpAny_AugAssign_Name ?_
  have go:wpAny (model X.prog X.w) X.A (eval e X.env) (fun w s₂=>wpAny (model X.prog X.w) X.A (inplaceOp op u w) (fun r s₃=>wpAny (model X.prog X.w) X.A (storeName X.env x r) (fun _=>SP X pins D .next) X.xe s₃) X.xe s₂) X.xe s:=by
    refine thn (he pins s σ H _ I h) fun w s1 ⟨y,H1,I1,r1,q1⟩=>?_
    refine thn (ho pins s1 σ H1 v y u w _ I1 r r1 q1) fun z s2 ⟨zv,H2,I2,r2,q2⟩=>?_
    exact gP I2 hN hi hx r2 (fun s3 I3=>⟨_,H2,I3,q2⟩) hf
  rcases l with ⟨hk,hm⟩ | ⟨hk,c,hc,hcell⟩
  · exact wpAny_loadName_local I.ok.kind hk hn hm go
  · rcases hk with hk | hk
    · exact wpAny_loadName_cell I.ok.kind hk hc hcell go
    · rcases hx with k | k
      · have:X.env.scope.names.lookup x = some .free:=hk
        rw [k] at this; cases this
      · have:X.env.scope.names.lookup x = some .free:=hk
        rw [k] at this; cases this
def Ck (to ti te:TE) (tget:V→V→Hp→VK→Prop) (tip:TIp) (tset:vY):TS:=fun D σ H=>to σ H fun o H1=>ti σ H1 fun i H2=>tget o i H2 fun x H3=>te σ H3 fun y H4=>tip x y H4 fun z H5=>tset o i z H5 fun H6=>D.nx σ H6
def BL (X:Cx) (t:V→V→Hp→VK→Prop):Prop :=
  ∀ (pins:List (Addr × Obj)) (s:Shared) (σ:St) (H:Hp) (o i:V) (ov iv:Value) (Q:VK),Inv X pins σ H s→RelV o ov→RelV i iv→t o i H Q →
    wpAny (model X.prog X.w) X.A (getItem ov iv) (EP X pins σ Q) X.xe s
theorem tU {o i e:Expr} {to ti te:TE} {tget:V→V→Hp→VK→Prop} {tip:TIp} {tset:vY} {op:Operator} {tpos:Pos} (ho:PE X o to) (hi:PE X i ti) (hg:BL X tget) (he:PE X e te) (hp:PIp X op tip) (hs:Aw X tset)
    (ha:∀ ov iv new,augStore i ov iv new = (do holding [new,ov,iv] (setItem ov iv new); release [new,ov,iv] []; pure .next):=by intros; rfl):PS X (.AugAssign (.Subscript o i tpos) op e pos) (Ck to ti te tget tip tset):=by
  intro pins s σ H D I h
  refine wpAny_AugAssign_SubscriptAny (thn (ho pins s σ H _ I h) fun ov s1 ⟨x1,H1,I1,r1,q1⟩=>?_) ha
  refine thn (hi pins s1 σ H1 _ I1 q1) fun iv s2 ⟨x2,H2,I2,r2,q2⟩=>?_
  refine thn (hg pins s2 σ H2 x1 x2 ov iv _ I2 r1 r2 q2) fun old s3 ⟨x3,H3,I3,r3,q3⟩=>?_
  refine thn (he pins s3 σ H3 _ I3 q3) fun v s4 ⟨x4,H4,I4,r4,q4⟩=>?_
  refine thn (hp pins s4 σ H4 x3 x4 old v _ I4 r3 r4 q4) fun new s5 ⟨x5,H5,I5,r5,q5⟩=>?_
  exact thn (hs pins s5 σ H5 x1 x2 x5 ov iv new _ I5 r1 r2 r5 q5) fun _ s6 ⟨H6,I6,q6⟩=>⟨σ,H6,I6,q6⟩
def ipI (f:Int→Int→Int):TIp:=fun x y H Q=>∃ i j,x = .int i∧y = .int j∧Q (.int (f i j)) H
theorem rT:PIp X .Add (ipI fun i j=>i + j):=by
  intro pins s σ H x y v u Q I r1 r2 h
  obtain ⟨i,j,e1,e2,q⟩:=h
  subst e1; subst e2
  obtain ⟨t,rfl⟩:=r1
  obtain ⟨t',rfl⟩:=r2
  exact iadd_int ⟨.int _,H,I.tok _,⟨_,rfl⟩,q⟩
theorem A2:PIp X .Sub (ipI fun i j=>i - j):=by
  intro pins s σ H x y v u Q I r1 r2 h
  obtain ⟨i,j,e1,e2,q⟩:=h
  subst e1; subst e2
  obtain ⟨t,rfl⟩:=r1
  obtain ⟨t',rfl⟩:=r2
  exact isub_int ⟨.int _,H,I.tok _,⟨_,rfl⟩,q⟩
end
section
variable {X:Cx} {pos:Pos}
def yi (c:TT) (tb:TS):TS:=fun D σ H=>∃ W:Nat→St→Hp→Prop,(∃ m,W m σ H)∧∀ m σ H,W m σ H →
  c σ H fun b H1=>if b = true then ∃ N:St→Hp→Prop,(∀ σ' H',N σ' H'→∃ m',m' < m∧W m' σ' H')∧tb { D with nx:=N,ct:=N,bk:=D.nx } σ H1 else D.nx σ H1
theorem qT {c:Expr} {body:List Stmt} {tc:TT} {tb:TS} (hp:PassesOwn (model X.prog X.w) X.A X.env X.xe) (hc:PT X c tc) (hb:PSs X body tb):PS X (.While c body [] pos) (yi tc tb):=by
  intro pins s σ H D I h
  obtain ⟨W,⟨m0,w0⟩,turn⟩:=h
  refine wpAny_While (codeAny_whileLoop (fun n s'=>∃ σ' H',Inv X pins σ' H' s'∧W n σ' H') ?_ m0 ⟨σ,H,I,w0⟩)
  rintro n s1 ⟨σ1,H1,I1,w1⟩
  refine wpAny_passesOwn hp (thn (hc pins s1 σ1 H1 _ I1 (turn n σ1 H1 w1)) fun b s2 ⟨H2,I2,q2⟩=>?_)
  cases b with
  | true =>
    obtain ⟨N,hN,q2⟩:=q2
    rw [if_pos rfl]
    refine wpAny_passesOwn hp (thn (hb pins s2 σ1 H2 _ I2 q2) fun f s3 q3=>?_)
    cases f with
    | next =>
      obtain ⟨σ3,H3,I3,n3⟩:=q3
      obtain ⟨m',hm,w3⟩:=hN σ3 H3 n3
      exact ⟨m',hm,σ3,H3,I3,w3⟩
    | cont =>
      obtain ⟨σ3,H3,I3,n3⟩:=q3
      obtain ⟨m',hm,w3⟩:=hN σ3 H3 n3
      exact ⟨m',hm,σ3,H3,I3,w3⟩
    | brk=>exact q3
    | ret v=>exact q3
  | false =>
    rw [if_neg Bool.false_ne_true]
    exact wpAny_execs_nil ⟨σ1,H2,I2,q2⟩
end
structure It where
  go:Nat→Hp→Prop
  yld:Nat→Hp→V→Hp→Prop
  stop:Nat→Hp→Prop
def mO (X:Cx) (pins:List (Addr × Obj)) (H:Hp) (b:Addr):Prop :=
  H b = none∧b ≠ X.env.locals∧b ∉ X.fs∧(b ∈ X.ex∨X.s₀.heap.objs.size ≤ b)∧(∀ x c,X.env.cells.lookup x = some c→c ≠ b)∧∀ p ∈ X.pn ++ pins,p.1 ≠ b
theorem Inv.fpOk {X:Cx} {pins:List (Addr × Obj)} {σ:St} {H H':Hp} {s:Shared} {b:Addr} (I:Inv X pins σ H s) (hb:s.heap.objs.size ≤ b) (hn:H' b = none):mO X pins H' b:=by
  refine ⟨hn,Nat.ne_of_gt (Nat.lt_of_lt_of_le I.lt hb),I.nofs hb,.inr (Nat.le_trans I.sz hb),fun x c e z=>?_,fun p hp z=>?_⟩
  · obtain ⟨v,q⟩:=I.cell x c e
    exact absurd (Nat.lt_of_lt_of_le q.lt (by rw [z]; exact hb)) (Nat.lt_irrefl _)
  · exact absurd (Nat.lt_of_lt_of_le (Heap.lt_size (I.pin p hp).1) (by rw [z]; exact hb)) (Nat.lt_irrefl _)
structure lA (P:Program) (w:World) (K:PySem.W.Frag) (tg:Expr) (J:It) (fp:List Addr) (it:Addr) (tn:Nat→Heap→Prop):Prop where
  mem:it ∈ fp
  obj:∀ i h,tn i h→∀ b ∈ fp,∃ o,h.get? b = some o∧∀ v,o.data ≠ .cell v
  keep:∀ i h h',tn i h→(∀ b ∈ fp,∀ o,h.get? b = some o→h'.get? b = some o)→tn i h'
  item:∀ (X:Cx),X.prog = P→X.w = w→X.K = K→X.calm = true→∀ (i:Nat) (pins:List (Addr × Obj)) (s:Shared) (σ:St) (H:Hp) (E:Value→Shared→Prop),Inv X pins σ H s→(∀ b ∈ fp,mO X pins H b)→tn i s.heap→J.go i H →
    wpAny (model P w) X.A (pyNext (.ref it)) (fun r s1=>∃ u,r = some u ∧
      wpAny (model P w) X.A (letOwnedTupleGo tg (.ref it) u) (fun _ s2=>∃ x H',Inv X pins σ H' s2∧RelV x u∧J.yld i H x H'∧tn (i + 1) s2.heap∧∀ b ∈ fp,H' b = none) E s1) E s
  done:∀ (X:Cx),X.prog = P→X.w = w→X.K = K→X.calm = true→∀ (i:Nat) (pins:List (Addr × Obj)) (s:Shared) (σ:St) (H:Hp) (E:Value→Shared→Prop),Inv X pins σ H s→(∀ b ∈ fp,mO X pins H b)→tn i s.heap→J.stop i H →
    wpAny (model P w) X.A (pyNext (.ref it)) (fun r s1=>r = none∧Inv X pins σ H s1) E s
  self:∀ (A:Around) (i:Nat) (s:Shared) (Q:Value→Shared→Prop) (E:Value→Shared→Prop),tn i s.heap→Q (.ref it) s→wpAny (model P w) A (pyIter (.ref it)) Q E s
abbrev TI:=St→Hp→(It→Hp→Prop)→Prop
def PIE (X:Cx) (pins:List (Addr × Obj)) (σ:St) (tg:Expr) (R:It→Hp→Prop) (itv:Value) (s2:Shared):Prop :=
  ∃ (it:Addr) (fp:List Addr) (tn:Nat→Heap→Prop) (J:It) (H':Hp),itv = .ref it∧Inv X pins σ H' s2∧lA X.prog X.w X.K tg J fp it tn∧tn 0 s2.heap∧(∀ b ∈ fp,mO X pins H' b)∧R J H'
def PI (X:Cx) (tg iter:Expr) (wi:TI):Prop :=
  ∀ (pins:List (Addr × Obj)) (s:Shared) (σ:St) (H:Hp) (R:It→Hp→Prop),Inv X pins σ H s→wi σ H R →
    wpAny (model X.prog X.w) X.A (eval iter X.env) (fun v s1=>wpAny (model X.prog X.w) X.A (pyIter v) (PIE X pins σ tg R) X.xe s1) X.xe s
theorem qu {M:Model} {A:Around} {E:Value→Shared→Prop} {s:Shared} {tg:Expr} {it:Addr} {u:Value} {o:Obj} {n:String} {vs:Array Value} {Q:Unit→Shared→Prop} (ho:s.heap.get? it = some o) (hc:o.cls = .type n) (hd:o.data = .fields vs)
    (hn:["enumerate","zip","dict_itemiterator","dict_reverseitemiterator","odict_iterator","itertools.zip_longest","itertools.pairwise"].contains n = false) (hQ:Q () s):wpAny M A (letOwnedTupleGo tg (.ref it) u) Q E s:=by
  unfold letOwnedTupleGo
  cases tg <;> first
    | exact wpAny_pure hQ
    | (cases u <;> first
        | exact wpAny_pure hQ
        | (refine wpAny_bind (wpAny_load ho ?_)
           rw [hc,hd]
           show wpAny M A (if (["enumerate","zip","dict_itemiterator","dict_reverseitemiterator","odict_iterator","itertools.zip_longest","itertools.pairwise"].contains n && vs[0]? == some (rawInt _)) = true then _ else _) Q E s
           rw [if_neg (by intro h; rw [hn,Bool.false_and] at h; cases h)]
           exact wpAny_pure hQ))
def Itl (K:PySem.W.Frag) (a:Addr):It :=
  ⟨fun i H=>∃ xs x,SqL K H a xs∧xs[i]? = some x,fun i H x H'=>H' = H∧∀ xs,SqL K H a xs→xs[i]? = some x,fun i H=>∃ xs,SqL K H a xs∧xs.length ≤ i⟩
def Itt (K:PySem.W.Frag) (a:Addr):It :=
  ⟨fun i H=>∃ xs x,SqT K H a xs∧xs[i]? = some x,fun i H x H'=>H' = H∧∀ xs,SqT K H a xs→xs[i]? = some x,fun i H=>∃ xs,SqT K H a xs∧xs.length ≤ i⟩
def Itr (lo:Int) (n:Nat):It:=⟨fun i _=>i < n,fun i H x H'=>H' = H∧x = .int (lo + i),fun i _=>n ≤ i⟩
theorem vF {P:Program} {w:World} {K:PySem.W.Frag} {tg:Expr} (a it:Addr):lA P w K tg (Itl K a) [it] it (fun i h=>h.IsListIter it a i) where
  mem:=by simp
  obj:=fun i h st b hb=>by
    have e:b = it:=by simpa using hb
    subst e
    obtain ⟨o,e,c,d⟩:=st
    exact ⟨o,e,fun v z=>by rw [d] at z; cases z⟩
  keep:=fun i h h' st k=>st.at fun o e=>k it (by simp) o e
  item:=by
    intro X hP hw hK hc i pins s σ H E I hf st hg
    subst hP hw hK
    obtain ⟨xs,x,hq,hx⟩:=hg
    obtain ⟨its,rv,p,hz⟩:=I.list hq
    obtain ⟨u,hu,ru⟩:=rv.get hx
    obtain ⟨f0,f1,f2,f3,f4,f5⟩:=hf it (by simp)
    refine wpAny_pyNext_list_item st p.isList (x:=u) (by simpa using hu) fun h' st' sb=>?_
    have I1:Inv X pins σ H { s with heap:=h' }:=I.turned (t':=s.toks) (fun b o hb e=>(sb.2 b hb).trans e) f0 f1 f3 f4 f5
    obtain ⟨o,e,c,d⟩:=id st'
    exact ⟨u,rfl,qu (s:={ s with heap:=h' }) e c d (by decide) ⟨x,H,I1,ru,⟨rfl,fun ys hy=>by rw [I.list_inj hy hq]; exact hx⟩,st',fun b hb=>(hf b hb).1⟩⟩
  done:=by
    intro X hP hw hK hc i pins s σ H E I hf st hg
    subst hP hw hK
    obtain ⟨xs,hq,hx⟩:=hg
    obtain ⟨its,rv,p,hz⟩:=I.list hq
    obtain ⟨f0,f1,f2,f3,f4,f5⟩:=hf it (by simp)
    have hl:=rv.length
    exact wpAny_pyNext_list_end (I.ok.hd hc) st p.isList (by simp; omega) fun h' eb=>⟨rfl,I.turned (t':=s.toks) (fun b o hb e=>eb b o hb e) f0 f1 f3 f4 f5⟩
  self:=fun _ _ _ _ _ st h=>wpAny_pyIter_listiter st h
theorem sN {P:Program} {w:World} {K:PySem.W.Frag} {tg:Expr} (a it:Addr):lA P w K tg (Itt K a) [it] it (fun i h=>h.IsTupleIter it a i) where
  mem:=by simp
  obj:=fun i h st b hb=>by
    have e:b = it:=by simpa using hb
    subst e
    obtain ⟨o,e,c,d⟩:=st
    exact ⟨o,e,fun v z=>by rw [d] at z; cases z⟩
  keep:=fun i h h' st k=>st.at fun o e=>k it (by simp) o e
  item:=by
    intro X hP hw hK hc i pins s σ H E I hf st hg
    subst hP hw hK
    obtain ⟨xs,x,hq,hx⟩:=hg
    obtain ⟨its,rv,p,hz⟩:=I.tuple hq
    obtain ⟨u,hu,ru⟩:=rv.get hx
    obtain ⟨f0,f1,f2,f3,f4,f5⟩:=hf it (by simp)
    refine wpAny_pyNext_tuple_item st (show s.heap.IsTuple a its.toArray from p) (x:=u) (by simpa using hu) fun h' st' sb=>?_
    have I1:Inv X pins σ H { s with heap:=h' }:=I.turned (t':=s.toks) (fun b o hb e=>(sb.2 b hb).trans e) f0 f1 f3 f4 f5
    obtain ⟨o,e,c,d⟩:=id st'
    exact ⟨u,rfl,qu (s:={ s with heap:=h' }) e c d (by decide) ⟨x,H,I1,ru,⟨rfl,fun ys hy=>by rw [I.tuple_inj hy hq]; exact hx⟩,st',fun b hb=>(hf b hb).1⟩⟩
  done:=by
    intro X hP hw hK hc i pins s σ H E I hf st hg
    subst hP hw hK
    obtain ⟨xs,hq,hx⟩:=hg
    obtain ⟨its,rv,p,hz⟩:=I.tuple hq
    obtain ⟨f0,f1,f2,f3,f4,f5⟩:=hf it (by simp)
    have hl:=rv.length
    exact wpAny_pyNext_tuple_end (I.ok.hd hc) st (show s.heap.IsTuple a its.toArray from p) (by simp; omega) fun h' eb=>⟨rfl,I.turned (t':=s.toks) (fun b o hb e=>eb b o hb e) f0 f1 f3 f4 f5⟩
  self:=fun _ _ _ _ _ st h=>wpAny_pyIter_tupleiter st h
theorem sM {P:Program} {w:World} {K:PySem.W.Frag} {tg:Expr} (it:Addr) (lo:Int) (n:Nat):lA P w K tg (Itr lo n) [it] it (fun i h=>IsRangeIter h it (lo + (i:Nat) * 1) ((n:Int) - (i:Nat)) 1) where
  mem:=by simp
  obj:=fun i h st b hb=>by
    have e:b = it:=by simpa using hb
    subst e
    exact ⟨_,st,fun v z=>by
      have z':Data.fields _ = Data.cell v:=z
      cases z'⟩
  keep:=fun i h h' st k=>k it (by simp) _ st
  item:=by
    intro X hP hw hK hc i pins s σ H E I hf st hg
    subst hP hw hK
    obtain ⟨f0,f1,f2,f3,f4,f5⟩:=hf it (by simp)
    have W:=Walks.range (prog:=X.prog) (w:=X.w) (I.ok.hd hc) it lo 1 n
    refine W.item i s _ _ hg st fun v h' tk hv st' kk=>?_
    obtain ⟨t,rfl⟩:=hv
    have I1:Inv X pins σ H { s with heap:=h',toks:=tk }:=I.turned (fun b o hb e=>kk b o (by simpa using hb) e) f0 f1 f3 f4 f5
    refine ⟨_,rfl,qu (s:={ s with heap:=h',toks:=tk }) (n:="range_iterator") st' rfl rfl (by decide) ⟨.int (lo + i),H,I1,⟨t,?_⟩,⟨rfl,rfl⟩,st',fun b hb=>(hf b hb).1⟩⟩
    rw [Int.mul_one]
  done:=by
    intro X hP hw hK hc i pins s σ H E I hf st hg
    subst hP hw hK
    obtain ⟨f0,f1,f2,f3,f4,f5⟩:=hf it (by simp)
    exact wpAny_pyNext_range_end (I.ok.hd hc) st (by have:n ≤ i:=hg; omega) fun h' eb=>⟨rfl,I.turned (t':=s.toks) (fun b o hb e=>eb b o hb e) f0 f1 f3 f4 f5⟩
  self:=fun _ _ _ _ _ st h=>wpAny_pyIter_rangeiter st h
end L2
namespace L2
open PySem PySem.Spec PyProof.Rows
section
variable {X:Cx} {tg:Expr}
def nB (K:PySem.W.Frag) (tl:TE):TI:=fun σ H R=>tl σ H fun x H1=>∃ a,x = .ref a∧(∃ xs,SqL K H1 a xs)∧R (Itl K a) H1
def yR (K:PySem.W.Frag) (tl:TE):TI:=fun σ H R=>tl σ H fun x H1=>∃ a,x = .ref a∧(∃ xs,SqT K H1 a xs)∧R (Itt K a) H1
theorem dq {l:Expr} {tl:TE} (hl:PE X l tl):PI X tg l (nB X.K tl):=by
  intro pins s σ H R I h
  refine thn (hl pins s σ H _ I h) fun v s1 ⟨x,H1,I1,r1,q1⟩=>?_
  obtain ⟨a,e,⟨xs,hq⟩,q⟩:=q1
  subst e
  cases r1
  obtain ⟨its,rv,p,hz⟩:=I1.list hq
  refine wpAny_pyIter_list p.isList ?_
  refine ⟨s1.heap.objs.size,[s1.heap.objs.size],_,_,H1,rfl,I1.kept (t':=s1.toks) fun b o e=>Heap.get?_push_of_some _ e,vF a _,⟨_,Heap.get?_push_size _ rfl,rfl,rfl⟩,fun b hb=>?_,q⟩
  have e:b = s1.heap.objs.size:=by simpa using hb
  subst e
  exact I1.fpOk (Nat.le_refl _) (I1.hok.fresh (Nat.le_refl _))
theorem iN {l:Expr} {tl:TE} (hl:PE X l tl):PI X tg l (yR X.K tl):=by
  intro pins s σ H R I h
  refine thn (hl pins s σ H _ I h) fun v s1 ⟨x,H1,I1,r1,q1⟩=>?_
  obtain ⟨a,e,⟨xs,hq⟩,q⟩:=q1
  subst e
  cases r1
  obtain ⟨its,rv,p,hz⟩:=I1.tuple hq
  refine wpAny_pyIter_tuple (show s1.heap.IsTuple a its.toArray from p) ?_
  refine ⟨s1.heap.objs.size,[s1.heap.objs.size],_,_,H1,rfl,I1.kept (t':=s1.toks) fun b o e=>Heap.get?_push_of_some _ e,sN a _,⟨_,Heap.get?_push_size _ rfl,rfl,rfl⟩,fun b hb=>?_,q⟩
  have e:b = s1.heap.objs.size:=by simpa using hb
  subst e
  exact I1.fpOk (Nat.le_refl _) (I1.hok.fresh (Nat.le_refl _))
theorem xR {pins:List (Addr × Obj)} {σ:St} {H:Hp} {s:Shared} {R:It→Hp→Prop} {E:Value→Shared→Prop} {lo hi:Int} {t u v:Tok} {tk:Nat} (I:Inv X pins σ H s) (h1:-(2 ^ 62) ≤ lo) (h2:lo < 2 ^ 62) (h3:-(2 ^ 62) ≤ hi) (h4:hi < 2 ^ 62)
    (q:R (Itr lo (hi - lo).toNat) H):wpAny (model X.prog X.w) X.A (pyIter (.ref s.heap.objs.size)) (PIE X pins σ tg R) E { s with heap:=s.heap.push { cls:=.type "range",data:=.fields #[.int lo t,.int hi u,.int 1 v] },toks:=tk }:=by
  refine wpAny_pyIter_range (IsRange.new ..) (small_one h1 h2 h3 h4) ?_
  have I1:Inv X pins σ H { s with heap:=s.heap.push { cls:=.type "range",data:=.fields #[.int lo t,.int hi u,.int 1 v] },toks:=tk }:=I.kept fun b o e=>Heap.get?_push_of_some _ e
  refine ⟨(s.heap.push { cls:=.type "range",data:=.fields #[.int lo t,.int hi u,.int 1 v] }).objs.size,[(s.heap.push { cls:=.type "range",data:=.fields #[.int lo t,.int hi u,.int 1 v] }).objs.size],_,_,H,rfl,
    I1.kept (t':=tk) fun b o e=>Heap.get?_push_of_some _ e,sM _ lo (hi - lo).toNat,?_,fun b hb=>?_,q⟩
  · have e1:lo + ((0:Nat):Int) * 1 = lo:=by simp
    have e2:(((hi - lo).toNat:Nat):Int) - ((0:Nat):Int) = Builtin.Range.rangeSize lo hi 1:=by rw [rangeSize_one]; split <;> omega
    show IsRangeIter _ _ (lo + ((0:Nat):Int) * 1) ((((hi - lo).toNat:Nat):Int) - ((0:Nat):Int)) 1
    rw [e1,e2]
    exact Heap.get?_push_size _ rfl
  · have e:b = (s.heap.push { cls:=.type "range",data:=.fields #[.int lo t,.int hi u,.int 1 v] }).objs.size:=by simpa using hb
    subst e
    exact I1.fpOk (Nat.le_refl _) (I1.hok.fresh (Nat.le_refl _))
def Ab (ta:TA):TI:=fun σ H R=>ta σ H fun vs H1=>∃ j:Int,vs = [.int j]∧-(2 ^ 62) ≤ j∧j < 2 ^ 62∧R (Itr 0 j.toNat) H1
theorem uZ {a:Expr} {ta:TA} {p pos:Pos} (hg:Gl X "range") (hm:X.mg "range" = none) (ha:PA X [a] ta) (hs:starEach [a] X.env = [(false,eval a X.env)]:=by rfl):PI X tg (.Call (.Name "range" p) [a] [] pos) (Ab ta):=by
  intro pins s σ H R I h
  refine Call_ (jm I hg hm boot_range (PyProof.Rows.callWith_type1 (thn (ha pos pins s σ H _ I h) fun us s1 ⟨vs,H1,I1,r1,q1⟩=>?_) hs rfl))
  obtain ⟨j,e,q1,q2,q⟩:=q1
  subst e
  cases r1 with
  | cons r rr =>
    cases rr
    obtain ⟨t,rfl⟩:=r
    exact call_range_1 (xR I1 (by omega) (by omega) q1 q2 (by simpa using q))
def BD (wi:TI) (g:TG) (tb:TS):TS:=fun D σ H=>wi σ H fun J H1=>∃ W:Nat→Nat→St→Hp→Prop,(∃ m,W 0 m σ H1)∧∀ i m σ H,W i m σ H →
  (J.stop i H∧D.nx σ H)∨(J.go i H∧∃ N:St→Hp→Prop,(∀ σ' H',N σ' H'→∃ m',m' < m∧W (i + 1) m' σ' H')∧∀ x H',J.yld i H x H'→g x σ H' fun σ2 H2=>tb { D with nx:=N,ct:=N,bk:=D.nx } σ2 H2)
def mr (fp:List Addr) (h:Heap):List (Addr × Obj):=fp.filterMap fun b=>(h.get? b).map fun o=>(b,o)
theorem g9 {fp:List Addr} {h:Heap} {b:Addr} {o:Obj} (hb:b ∈ fp) (e:h.get? b = some o):(b,o) ∈ mr fp h:=List.mem_filterMap.mpr ⟨b,hb,by rw [e]; rfl⟩
theorem uV {fp:List Addr} {h:Heap} {p:Addr × Obj} (hp:p ∈ mr fp h):p.1 ∈ fp∧h.get? p.1 = some p.2:=by
  obtain ⟨b,hb,e⟩:=List.mem_filterMap.mp hp
  cases q:h.get? b with
  | none=>rw [q] at e; cases e
  | some o =>
    rw [q] at e
    have e':(b,o) = p:=Option.some.inj e
    subst e'
    exact ⟨hb,q⟩
theorem Inv.pinned {pins:List (Addr × Obj)} {σ:St} {H:Hp} {s:Shared} {fp:List Addr} (I:Inv X pins σ H s) (hf:∀ b ∈ fp,mO X pins H b) (ho:∀ b ∈ fp,∃ o,s.heap.get? b = some o∧∀ v,o.data ≠ .cell v):Inv X (pins ++ mr fp s.heap) σ H s :=
  I.pins_of fun p hp=>(List.mem_append.mp hp).elim (fun z=>I.pin p (List.mem_append_right _ z)) fun z=>by
    obtain ⟨hb,e⟩:=uV z
    obtain ⟨f0,f1,f2,_⟩:=hf p.1 hb
    obtain ⟨o,e',d⟩:=ho p.1 hb
    rw [e] at e'; cases e'
    exact ⟨e,f0,f1,f2,d⟩
theorem Inv.unpinned {pins pl:List (Addr × Obj)} {σ:St} {H:Hp} {s:Shared} (I:Inv X (pins ++ pl) σ H s):Inv X pins σ H s:=I.pins_of fun p hp=>I.pin p (List.mem_append_right _ (List.mem_append_left _ hp))
theorem hV {iter:Expr} {body:List Stmt} {wi:TI} {g:TG} {tb:TS} {pos:Pos} (hp:PassesOwn (model X.prog X.w) X.A X.env X.xe) (hc:X.calm = true) (hi:PI X tg iter wi) (hg:PG X tg g) (hb:PSs X body tb)
    (hs:∀ x,foldedSetIterable iter X.env x = pure x:=by intro _; rfl):PS X (.For tg iter body [] pos) (BD wi g tb):=by
  intro pins s σ H D I h
  refine wpAny_For (thn (hi pins s σ H _ I h) fun v s1 h1=>thn h1 fun itv s2 h2=>?_) hs
  obtain ⟨it,fp,tn,J,H2,e,I2,T,st2,f2,W,⟨m0,w0⟩,turn⟩:=h2
  subst e
  have pC:∀ {H':Hp},(∀ b ∈ fp,H' b = none)→∀ b ∈ fp,mO X pins H' b:=fun hn b hb=>⟨hn b hb,(f2 b hb).2⟩
  refine codeAny_forLoop_any (fun n s'=>∃ i σ' H',Inv X pins σ' H' s'∧tn i s'.heap∧(∀ b ∈ fp,H' b = none)∧W i n σ' H') ?_ m0 ⟨0,σ,H2,I2,st2,fun b hb=>(f2 b hb).1,w0⟩
  rintro n s3 ⟨i,σ3,H3,I3,st3,fr3,w3⟩
  rcases turn i n σ3 H3 w3 with ⟨stop,qn⟩ | ⟨go,N,hN,step⟩
  · refine wpAny_passesOwn hp (thn (T.done X rfl rfl rfl hc i pins s3 σ3 H3 X.xe I3 (pC fr3) st3 stop) fun r s4 ⟨hr,I4⟩=>?_)
    subst hr
    exact wpAny_execs_nil ⟨σ3,H3,I4,qn⟩
  · refine wpAny_passesOwn hp (thn (T.item X rfl rfl rfl hc i pins s3 σ3 H3 X.xe I3 (pC fr3) st3 go) fun r s4 ⟨u,hr,h4⟩=>?_)
    subst hr
    refine wpAny_passesOwn hp (thn h4 fun _ s5 ⟨x,H5,I5,r5,y5,st5,fr5⟩=>?_)
    have I5':=I5.pinned (pC fr5) (T.obj _ _ st5)
    refine wpAny_passesOwn hp (thn (hg _ s5 σ3 H5 x u _ I5' r5 (step x H5 y5)) fun _ s6 ⟨σ6,H6,I6,q6⟩=>?_)
    refine wpAny_passesOwn hp (thn (hb _ s6 σ6 H6 _ I6 q6) fun f s7 q7=>?_)
    have again:∀ {σ7:St} {H7:Hp},Inv X (pins ++ mr fp s5.heap) σ7 H7 s7→N σ7 H7→∃ m,m < n∧∃ i σ' H',Inv X pins σ' H' s7∧tn i s7.heap∧(∀ b ∈ fp,H' b = none)∧W i m σ' H':=fun {σ7 H7} I7 n7=>by
      obtain ⟨m',hm,w7⟩:=hN σ7 H7 n7
      refine ⟨m',hm,i + 1,σ7,H7,I7.unpinned,T.keep _ _ _ st5 fun b hb o e=>(I7.pin (b,o) (List.mem_append_right _ (List.mem_append_right _ (g9 hb e)))).1,fun b hb=>?_,w7⟩
      obtain ⟨o,e,d⟩:=T.obj _ _ st5 b hb
      exact (I7.pin (b,o) (List.mem_append_right _ (List.mem_append_right _ (g9 hb e)))).2.1
    cases f with
    | next=>obtain ⟨σ7,H7,I7,n7⟩:=q7; exact again I7 n7
    | cont=>obtain ⟨σ7,H7,I7,n7⟩:=q7; exact again I7 n7
    | brk=>obtain ⟨σ7,H7,I7,q7⟩:=q7; exact ⟨σ7,H7,I7.unpinned,q7⟩
    | ret v=>obtain ⟨x7,σ7,H7,I7,r7,q7⟩:=q7; exact ⟨x7,σ7,H7,I7.unpinned,r7,q7⟩
end
theorem iF {K:PySem.W.Frag} {a:Addr} {xs:List V} {g:TG} {tb:TS} {D:Ends} {σ:St} {H:Hp} (Pv:Nat→St→Hp→Prop) (h0:Pv 0 σ H) (hl:∀ i σ H,i ≤ xs.length→Pv i σ H→SqL K H a xs)
    (hs:∀ i x σ H,xs[i]? = some x→Pv i σ H→g x σ H fun σ2 H2=>tb { D with nx:=Pv (i + 1),ct:=Pv (i + 1),bk:=D.nx } σ2 H2) (hd:∀ σ H,Pv xs.length σ H→D.nx σ H) :
    ∃ W:Nat→Nat→St→Hp→Prop,(∃ m,W 0 m σ H)∧∀ i m σ H,W i m σ H →
      ((Itl K a).stop i H∧D.nx σ H)∨((Itl K a).go i H∧∃ N:St→Hp→Prop,(∀ σ' H',N σ' H'→∃ m',m' < m∧W (i + 1) m' σ' H')∧∀ x H',(Itl K a).yld i H x H'→g x σ H' fun σ2 H2=>tb { D with nx:=N,ct:=N,bk:=D.nx } σ2 H2):=by
  refine ⟨fun i m σ H=>m = xs.length - i∧i ≤ xs.length∧Pv i σ H,⟨xs.length,by simp,Nat.zero_le _,h0⟩,?_⟩
  rintro i m σ H ⟨rfl,hi,p⟩
  have q:=hl i σ H hi p
  by_cases hlt:i < xs.length
  · refine .inr ⟨⟨xs,xs[i],q,by simp [hlt]⟩,Pv (i + 1),fun σ' H' p'=>⟨xs.length - (i + 1),by omega,rfl,hlt,p'⟩,fun x H' y=>?_⟩
    obtain ⟨e,y⟩:=y
    subst e
    exact hs i x σ _ (y xs q) p
  · have e:i = xs.length:=by omega
    subst e
    exact .inl ⟨⟨xs,q,Nat.le_refl _⟩,hd σ H p⟩
theorem oz {K:PySem.W.Frag} {a:Addr} {xs:List V} {g:TG} {tb:TS} {D:Ends} {σ:St} {H:Hp} (Pv:Nat→St→Hp→Prop) (h0:Pv 0 σ H) (hl:∀ i σ H,i ≤ xs.length→Pv i σ H→SqT K H a xs)
    (hs:∀ i x σ H,xs[i]? = some x→Pv i σ H→g x σ H fun σ2 H2=>tb { D with nx:=Pv (i + 1),ct:=Pv (i + 1),bk:=D.nx } σ2 H2) (hd:∀ σ H,Pv xs.length σ H→D.nx σ H) :
    ∃ W:Nat→Nat→St→Hp→Prop,(∃ m,W 0 m σ H)∧∀ i m σ H,W i m σ H →
      ((Itt K a).stop i H∧D.nx σ H)∨((Itt K a).go i H∧∃ N:St→Hp→Prop,(∀ σ' H',N σ' H'→∃ m',m' < m∧W (i + 1) m' σ' H')∧∀ x H',(Itt K a).yld i H x H'→g x σ H' fun σ2 H2=>tb { D with nx:=N,ct:=N,bk:=D.nx } σ2 H2):=by
  refine ⟨fun i m σ H=>m = xs.length - i∧i ≤ xs.length∧Pv i σ H,⟨xs.length,by simp,Nat.zero_le _,h0⟩,?_⟩
  rintro i m σ H ⟨rfl,hi,p⟩
  have q:=hl i σ H hi p
  by_cases hlt:i < xs.length
  · refine .inr ⟨⟨xs,xs[i],q,by simp [hlt]⟩,Pv (i + 1),fun σ' H' p'=>⟨xs.length - (i + 1),by omega,rfl,hlt,p'⟩,fun x H' y=>?_⟩
    obtain ⟨e,y⟩:=y
    subst e
    exact hs i x σ _ (y xs q) p
  · have e:i = xs.length:=by omega
    subst e
    exact .inl ⟨⟨xs,q,Nat.le_refl _⟩,hd σ H p⟩
theorem rA {c:TT} {tb:TS} {D:Ends} {σ:St} {H:Hp} (Pv:St→Hp→Prop) (μ:St→Hp→Nat) (h0:Pv σ H)
    (hs:∀ σ H,Pv σ H→c σ H fun b H1=>if b = true then tb { D with nx:=fun σ' H'=>Pv σ' H'∧μ σ' H' < μ σ H,ct:=fun σ' H'=>Pv σ' H'∧μ σ' H' < μ σ H,bk:=D.nx } σ H1 else D.nx σ H1)
    (mono:∀ σ H Q Q',(∀ b H1,Q b H1→Q' b H1)→c σ H Q→c σ H Q'):yi c tb D σ H:=by
  refine ⟨fun m σ H=>m = μ σ H∧Pv σ H,⟨_,rfl,h0⟩,?_⟩
  rintro m σ H ⟨rfl,p⟩
  refine mono σ H _ _ (fun b H1 q=>?_) (hs σ H p)
  cases b with
  | true=>exact ⟨_,fun σ' H' ⟨p',l⟩=>⟨_,l,rfl,p'⟩,q⟩
  | false=>exact q
end L2
namespace L2
open PySem PySem.Spec PyProof.Rows
abbrev R2:=V→V→Hp→VK→Prop
def OpR (X:Cx) (f:Value→Value→Sem Value) (r:R2):Prop :=
  ∀ (pins:List (Addr × Obj)) (s:Shared) (σ:St) (H:Hp) (x y:V) (v u:Value) (Q:VK),Inv X pins σ H s→RelV x v→RelV y u→r x y H Q →
    wpAny (model X.prog X.w) X.A (f v u) (EP X pins σ Q) X.xe s
def UnR (X:Cx) (f:Value→Sem Value) (r:V→Hp→VK→Prop):Prop :=
  ∀ (pins:List (Addr × Obj)) (s:Shared) (σ:St) (H:Hp) (x:V) (v:Value) (Q:VK),Inv X pins σ H s→RelV x v→r x H Q →
    wpAny (model X.prog X.w) X.A (f v) (EP X pins σ Q) X.xe s
def fM (X:Cx) (f:Value) (r:List V→Hp→VK→Prop):Prop :=
  ∀ (pins:List (Addr × Obj)) (s:Shared) (σ:St) (H:Hp) (xs:List V) (us:List Value) (Q:VK),Inv X pins σ H s→Vals xs us→r xs H Q →
    wpAny (model X.prog X.w) X.A (call f us) (EP X pins σ Q) X.xe s
def Ct (X:Cx) (r:V→Hp→(Bool→Hp→Prop)→Prop):Prop :=
  ∀ (pins:List (Addr × Obj)) (s:Shared) (σ:St) (H:Hp) (x:V) (v:Value) (Q:Bool→Hp→Prop),Inv X pins σ H s→RelV x v→r x H Q →
    wpAny (model X.prog X.w) X.A (truthy v) (TP X pins σ Q) X.xe s
def tOp (r:R2) (ta tb:TE):TE:=fun σ H Q=>ta σ H fun x H1=>tb σ H1 fun y H2=>r x y H2 Q
def tUn (r:V→Hp→VK→Prop) (ta:TE):TE:=fun σ H Q=>ta σ H fun x H1=>r x H1 Q
def rI (C:Int→Int→Prop) (g:Int→Int→V):R2:=fun x y H Q=>∃ i j,x = .int i∧y = .int j∧C i j∧Q (g i j) H
def rI0 (g:Int→Int→V):R2:=fun x y H Q=>∃ i j,x = .int i∧y = .int j∧Q (g i j) H
def rU (g:Int→V):V→Hp→VK→Prop:=fun x H Q=>∃ i,x = .int i∧Q (g i) H
section
variable {X:Cx} {a b c:Expr} {ta tb tc:TE} {pos:Pos}
theorem AK (ha:PE X a ta) (hb:PE X b tb) {pins:List (Addr × Obj)} {s:Shared} {σ:St} {H:Hp} {R:V→V→Hp→Prop} (I:Inv X pins σ H s)
    (h:ta σ H fun x H1=>tb σ H1 fun y H2=>R x y H2) {Q:Value→Shared→Prop} {f:Value→Value→Sem Value}
    (hf:∀ v u s2 x y H2,Inv X pins σ H2 s2→RelV x v→RelV y u→R x y H2→wpAny (model X.prog X.w) X.A (f v u) Q X.xe s2) :
    wpAny (model X.prog X.w) X.A (eval a X.env) (fun v s₁=>wpAny (model X.prog X.w) X.A (eval b X.env) (fun u s₂=>wpAny (model X.prog X.w) X.A (f v u) Q X.xe s₂) X.xe s₁) X.xe s:=by
  refine thn (ha pins s σ H _ I h) fun v s1 ⟨x,H1,I1,r1,q1⟩=>?_
  refine thn (hb pins s1 σ H1 _ I1 q1) fun u s2 ⟨y,H2,I2,r2,q2⟩=>?_
  exact hf v u s2 x y H2 I2 r1 r2 q2
theorem bE {op:Operator} {r:R2} (ho:OpR X (binaryOp op) r) (ha:PE X a ta) (hb:PE X b tb):PE X (.BinOp a op b pos) (tOp r ta tb):=by
  intro pins s σ H Q I h
  exact wpAny_BinOp (AK ha hb I h fun v u s2 x y H2 I2 rx ry q=>ho pins s2 σ H2 x y v u Q I2 rx ry q)
theorem xw {op:UnaryOp} {r:V→Hp→VK→Prop} (ho:UnR X (unaryOp op) r) (ha:PE X a ta):PE X (.UnaryOp op a pos) (tUn r ta):=by
  intro pins s σ H Q I h
  exact UnaryOp_ (thn (ha pins s σ H _ I h) fun v s1 ⟨x,H1,I1,r1,q1⟩=>ho pins s1 σ H1 x v Q I1 r1 q1)
theorem opI {f:Value→Value→Sem Value} {C:Int→Int→Prop} {g:Int→Int→Int}
    (rule:∀ (i j:Int) (t u:Tok) (s:Shared) (Q:Value→Shared→Prop) (E:Value→Shared→Prop),C i j→Q (.int (g i j) s.toks) { s with toks:=s.toks + 1 }→wpAny (model X.prog X.w) X.A (f (.int i t) (.int j u)) Q E s) :
    OpR X f (rI C fun i j=>.int (g i j)):=by
  intro pins s σ H x y v u Q I rx ry h
  obtain ⟨i,j,rfl,rfl,hc,q⟩:=h
  obtain ⟨t,rfl⟩:=rx
  obtain ⟨t',rfl⟩:=ry
  exact rule i j t t' s _ _ hc ⟨.int (g i j),H,I.tok _,⟨_,rfl⟩,q⟩
theorem B8 {f:Value→Value→Sem Value} {g:Int→Int→Int}
    (rule:∀ (i j:Int) (t u:Tok) (s:Shared) (Q:Value→Shared→Prop) (E:Value→Shared→Prop),Q (.int (g i j) s.toks) { s with toks:=s.toks + 1 }→wpAny (model X.prog X.w) X.A (f (.int i t) (.int j u)) Q E s) :
    OpR X f (rI0 fun i j=>.int (g i j)):=by
  intro pins s σ H x y v u Q I rx ry h
  obtain ⟨i,j,rfl,rfl,q⟩:=h
  obtain ⟨t,rfl⟩:=rx
  obtain ⟨t',rfl⟩:=ry
  exact rule i j t t' s _ _ ⟨.int (g i j),H,I.tok _,⟨_,rfl⟩,q⟩
theorem zm {f:Value→Value→Sem Value} {g:Int→Int→Bool}
    (rule:∀ (i j:Int) (t u:Tok) (s:Shared) (Q:Value→Shared→Prop) (E:Value→Shared→Prop),Q (.bool (g i j)) s→wpAny (model X.prog X.w) X.A (f (.int i t) (.int j u)) Q E s) :
    OpR X f (rI0 fun i j=>.bl (g i j)):=by
  intro pins s σ H x y v u Q I rx ry h
  obtain ⟨i,j,rfl,rfl,q⟩:=h
  obtain ⟨t,rfl⟩:=rx
  obtain ⟨t',rfl⟩:=ry
  exact rule i j t t' s _ _ ⟨.bl (g i j),H,I,rfl,q⟩
def Av (i j:Int):Prop:=0 < j∧j < 1073741824
def Cr (i j:Int):Prop:=0 ≤ j∧j ≤ 1000000∧i.natAbs < 2 ^ 64
def CMul (i j:Int):Prop:=(-(2 ^ 64) < i∧i < 2 ^ 64)∨(-(2 ^ 64) < j∧j < 2 ^ 64)
theorem CMul.ok {i j:Int} (h:CMul i j):IntMulOk i j:=by
  rcases h with ⟨h1,h2⟩ | ⟨h1,h2⟩
  · exact .of_left (intBits_le_64 h1 h2)
  · exact .of_right (intBits_le_64 h1 h2)
theorem dF:OpR X (binaryOp .Add) (rI0 fun i j=>.int (i + j)):=B8 fun _ _ _ _ _ _ _ q=>add_int q
theorem xo:OpR X (binaryOp .Sub) (rI0 fun i j=>.int (i - j)):=B8 fun _ _ _ _ _ _ _ q=>sub_int q
theorem xn:OpR X (binaryOp .Mult) (rI CMul fun i j=>.int (i * j)):=opI fun _ _ _ _ _ _ _ hc q=>mul_int q hc.ok
theorem jI:OpR X (binaryOp .FloorDiv) (rI Av fun i j=>.int (i / j)):=opI fun i j _ _ _ _ _ hc q=>by
  have h1:(0:Int) < j:=hc.1
  have h2:j < 1073741824:=hc.2
  exact floordiv_int (by omega) (by rw [Int.fdiv_eq_ediv_of_nonneg i (by omega)]; exact q) (.inl (PyProof.noPylong_small (by omega)))
theorem fB:OpR X (binaryOp .Mod) (rI (fun _ j=>0 < j) fun i j=>.int (i % j)):=opI fun i j _ _ _ _ _ hc q=>by
  have h1:(0:Int) < j:=hc
  exact mod_int' (by omega) (by rw [Int.fmod_eq_emod_of_nonneg i (by omega)]; exact q)
theorem oZ:OpR X (binaryOp .Pow) (rI Cr fun i j=>.int (i ^ j.toNat)):=opI fun _ _ _ _ _ _ _ hc q=>pow_int_small hc.1 hc.2.1 hc.2.2 q
theorem unI {f:Value→Sem Value} {g:Int→Int}
    (rule:∀ (i:Int) (t:Tok) (s:Shared) (Q:Value→Shared→Prop) (E:Value→Shared→Prop),Q (.int (g i) s.toks) { s with toks:=s.toks + 1 }→wpAny (model X.prog X.w) X.A (f (.int i t)) Q E s) :
    UnR X f (rU fun i=>.int (g i)):=by
  intro pins s σ H x v Q I rx h
  obtain ⟨i,rfl,q⟩:=h
  obtain ⟨t,rfl⟩:=rx
  exact rule i t s _ _ ⟨.int (g i),H,I.tok _,⟨_,rfl⟩,q⟩
theorem sO:UnR X (unaryOp .USub) (rU fun i=>.int (-i)):=unI fun _ _ _ _ _ q=>neg_int q
end
def Cj:V→V→Bool
  | .non,.non=>true | .non,.int _=>true | .int _,.non=>true | .non,.bl _=>true | .bl _,.non=>true | .non,.str _=>true | .str _,.non=>true
  | .int _,.int _=>true | .bl _,.bl _=>true | .str _,.str _=>true | .byt _,.byt _=>true
  | .int _,.str _=>true | .str _,.int _=>true | .bl _,.str _=>true | .str _,.bl _=>true
  | _,_=>false
def rEq:R2:=fun x y H Q=>Cj x y = true∧Q (.bl (decide (x = y))) H
def rNe:R2:=fun x y H Q=>Cj x y = true∧Q (.bl (!decide (x = y))) H
theorem tw {i j:Int}:decide (V.int i = V.int j) = (i == j):=by
  rw [Bool.eq_iff_iff]
  simp
theorem wx {i j:Bool}:decide (V.bl i = V.bl j) = (i == j):=by
  rw [Bool.eq_iff_iff]
  simp
theorem tD {i j:Str}:decide (V.str i = V.str j) = (i == j):=by
  rw [Bool.eq_iff_iff]
  simp
theorem tu {i j:Array UInt8}:decide (V.byt i = V.byt j) = (i.toList == j.toList):=by
  rw [Bool.eq_iff_iff]
  cases i
  cases j
  simp
section
variable {X:Cx} {a b c:Expr} {ta tb tc:TE} {pos:Pos}
theorem bN {pins:List (Addr × Obj)} {σ:St} {H:Hp} {s:Shared} {Q:VK} {k k':Bool} (I:Inv X pins σ H s) (q:Q (.bl k) H) (e:k = k'):EP X pins σ Q (.bool k') s:=by
  subst e
  exact ⟨.bl k,H,I,rfl,q⟩
theorem cg:OpR X (compareOp .Eq) rEq:=by
  intro pins s σ H x y v u Q I rx ry h
  obtain ⟨hs,q⟩:=h
  cases x with
  | non =>
    cases rx
    cases y with
    | non=>cases ry; exact PySem.EqNone.eq_none_none (bN I q (by simp))
    | bl j=>cases ry; exact PySem.EqNone.eq_none_bool (bN I q (by simp))
    | int j=>obtain ⟨t',rfl⟩:=ry; exact PySem.EqNone.eq_none_int (bN I q (by simp))
    | str j=>obtain ⟨t',rfl⟩:=ry; exact PySem.EqNone.eq_none_str (bN I q (by simp))
    | _=>exact absurd (show false = true from hs) Bool.false_ne_true
  | bl i =>
    cases rx
    cases y with
    | non=>cases ry; exact PySem.EqNone.eq_bool_none (bN I q (by simp))
    | bl j=>cases ry; exact eq_bool (bN I q wx)
    | str j=>obtain ⟨t',rfl⟩:=ry; exact PySem.EqMixed.eq_bool_str (bN I q (by simp))
    | _=>exact absurd (show false = true from hs) Bool.false_ne_true
  | int i =>
    obtain ⟨t,rfl⟩:=rx
    cases y with
    | non=>cases ry; exact PySem.EqNone.eq_int_none (bN I q (by simp))
    | int j=>obtain ⟨t',rfl⟩:=ry; exact eq_int (bN I q tw)
    | str j=>obtain ⟨t',rfl⟩:=ry; exact PySem.EqMixed.eq_int_str (bN I q (by simp))
    | _=>exact absurd (show false = true from hs) Bool.false_ne_true
  | str i =>
    obtain ⟨t,rfl⟩:=rx
    cases y with
    | non=>cases ry; exact PySem.EqNone.eq_str_none (bN I q (by simp))
    | bl j=>cases ry; exact PySem.EqMixed.eq_str_bool (bN I q (by simp))
    | int j=>obtain ⟨t',rfl⟩:=ry; exact PySem.EqMixed.eq_str_int (bN I q (by simp))
    | str j=>obtain ⟨t',rfl⟩:=ry; exact eq_str (bN I q tD)
    | _=>exact absurd (show false = true from hs) Bool.false_ne_true
  | byt i =>
    obtain ⟨t,rfl⟩:=rx
    cases y with
    | byt j=>obtain ⟨t',rfl⟩:=ry; exact PySem.W.eq_bytes (bN I q tu)
    | _=>exact absurd (show false = true from hs) Bool.false_ne_true
  | _=>cases y <;> exact absurd (show false = true from hs) Bool.false_ne_true
theorem gh:OpR X (compareOp .NotEq) rNe:=by
  intro pins s σ H x y v u Q I rx ry h
  obtain ⟨hs,q⟩:=h
  cases x with
  | non =>
    cases rx
    cases y with
    | non=>cases ry; exact PySem.EqNone.ne_none_none (bN I q (by simp))
    | bl j=>cases ry; exact PySem.EqNone.ne_none_bool (bN I q (by simp))
    | int j=>obtain ⟨t',rfl⟩:=ry; exact PySem.EqNone.ne_none_int (bN I q (by simp))
    | str j=>obtain ⟨t',rfl⟩:=ry; exact PySem.EqNone.ne_none_str (bN I q (by simp))
    | _=>exact absurd (show false = true from hs) Bool.false_ne_true
  | bl i =>
    cases rx
    cases y with
    | non=>cases ry; exact PySem.EqNone.ne_bool_none (bN I q (by simp))
    | bl j=>cases ry; exact ne_bool (bN I q (congrArg not wx))
    | str j=>obtain ⟨t',rfl⟩:=ry; exact PySem.EqMixed.ne_bool_str (bN I q (by simp))
    | _=>exact absurd (show false = true from hs) Bool.false_ne_true
  | int i =>
    obtain ⟨t,rfl⟩:=rx
    cases y with
    | non=>cases ry; exact PySem.EqNone.ne_int_none (bN I q (by simp))
    | int j=>obtain ⟨t',rfl⟩:=ry; exact ne_int (bN I q (congrArg not tw))
    | str j=>obtain ⟨t',rfl⟩:=ry; exact PySem.EqMixed.ne_int_str (bN I q (by simp))
    | _=>exact absurd (show false = true from hs) Bool.false_ne_true
  | str i =>
    obtain ⟨t,rfl⟩:=rx
    cases y with
    | non=>cases ry; exact PySem.EqNone.ne_str_none (bN I q (by simp))
    | bl j=>cases ry; exact PySem.EqMixed.ne_str_bool (bN I q (by simp))
    | int j=>obtain ⟨t',rfl⟩:=ry; exact PySem.EqMixed.ne_str_int (bN I q (by simp))
    | str j=>obtain ⟨t',rfl⟩:=ry; exact ne_str (bN I q (congrArg not tD))
    | _=>exact absurd (show false = true from hs) Bool.false_ne_true
  | byt i =>
    obtain ⟨t,rfl⟩:=rx
    cases y with
    | byt j=>obtain ⟨t',rfl⟩:=ry; exact PySem.W.ne_bytes (bN I q (congrArg not tu))
    | _=>exact absurd (show false = true from hs) Bool.false_ne_true
  | _=>cases y <;> exact absurd (show false = true from hs) Bool.false_ne_true
theorem nI:OpR X (compareOp .Lt) (rI0 fun i j=>.bl (decide (i < j))):=zm fun _ _ _ _ _ _ _ q=>lt_int q
theorem gJ:OpR X (compareOp .LtE) (rI0 fun i j=>.bl (decide (i ≤ j))):=zm fun _ _ _ _ _ _ _ q=>le_int q
theorem nG:OpR X (compareOp .Gt) (rI0 fun i j=>.bl (decide (j < i))):=zm fun _ _ _ _ _ _ _ q=>gt_int q
theorem xl:OpR X (compareOp .GtE) (rI0 fun i j=>.bl (decide (j ≤ i))):=zm fun _ _ _ _ _ _ _ q=>ge_int q
theorem ml:OpR X (compareOp .Is) (fun x y H Q=>y = .non∧Q (.bl (decide (x = .non))) H):=by
  intro pins s σ H x y v u Q I rx ry h
  obtain ⟨rfl,q⟩:=h
  cases ry
  refine is_none_gen (bN I q ?_)
  cases x <;> first
    | (cases rx; rfl)
    | (obtain ⟨t,rfl⟩:=rx; rfl)
theorem zq:OpR X (compareOp .IsNot) (fun x y H Q=>y = .non∧Q (.bl (!decide (x = .non))) H):=by
  intro pins s σ H x y v u Q I rx ry h
  obtain ⟨rfl,q⟩:=h
  cases ry
  refine isnot_none_gen (bN I q ?_)
  cases x <;> first
    | (cases rx; rfl)
    | (obtain ⟨t,rfl⟩:=rx; rfl)
theorem aL (b:Expr) {op:CmpOp} (h:op ≠ .In:=by decide) (h2:op ≠ .NotIn:=by decide):behindInMarks op b = false:=by
  have e1:(op == CmpOp.In) = false:=by cases op <;> first | rfl | exact absurd rfl h
  have e2:(op == CmpOp.NotIn) = false:=by cases op <;> first | rfl | exact absurd rfl h2
  cases b <;> simp [behindInMarks,e1,e2]
theorem bZ {op:CmpOp} {r:R2} (ho:OpR X (compareOp op) r) (ha:PE X a ta) (hb:PE X b tb) (hm:behindInMarks op b = false):PE X (.Compare a [op] [b] pos) (tOp r ta tb):=by
  intro pins s σ H Q I h
  exact wpAny_Compare1 (AK ha hb I h fun v u s2 x y H2 I2 rx ry q=>ho pins s2 σ H2 x y v u Q I2 rx ry q) hm
def yh (t:TE):TT:=fun σ H Q=>t σ H fun x H'=>∃ k,x = .bl k∧Q k H'
theorem aF {op:CmpOp} {r:R2} (ho:OpR X (compareOp op) r) (ha:PE X a ta) (hb:PE X b tb) (hm:behindInMarks op b = false):PT X (.Compare a [op] [b] pos) (yh (tOp r ta tb)):=by
  intro pins s σ H Q I h
  refine wpAny_isTrue_Compare1 (thn (ha pins s σ H _ I h) fun v s1 ⟨x,H1,I1,r1,q1⟩=>thn (hb pins s1 σ H1 _ I1 q1) fun u s2 ⟨y,H2,I2,r2,q2⟩ =>
    thn (ho pins s2 σ H2 x y v u _ I2 r1 r2 q2) fun c s3 ⟨z,H3,I3,r3,k,e,q3⟩=>?_) hm
  subst e
  cases r3
  exact wpAny_truthy_bool ⟨H3,I3,q3⟩
def pE (r r':R2) (ta tb tc:TE):TE:=fun σ H Q=>ta σ H fun x H1=>tb σ H1 fun y H2=>r x y H2 fun z H3=>∃ k,z = .bl k ∧
  (if k = true then tc σ H3 fun w' H4=>r' y w' H4 Q else Q (.bl false) H3)
theorem qR {op op':CmpOp} {r r':R2} (ho:OpR X (compareOp op) r) (ho':OpR X (compareOp op') r') (ha:PE X a ta) (hb:PE X b tb) (hc:PE X c tc)
    (hm:lastMarks [op,op'] [b,c] = false:=by with_unfolding_all rfl):PE X (.Compare a [op,op'] [b,c] pos) (pE r r' ta tb tc):=by
  intro pins s σ H Q I h
  refine Compare_chain (thn (ha pins s σ H _ I h) fun v s1 ⟨x,H1,I1,r1,q1⟩=>chain_link (thn (hb pins s1 σ H1 _ I1 q1) fun u s2 ⟨y,H2,I2,r2,q2⟩ =>
    thn (ho pins s2 σ H2 x y v u _ I2 r1 r2 q2) fun d s3 ⟨z,H3,I3,r3,k,e,q3⟩=>?_)) hm
  subst e
  cases r3
  refine wpAny_truthy_bool ?_
  cases k with
  | false=>exact ite_ff ⟨.bl false,H3,I3,rfl,q3⟩
  | true=>exact ite_tt (chain_last (thn (hc pins s3 σ H3 _ I3 q3) fun w' s4 ⟨z',H4,I4,r4,q4⟩=>ho' pins s4 σ H4 y z' u w' Q I4 r2 r4 q4))
theorem mx {op op':CmpOp} {r r':R2} (ho:OpR X (compareOp op) r) (ho':OpR X (compareOp op') r') (ha:PE X a ta) (hb:PE X b tb) (hc:PE X c tc)
    (hm:lastMarks [op,op'] [b,c] = false:=by with_unfolding_all rfl):PT X (.Compare a [op,op'] [b,c] pos) (yh (pE r r' ta tb tc)):=by
  intro pins s σ H Q I h
  refine isTrue_chain (thn (ha pins s σ H _ I h) fun v s1 ⟨x,H1,I1,r1,q1⟩=>test_link (thn (hb pins s1 σ H1 _ I1 q1) fun u s2 ⟨y,H2,I2,r2,q2⟩ =>
    thn (ho pins s2 σ H2 x y v u _ I2 r1 r2 q2) fun d s3 ⟨z,H3,I3,r3,k,e,q3⟩=>?_)) hm
  subst e
  cases r3
  refine wpAny_truthy_bool ?_
  cases k with
  | false =>
    obtain ⟨k',e',q'⟩:=q3
    cases e'
    exact ite_ff ⟨H3,I3,q'⟩
  | true =>
    refine ite_tt (test_last (thn (hc pins s3 σ H3 _ I3 q3) fun w' s4 ⟨z',H4,I4,r4,q4⟩=>thn (ho' pins s4 σ H4 y z' u w' _ I4 r2 r4 q4) fun d' s5 ⟨z2,H5,I5,r5,k2,e2,q5⟩=>?_))
    subst e2
    cases r5
    exact wpAny_truthy_bool ⟨H5,I5,q5⟩
def vZ (K:PySem.W.Frag) (x:V) (H:Hp) (k:Bool):Prop :=
  match x with
  | .non=>k = false
  | .bl b=>k = b
  | .int i=>k = (i != 0)
  | .str y=>y.length ≤ sizeLine∧k = ((y.length:Int) != 0)
  | .byt y=>y.size ≤ sizeLine∧k = ((y.size:Int) != 0)
  | .ref p=>(∃ xs,SqL K H p xs∧k = !xs.isEmpty)∨(∃ xs,SqT K H p xs∧k = !xs.isEmpty)∨∃ kvs,H p = some (.dK kvs)∧k = !kvs.isEmpty
  | _=>False
theorem rV {κ:Type} {kvs:List (κ × V)} {vs:List (κ × Value)} (r:KV kvs vs):(!vs.isEmpty) = !kvs.isEmpty:=by
  cases r <;> rfl
theorem lR {xs:List V} {its:List Value} (r:Vals xs its):(!its.toArray.isEmpty) = !xs.isEmpty:=by
  cases r <;> simp
theorem jn:(sizeLine:Nat) < 2 ^ 63:=by rw [sizeLine_eq]; decide
theorem BI:Ct X (fun x H Q=>∃ k,vZ X.K x H k∧Q k H):=by
  intro pins s σ H x v Q I rx h
  obtain ⟨k,e,q⟩:=h
  have hl:=jn
  have hs:sizeLine = 16777216:=sizeLine_eq
  cases x with
  | non =>
    cases rx
    have e':k = false:=e
    subst e'
    exact truthy_none ⟨H,I,q⟩
  | bl b =>
    cases rx
    have e':k = b:=e
    subst e'
    exact wpAny_truthy_bool ⟨H,I,q⟩
  | int i =>
    obtain ⟨t,rfl⟩:=rx
    have e':k = (i != 0):=e
    subst e'
    exact PySem.P.truthy_int ⟨H,I,q⟩
  | str y =>
    obtain ⟨t,rfl⟩:=rx
    obtain ⟨hy,e'⟩:y.length ≤ sizeLine∧k = ((y.length:Int) != 0):=e
    subst e'
    exact PySem.P.truthy_str (by omega) ⟨H,I.tok _,q⟩
  | byt y =>
    obtain ⟨t,rfl⟩:=rx
    obtain ⟨hy,e'⟩:y.size ≤ sizeLine∧k = ((y.size:Int) != 0):=e
    subst e'
    exact PySem.W.truthy_bytes (by omega) ⟨H,I.tok _,q⟩
  | ref p =>
    cases rx
    have e':(∃ xs,SqL X.K H p xs∧k = !xs.isEmpty)∨(∃ xs,SqT X.K H p xs∧k = !xs.isEmpty)∨∃ kvs,H p = some (.dK kvs)∧k = !kvs.isEmpty:=e
    rcases e' with ⟨xs,hx,e'⟩ | ⟨xs,hx,e'⟩ | ⟨kvs,hx,e'⟩
    · subst e'
      obtain ⟨its,r,pl,hz⟩:=I.list hx
      have hlen:=r.length
      exact wpAny_truthy_list pl.isList (by simp only [List.size_toArray]; omega) ⟨H,I.tok _,by rw [lR r]; exact q⟩
    · subst e'
      obtain ⟨its,r,pl,hz⟩:=I.tuple hx
      have hlen:=r.length
      exact truthy_tuple pl (by simp only [List.size_toArray]; omega) ⟨H,I.tok _,by rw [lR r]; exact q⟩
    · subst e'
      obtain ⟨hz,hS,vs,r,m⟩:kvs.length ≤ sizeLine∧(p == sysModules) = false∧∃ vs,KV kvs vs∧s.heap.DictOf (dm X.prog X.w) p vs:=I.hok p _ hx
      have hlen:kvs.length = vs.length:=Paired.length r
      exact wpAny_truthy_dict hS m (by omega) ⟨H,I.tok _,by rw [rV r]; exact q⟩
  | _=>exact (show False from e).elim
theorem bq (ha:PE X a ta) (he:∀ whole,isTrue a X.env whole = (do let v ← whole; standAt a.pos; holding [v] (truthy v))) :
    PT X a (fun σ H Q=>ta σ H fun x H'=>∃ k,vZ X.K x H' k∧Q k H'):=by
  intro pins s σ H Q I h
  exact isTrue_plain (thn (ha pins s σ H _ I h) fun v s1 ⟨x,H1,I1,r1,q1⟩=>BI pins s1 σ H1 x v Q I1 r1 q1) (he _)
theorem eY {x:V} {us:List Value} (r:Vals [x] us):∃ u,us = [u]∧RelV x u:=by
  cases r with
  | cons r1 r2=>cases r2; exact ⟨_,rfl,r1⟩
theorem Cp {x y:V} {us:List Value} (r:Vals [x,y] us):∃ u w',us = [u,w']∧RelV x u∧RelV y w':=by
  cases r with
  | cons r1 r2 =>
    cases r2 with
    | cons r3 r4=>cases r4; exact ⟨_,_,rfl,r1,r3⟩
end
end L2
namespace L2
open PySem PySem.Spec PyProof.Rows
section
variable {prog:Program} {w:World} {A:Around} {E:Value→Shared→Prop} {s:Shared} {K:PySem.W.Frag} {x dx C f:Addr} {mA:Str→Option Value} {name:Str} {v:Value}
end
theorem RelO.some_of {v:V} {o:Option Value} (r:RelO (some v) o):∃ u,o = some u∧RelV v u:=by
  cases o with
  | none=>exact (show False from r).elim
  | some u=>exact ⟨u,rfl,r⟩
section
variable {P:Program} {w:World} {H H':Hp} {h h':Heap} {a C dx:Addr} {fs fs':List (Str × V)}
end
section
variable {X:Cx} {pins:List (Addr × Obj)} {σ:St} {H:Hp} {s:Shared} {a C dx:Addr} {fs:List (Str × V)} {f:Str} {v:V} {A:Around} {E:Value→Shared→Prop}
end
section
variable {X:Cx} {o e value:Expr} {f:Str} {pos pos' tpos:Pos} {ta tv:TE}
end
section
variable {X:Cx} {pins:List (Addr × Obj)} {σ:St} {H:Hp} {s:Shared} {A:Around} {E:Value→Shared→Prop} {Q:Value→Shared→Prop} {c:Value} {b:Bool}
end
end L2
namespace L2
open PySem PySem.Spec PyProof.Rows
structure Room (k:Nat) (A:Around):Prop where
  hd:A.handled = none
  dp:A.depth + 3 * k + 5 < recursionLimit
  un:A.units + 16 * k + 200 < cLine
theorem Room.mono {j k:Nat} {A:Around} (r:Room k A) (h:j ≤ k):Room j A:=⟨r.hd,by have:=r.dp; omega,by have:=r.un; omega⟩
theorem Room.deeper {k:Nat} {A:Around} (r:Room (k + 1) A) (env:Env):Room k (A.deeper env) :=
  ⟨r.hd,by have:=r.dp; show A.depth + 1 + 3 * k + 5 < _; omega,by have:=r.un; show A.units + 3 + 16 * k + 200 < _; omega⟩
theorem Room.depth {k:Nat} {A:Around} (r:Room k A):A.depth < recursionLimit:=by have:=r.dp; omega
theorem Room.units {k:Nat} {A:Around} (r:Room k A):A.units + 64 < cLine:=by have:=r.un; omega
def cH:TA:=fun _ H Q=>Q [] H
def bB (ta:TE) (tr:TA):TA:=fun σ H Q=>ta σ H fun x H1=>tr σ H1 fun xs H2=>Q (x :: xs) H2
section
variable {X:Cx} {e:Expr} {es:List Expr} {te:TE} {t:TA} {pos:Pos}
theorem af:PA X [] cH:=fun _ _ _ _ H Q I h=>Calls.spliced_nil ⟨[],H,I,.nil,h⟩
theorem aS (ha:PE X e te) (hr:PA X es t) (hs:starEach (e :: es) X.env = (false,eval e X.env) :: starEach es X.env:=by rfl):PA X (e :: es) (bB te t):=by
  intro pos pins s σ H Q I h
  rw [hs]
  show wpAny _ _ (spliced ((false,eval e X.env) :: backTo pos (starEach es X.env))) _ _ s
  refine Calls.spliced_cons (thn (ha pins s σ H _ I h) fun u s1 ⟨x,H1,I1,r1,q1⟩=>?_)
  exact thn (hr pos pins s1 σ H1 _ I1 q1) fun us s2 ⟨xs,H2,I2,r2,q2⟩=>⟨x :: xs,H2,I2,.cons r1 r2,q2⟩
def vE (t:TA):TE:=fun σ H Q=>t σ H fun xs H1=>xs.length ≤ sizeLine∧∀ p,H1 p = none→Q (.ref p) (upd H1 p (.tup xs))
def kU (t:TA):TE:=fun σ H Q=>t σ H fun xs H1=>xs.length ≤ sizeLine∧∀ p,H1 p = none→Q (.ref p) (upd H1 p (.lst xs))
theorem aX {x1} (h:PA X es t):PE X (.Tuple es x1 pos) (vE t):=by
  intro pins s σ H Q I hq
  refine wpAny_Tuple_spliced (thn (h pos pins s σ H _ I hq) fun us s1 ⟨xs,H1,I1,r,z,q⟩=>⟨by rw [← r.length]; exact z,?_⟩)
  have hf:H1 s1.heap.objs.size = none:=I1.hok.fresh (Nat.le_refl _)
  refine ⟨.ref s1.heap.objs.size,upd H1 s1.heap.objs.size (.tup xs),I1.laid (t':=s1.toks) (fun b u e=>Heap.get?_push_of_some _ e) (Nat.le_refl _) ?_,rfl,q _ hf⟩
  exact ⟨z,us,r,⟨_,Heap.get?_push_size _ rfl,rfl,_,rfl⟩⟩
theorem bC (h:PA X es t):PE X (.List es pos) (kU t):=by
  intro pins s σ H Q I hq
  refine wpAny_List_spliced (thn (h pos pins s σ H _ I hq) fun us s1 ⟨xs,H1,I1,r,z,q⟩=>⟨by rw [← r.length]; exact z,?_⟩)
  have hf:H1 s1.heap.objs.size = none:=I1.hok.fresh (Nat.le_refl _)
  refine ⟨.ref s1.heap.objs.size,upd H1 s1.heap.objs.size (.lst xs),I1.laid (t':=s1.toks) (fun b u e=>Heap.get?_push_of_some _ e) (Nat.le_refl _) ?_,rfl,q _ hf⟩
  exact ⟨z,us,0,r,Heap.get?_push_size _ rfl⟩
end
abbrev Sp:=List V→Hp→VK→XK→Prop
abbrev CXT:=List Env→Hp→Shared→XK→Value→Shared→Prop
structure uh (P:Program) (w:World) (K:PySem.W.Frag) (mg:Str→Option Value) (base:Heap) (A:Around) (outer:List Env) (s:Shared) (H:Hp):Prop where
  frames:A.frames = some outer
  mod:Mod K mg base
  bs:∀ b o,base.get? b = some o→s.heap.get? b = some o∧H b = none
  bsz:base.objs.size ≤ s.heap.objs.size
  funs:s.heap.FunFrames base outer
  frf:∀ b ∈ frs outer,H b = none
  hok:HOk P w H s.heap
  bare:AllBare s.gens
def CE (outer:List Env) (P:Program) (w:World) (H:Hp) (s:Shared) (Q:VK) (u:Value) (s':Shared):Prop :=
  ∃ v H',s'.os = s.os∧AllBare s'.gens∧Un (frs outer) [] H H' s.heap s'.heap∧HOk P w H' s'.heap∧RelV v u∧Q v H'
def CR (CX:CXT) (outer:List Env) (P:Program) (w:World) (H:Hp) (s:Shared) (Q:VK) (E:XK) (r:Result) (s':Shared):Prop :=
  match r with
  | .ok (.ret u)=>CE outer P w H s Q u s'
  | .ok _=>False
  | .error e=>CX outer H s E e s'
structure FnOk (P:Program) (w:World) (K:PySem.W.Frag) (mg:Str→Option Value) (base:Heap) (CX:CXT) (k:Nat) (f:Addr) (fd:FuncData) (ps:List Str) (sp:Sp):Prop where
  len:∀ vs H Q E,sp vs H Q E→vs.length = ps.length
  run:∀ (A:Around) (outer:List Env) (s:Shared) (H:Hp) (args:Args) (us:List Value) (vs:List V) (Q:VK) (E:XK),Room k A→uh P w K mg base A outer s H→BindsTo s fd args (ps.zip us)→Vals vs us→sp vs H Q E →
    codeAny (model P w) A (.call (.ref f) args) (CR CX outer P w H s Q E) s
theorem FnOk.mono {P:Program} {w:World} {K:PySem.W.Frag} {mg:Str→Option Value} {base:Heap} {CX:CXT} {j k:Nat} {f:Addr} {fd:FuncData} {ps:List Str} {sp:Sp} (F:FnOk P w K mg base CX j f fd ps sp) (h:j ≤ k) :
    FnOk P w K mg base CX k f fd ps sp:=⟨F.len,fun A outer s H args us vs Q E hr=>F.run A outer s H args us vs Q E (hr.mono h)⟩
section
variable {X:Cx} {pins:List (Addr × Obj)} {σ:St} {H:Hp} {s s':Shared}
theorem Inv.env0 (I:Inv X pins σ H s):uh X.prog X.w X.K X.mg X.base X.A X.stack s H :=
  ⟨I.ok.frames,I.ok.mod,I.bs,Nat.le_trans I.ok.bsz I.sz,I.stack,I.stkFree,I.hok,I.bare⟩
theorem Inv.after {Q:VK} {u:Value} (I:Inv X pins σ H s) (h:CE X.stack X.prog X.w H s Q u s'):EP X pins σ Q u s':=by
  obtain ⟨v,H',os,bare,un,hok,r,q⟩:=h
  obtain ⟨hh,g,d,t,os'⟩:=s'
  obtain rfl:os' = s.os:=os
  exact ⟨v,H',I.call (h':=hh) (g':=g) (d':=d) (t':=t) (ch:=[]) un hok bare (fun b z=>absurd z (by simp)),r,q⟩
end
def gQ (sp:Sp) (dvs:List V) (E:XK) (t:TA):TE:=fun σ H Q=>t σ H fun vs H1=>sp (vs ++ dvs) H1 Q E
def Binds (K:PySem.W.Frag) (fd:FuncData) (ps:List Str) (ds:List Value):Prop :=
  ∀ (s:Shared) (us:List Value),K.In s.heap→(us ++ ds).length = ps.length→BindsTo s fd ⟨us,[]⟩ (ps.zip (us ++ ds))
theorem Binds.all {K:PySem.W.Frag} {fd:FuncData} {ps:List Str} (h:∀ us:List Value,us.length = ps.length→bindArgs fd ⟨us,[]⟩ = pure (ps.zip us)):Binds K fd ps []:=fun s us _ hl=>by
  rw [List.append_nil] at hl ⊢
  exact .of_eq (h us hl)
def ja (CX:CXT) (X:Cx) (E:XK):Prop:=∀ (pins:List (Addr × Obj)) (σ:St) (H:Hp) (s:Shared) (e:Value) (s':Shared),Inv X pins σ H s→CX X.stack H s E e s'→X.xe e s'
section
variable {X:Cx} {CX:CXT} {k:Nat} {f C:Addr} {fd:FuncData} {ps:List Str} {sp:Sp} {dvs:List V} {ds:List Value} {E:XK} {x m:Str} {p pos apos:Pos} {e o:Expr} {es:List Expr} {ta:TE} {t:TA}
theorem ya {pins:List (Addr × Obj)} {σ:St} {H:Hp} {s:Shared} {Q:VK} {us:List Value} {vs:List V} (F:FnOk X.prog X.w X.K X.mg X.base CX k f fd ps sp) (hr:Room k X.A) (hb:Binds X.K fd ps ds) (hd:Vals dvs ds) (hx:ja CX X E)
    (I:Inv X pins σ H s) (r:Vals vs us) (h:sp (vs ++ dvs) H Q E):wpAny (model X.prog X.w) X.A (call (.ref f) us) (EP X pins σ Q) X.xe s:=by
  have r2:Vals (vs ++ dvs) (us ++ ds):=r.append hd
  have hl:(us ++ ds).length = ps.length:=by rw [← r2.length]; exact F.len _ _ _ _ h
  refine wpAny_call (codeAny_mono (F.run X.A X.stack s H ⟨us,[]⟩ (us ++ ds) (vs ++ dvs) Q E hr I.env0 (hb s us I.kIn hl) r2 h) fun r s' hq=>?_)
  cases r with
  | error e=>exact hx pins σ H s e s' I hq
  | ok fl =>
    cases fl with
    | ret u=>exact I.after hq
    | next=>exact False.elim hq
    | brk=>exact False.elim hq
    | cont=>exact False.elim hq
theorem az (F:FnOk X.prog X.w X.K X.mg X.base CX k f fd ps sp) (hr:Room k X.A) (hg:Gl X x) (hm:X.mg x = some (.ref f)) (hk:PySem.W.keepIn X.K (.ref f) = true) (hb:Binds X.K fd ps ds) (hd:Vals dvs ds) (hx:ja CX X E)
    (ha:PA X (e :: es) t) (hdb:(x == ("__debug__":Str)) = false:=by decide) (he:starEach (e :: es) X.env = (false,eval e X.env) :: starEach es X.env:=by rfl) (hpl:(backTo pos (starEach es X.env)).any (·.1) = false:=by rfl) :
    PE X (.Call (.Name x p) (e :: es) [] pos) (gQ sp dvs E t):=by
  intro pins s σ H Q I h
  refine wpAny_Call_Name_kw (iQ I hg hm ?_ hdb)
  refine PySem.W.callWith_K (h₀:=X.base) I.ok.mod.kin hk (thn (ha pos pins s σ H _ I h) fun us s1 ⟨vs,H1,I1,r,q⟩=>⟨I1.kIn,?_⟩) he hpl
  exact ya F hr hb hd hx I1 r q
theorem xp (F:FnOk X.prog X.w X.K X.mg X.base CX k f fd ps sp) (hr:Room k X.A) (hg:Gl X x) (hm:X.mg x = some (.ref f)) (hk:PySem.W.keepIn X.K (.ref f) = true) (hb:Binds X.K fd ps ds) (hd:Vals dvs ds) (hx:ja CX X E)
    (hdb:(x == ("__debug__":Str)) = false:=by decide):PE X (.Call (.Name x p) [] [] pos) (gQ sp dvs E cH):=by
  intro pins s σ H Q I h
  refine wpAny_Call_Name_kw (iQ I hg hm ?_ hdb)
  exact PySem.W.callWith_K0 I.kIn hk (ya (us:=[]) F hr hb hd hx I .nil h)
end
section
variable {X:Cx} {CX:CXT} {k:Nat} {f C:Addr} {fd:FuncData} {ps ks:List Str} {sp:Sp} {E:XK} {x m:Str} {p pos apos kpos:Pos} {e o:Expr} {es:List Expr} {kws:List Keyword} {te ta:TE} {t tk:TA} {nm:Option Str}
variable {g:List Value→List Value→List Value} {gV:List V→List V→List V}
end
structure aU (N P:List Str) (sc:Scope):Prop where
  kind:sc.kind = .function
  co:sc.isCoroutine = false
  gen:sc.isGenerator = false
  nd:N.Nodup
  pre:N.take P.length = P
  par:∀ x ∈ P,sc.names.lookup x = some .local∨sc.names.lookup x = some .cell
  nofree:∀ y ∈ sc.names,y.2 ≠ .free
theorem ni {kindOf:Str→Option NameKind} {x:Str}:∀ {binds:List (Str × Value)} {m:Str→Option Value},(∀ v,(x,v) ∉ binds)→bindL kindOf binds m x = m x
  | [],_,_=>rfl
  | (n,v) :: r,m,h=>by
    unfold bindL
    rw [ni fun w hw=>h w (List.mem_cons_of_mem _ hw)]
    split
    · have:x ≠ n:=by rintro rfl; exact h v List.mem_cons_self
      simp [this]
    · rfl
theorem nc {kindOf:Str→Option NameKind} {x:Str}:∀ {binds:List (Str × Value)} {m:Str→Option Value},(∀ v,(x,v) ∉ binds)→bindC kindOf binds m x = m x
  | [],_,_=>rfl
  | (n,v) :: r,m,h=>by
    unfold bindC
    rw [nc fun w hw=>h w (List.mem_cons_of_mem _ hw)]
    split
    · rfl
    · have:x ≠ n:=by rintro rfl; exact h v List.mem_cons_self
      simp [this]
theorem ng {kindOf:Str→Option NameKind} {x:Str} {v:Value}:∀ {P:List Str} {vs:List Value} {i:Nat} {m:Str→Option Value},P.Nodup→P[i]? = some x→vs[i]? = some v→kindOf x = some .local →
    bindL kindOf (P.zip vs) m x = some v
  | [],_,_,_,_,h,_,_=>by simp at h
  | _ :: _,[],_,_,_,_,h,_=>by simp at h
  | p :: P,w :: vs,0,m,nd,h1,h2,hk=>by
    simp at h1 h2; subst h1; subst h2
    show bindL kindOf ((p,w) :: P.zip vs) m p = _
    unfold bindL
    rw [ni fun v hv=>(List.nodup_cons.mp nd).1 (List.of_mem_zip hv).1,if_pos hk]
    simp
  | p :: P,w :: vs,i + 1,m,nd,h1,h2,hk=>by
    show bindL kindOf ((p,w) :: P.zip vs) m x = _
    unfold bindL
    exact ng (i:=i) (List.nodup_cons.mp nd).2 (by simpa using h1) (by simpa using h2) hk
theorem m9 {kindOf:Str→Option NameKind} {x:Str} {v:Value}:∀ {P:List Str} {vs:List Value} {i:Nat} {m:Str→Option Value},P.Nodup→P[i]? = some x→vs[i]? = some v→kindOf x ≠ some .local →
    bindC kindOf (P.zip vs) m x = some v
  | [],_,_,_,_,h,_,_=>by simp at h
  | _ :: _,[],_,_,_,_,h,_=>by simp at h
  | p :: P,w :: vs,0,m,nd,h1,h2,hk=>by
    simp at h1 h2; subst h1; subst h2
    show bindC kindOf ((p,w) :: P.zip vs) m p = _
    unfold bindC
    rw [nc fun v hv=>(List.nodup_cons.mp nd).1 (List.of_mem_zip hv).1,if_neg hk]
    simp
  | p :: P,w :: vs,i + 1,m,nd,h1,h2,hk=>by
    show bindC kindOf ((p,w) :: P.zip vs) m x = _
    unfold bindC
    exact m9 (i:=i) (List.nodup_cons.mp nd).2 (by simpa using h1) (by simpa using h2) hk
def dW (N:List Str) (vs:List V):St:=vs.map some ++ List.replicate (N.length - vs.length) none
def jg (CX:CXT) (P:Program) (w:World) (K:PySem.W.Frag) (mg:Str→Option Value) (base:Heap) (N:List Str) (qual:Str) (scope:Scope) (f:Addr) (cd:Value) (A:Around) (outer:List Env) (s:Shared) (H:Hp) (E:XK):Cx where
  prog:=P
  w:=w
  K:=K
  mg:=mg
  base:=base
  A:=A.deeper (envOfC qual scope s.heap.objs.size f cd)
  N:=N
  s₀:=s
  H₀:=H
  env:=envOfC qual scope s.heap.objs.size f cd
  outer:=outer
  stack:=envOfC qual scope s.heap.objs.size f cd :: outer
  ex:=[]
  calm:=true
  fn:=fun _=>true
  pn:=[]
  xe:=fun e s'=>wpAny (model P w) (A.deeper (envOfC qual scope s.heap.objs.size f cd)) (leaving (envOfC qual scope s.heap.objs.size f cd) e) (fun _ s''=>CX outer H s E e s'') (fun e' s''=>CX outer H s E e' s'') s'
theorem pV {sc:Scope} {n:Nat} {x:Str} (h:sc.names.lookup x = some .cell):∃ c,(cellsFrom n sc.names []).lookup x = some c:=by
  have q:=PySem.W.cellsFrom_some sc.names n [] (.inl h)
  exact Option.isSome_iff_exists.mp q
theorem nD {CX:CXT} {P:Program} {w:World} {K:PySem.W.Frag} {mg:Str→Option Value} {base:Heap} {N ps:List Str} {qual:Str} {scope:Scope} {f:Addr} {cd:Value} {A:Around} {outer:List Env} {s s1:Shared} {H:Hp} {E:XK} {us:List Value} {vs:List V}
    (S:aU N ps scope) (hd:A.handled = none) (e0:uh P w K mg base A outer s H) (hl:vs.length = ps.length) (r:Vals vs us)
    (x:InCallC s s.heap.objs.size (bindL (envOfC qual scope s.heap.objs.size f cd).kindOf (ps.zip us) fun _=>none) (cellsFrom (s.heap.objs.size + 1) scope.names []) (bindC (envOfC qual scope s.heap.objs.size f cd).kindOf (ps.zip us) fun _=>none) s1) :
    Inv (jg CX P w K mg base N qual scope f cd A outer s H E) [] (dW N vs) H s1:=by
  have hpl:ps.length ≤ N.length:=by have:=congrArg List.length S.pre; rw [List.length_take] at this; omega
  obtain ⟨h1,tk,rfl,hk⟩:=x.done
  have noA:∀ b:Addr,b ∉ (jg CX P w K mg base N qual scope f cd A outer s H E).ex:=fun b z=>absurd (show b ∈ ([]:List Addr) from z) (by simp)
  refine ⟨⟨e0.mod,S.kind,rfl,rfl,Nat.le_refl _,fun y z c h1 h2=>?_,fun y hy=>?_,fun y c _ h=>?_,fun _=>hd,Around.frames_deeper e0.frames,.inr ⟨rfl,rfl⟩,fun b z=>absurd z (noA b),e0.bs,e0.bsz,fun b _ _=>noA b,fun b z=>absurd z (noA b),e0.funs,e0.frf⟩,
    rfl,e0.bare,Un.kept hk,⟨_,x.toInCall.ns,fun i y v h1 h2 h3=>?_⟩,fun y c h=>⟨_,x.cell y c h⟩,e0.hok.fresh (Nat.le_refl _),fun y c h=>?_,fun p hp=>absurd (show p ∈ ([]:List (Addr × Obj)) from hp) (by simp),e0.hok.kept hk,?_⟩
  · exact name_of_addr x.apart (PySem.mem_of_lookup h1) (PySem.mem_of_lookup h2)
  · have hy:scope.names.lookup y = some .cell∨scope.names.lookup y = some .free:=hy
    rcases hy with hy | hy
    · exact pV hy
    · exact absurd rfl (S.nofree _ (PySem.mem_of_lookup hy))
  · exact Nat.le_of_lt (x.above y c (PySem.mem_of_lookup h))
  · have hi:i < vs.length:=by
      unfold dW at h2
      by_cases hi:i < vs.length
      · exact hi
      · rw [List.getElem?_append_right (by simpa using hi)] at h2
        rw [List.getElem?_replicate] at h2
        split at h2 <;> cases h2
    have ha:vs[i]? = some v:=by
      unfold dW at h2
      rw [List.getElem?_append_left (by simpa using hi),List.getElem?_map] at h2
      cases e:vs[i]? with
      | none=>rw [e] at h2; cases h2
      | some a=>rw [e] at h2; cases h2; rfl
    obtain ⟨u,hu,rv⟩:=r.get ha
    have hp:ps[i]? = some y:=by
      rw [← S.pre,List.getElem?_take_of_lt (by omega)]; exact h1
    have ndP:ps.Nodup:=by rw [← S.pre]; exact S.nd.sublist (List.take_sublist _ _)
    refine ⟨u,rv,?_⟩
    rcases S.par y (List.mem_of_getElem? hp) with k | k
    · exact .inl ⟨k,ng ndP hp hu k⟩
    · obtain ⟨c,e⟩:=pV (n:=s.heap.objs.size + 1) k
      refine .inr ⟨.inl k,c,e,?_⟩
      have q:=x.cell y c e
      rw [m9 ndP hp hu (by show scope.names.lookup y ≠ _; rw [k]; decide)] at q
      exact q
  · exact e0.hok.fresh (Nat.le_of_lt (x.above y c (PySem.mem_of_lookup h)))
  · unfold dW
    show _ = N.length
    rw [List.length_append,List.length_map,List.length_replicate]
    omega
theorem Aa {CX:CXT} {P:Program} {w:World} {K:PySem.W.Frag} {mg:Str→Option Value} {base:Heap} {k:Nat} {f:Addr} {name qual:Str} {params:Arguments} {body:List Stmt} {scope:Scope} {dV kV doc pm cdv ct oc:Value} {an od:Option Addr}
    {osl:Array (Option Value)} {N ps:List Str} {sp:Sp} (lk:K.lookup f = some ⟨oc,od,.func (PySem.W.fnOf name qual params body scope dV kV doc pm an cdv ct),osl⟩) (hcd:PySem.W.codeIn K cdv qual = true) (S:aU N ps scope)
    (len:∀ vs H Q E,sp vs H Q E→vs.length = ps.length)
    (hbody:∀ (A:Around) (outer:List Env) (s:Shared) (H:Hp) (vs:List V) (Q:VK) (E:XK),Room k (A.deeper (envOfC qual scope s.heap.objs.size f cdv))→sp vs H Q E →
      ∃ t,PSs (jg CX P w K mg base N qual scope f cdv A outer s H E) body t∧t { nx:=fun _ H'=>Q .non H',rt:=Q } (dW N vs) H) :
    FnOk P w K mg base CX (k + 1) f (PySem.W.fnOf name qual params body scope dV kV doc pm an cdv ct) ps sp:=by
  refine ⟨len,fun A outer s H args us vs Q E hr e0 hb r hsp=>?_⟩
  have hl:=len _ _ _ _ hsp
  have KX:K.In s.heap:=e0.mod.kin.keeps fun b o e=>(e0.bs b o e).1
  have lim:s.heap.NoLimit:=e0.mod.nolimit.keeps fun b o e=>(e0.bs b o e).1
  have hkind:∀ y ∈ ps.zip us,scope.names.lookup y.1 = some .local∨(scope.names.lookup y.1 = some .cell∧((cellsFrom (s.heap.objs.size + 1) scope.names []).lookup y.1).isSome = true):=fun ⟨n,v⟩ hy=>by
    rcases S.par n (List.of_mem_zip hy).1 with q | q
    · exact .inl q
    · exact .inr ⟨q,PySem.W.cellsFrom_some _ _ _ (.inl q)⟩
  refine codeAny_call_function hr.depth (KX _ _ lk) rfl S.co S.gen rfl (PySem.W.codeRec_of KX hcd) (hb _ _ _ _ ?_)
  refine wpAny_newFunctionEnv_cells S.kind hkind fun env he s1 x=>?_
  subst he
  refine ⟨lim.keeps x.toInCall.keep,codeAny_func ?_⟩
  obtain ⟨t,ht,hq⟩:=hbody A outer s H vs Q E (hr.deeper _) hsp
  have I:Inv (jg CX P w K mg base N qual scope f cdv A outer s H E) [] (dW N vs) H s1:=nD S hr.hd e0 hl r x
  refine wpAny_mono (ht [] s1 (dW N vs) H _ I hq) (fun fl s' hs=>?_) fun e s' hs=>hs
  have fin:∀ {σ':St} {H':Hp} {v:V} {u:Value},Inv (jg CX P w K mg base N qual scope f cdv A outer s H E) [] σ' H' s'→RelV v u→Q v H'→CE outer P w H s Q u s' :=
    fun {σ' H' v u} J rv q=>⟨v,H',J.os,J.bare,J.base,J.hok,rv,q⟩
  cases fl with
  | ret u =>
    obtain ⟨v,σ',H',J,rv,q⟩:=hs
    exact fin J rv q
  | next =>
    obtain ⟨σ',H',J,q⟩:=hs
    exact fin (v:=V.non) (u:=Value.none) J rfl q
  | brk =>
    obtain ⟨_,_,_,q⟩:=hs
    exact False.elim q
  | cont =>
    obtain ⟨_,_,_,q⟩:=hs
    exact False.elim q
end L2
namespace L2
open PySem PySem.Spec PyProof.Rows
section
variable {X:Cx} {x:Str} {p pos:Pos} {e:Expr} {es:List Expr} {t:TA} {id T:String} {r:List V→Hp→VK→Prop}
def tCB (r:List V→Hp→VK→Prop) (t:TA):TE:=fun σ H Q=>t σ H fun vs H1=>r vs H1 Q
theorem aA (hc:fM X (.builtin id) r) (hg:Gl X x) (hm:X.mg x = none) (hv:bootBuiltins x = some (.builtin id)) (ha:PA X (e :: es) t) (hn:x ≠ "__name__":=by decide) (hdb:(x == ("__debug__":Str)) = false:=by decide)
    (he:starEach (e :: es) X.env = (false,eval e X.env) :: starEach es X.env:=by rfl) (hpl:(backTo pos (starEach es X.env)).any (·.1) = false:=by rfl):PE X (.Call (.Name x p) (e :: es) [] pos) (tCB r t):=by
  intro pins s σ H Q I h
  refine wpAny_Call_Name_kw (jm I hg hm hv ?_ hn hdb)
  exact PyProof.Rows.callWith_builtin1 (thn (ha pos pins s σ H _ I h) fun us s1 ⟨vs,H1,I1,r1,q1⟩=>hc pins s1 σ H1 vs us Q I1 r1 q1) he hpl
theorem dN (hc:fM X (.type T) r) (hg:Gl X x) (hm:X.mg x = none) (hv:bootBuiltins x = some (.type T)) (ha:PA X (e :: es) t) (hn:x ≠ "__name__":=by decide) (hdb:(x == ("__debug__":Str)) = false:=by decide)
    (he:starEach (e :: es) X.env = (false,eval e X.env) :: starEach es X.env:=by rfl) (hpl:(backTo pos (starEach es X.env)).any (·.1) = false:=by rfl):PE X (.Call (.Name x p) (e :: es) [] pos) (tCB r t):=by
  intro pins s σ H Q I h
  refine wpAny_Call_Name_kw (jm I hg hm hv ?_ hn hdb)
  exact PyProof.Rows.callWith_type1 (thn (ha pos pins s σ H _ I h) fun us s1 ⟨vs,H1,I1,r1,q1⟩=>hc pins s1 σ H1 vs us Q I1 r1 q1) he hpl
end
end L2
namespace HT
open PySem PyProof.Rows
section
open PySem.SeqAt
open PySem.AutoSeq1 (wpAny_loadPart')
open PySem.MeetsSeq PySem.MeetsSeq2 PySem.MeetsSeq3
end
section
variable {prog:Program} {w:World} {A:Around} {E:Value→Shared→Prop} {s:Shared}
theorem cat_tup {t b:Addr} {vs ws:List Value} {Q:Value→Shared→Prop} (ht:IsTup s.heap t vs.toArray) (hb:IsTup s.heap b ws.toArray) (hv:vs ≠ [])
    (h1:ws = []→Q (.ref t) s) (h2:ws ≠ []→Q (.ref s.heap.objs.size) { s with heap:=s.heap.push { cls:=.type "tuple",data:=.seq (vs ++ ws).toArray } })
    (hsz:vs.length + ws.length ≤ sizeLine):wpAny (model prog w) A (binaryOp .Add (.ref t) (.ref b)) Q E s:=by
  obtain ⟨⟨cls,dd,data,sl⟩,ho,hc,n,hd⟩:=id ht
  obtain ⟨⟨cls2,dd2,data2,sl2⟩,ho2,hc2,n2,hd2⟩:=id hb
  simp only at hc hd hc2 hd2
  subst hc hd hc2 hd2
  have e:vs.toArray ++ ws.toArray = (vs ++ ws).toArray:=by simp
  by_cases hw:ws = []
  · exact concat_meets ⟨_,ho,rfl⟩ ⟨_,ho2,rfl⟩ noFill_tuple_add seq_tuple_add PySem.F.slot_tuple_add PySem.F.entry_tuple_add (PySem.F.args_tuple_add_2 _ _)
      (tuple_addW1 t b vs.toArray ws.toArray n n2 dd dd2 sl sl2 (by simpa using hv) (by simp [hw])) ⟨ho,ho2,h1 hw⟩
  · refine concat_meets ⟨_,ho,rfl⟩ ⟨_,ho2,rfl⟩ noFill_tuple_add seq_tuple_add PySem.F.slot_tuple_add PySem.F.entry_tuple_add (PySem.F.args_tuple_add_2 _ _)
      (tuple_addW2 t b vs.toArray ws.toArray n n2 dd dd2 sl sl2 (by simpa using hv) (by simpa using hw) (by rw [List.size_toArray,List.size_toArray]; exact hsz)) ⟨ho,ho2,?_⟩
    rw [e]
    exact h2 hw
def sIx (n d:Nat):Option Int→Nat
  | none=>d
  | some v=>if v < 0 then (v + (n:Int)).toNat else min v.toNat n
theorem sIx_none (n d:Nat):sIx n d none = d:=rfl
theorem sIx_nat (n d k:Nat):sIx n d (some (k:Int)) = min k n:=by
  show (if (k:Int) < 0 then ((k:Int) + (n:Int)).toNat else min (k:Int).toNat n) = min k n
  rw [if_neg (by omega),Int.toNat_natCast]
theorem Bz (n d:Nat) (hd:d ≤ n) (o:Option Int):sIx n d o ≤ n:=by
  cases o with
  | none=>exact hd
  | some v =>
    show (if v < 0 then (v + (n:Int)).toNat else min v.toNat n) ≤ n
    by_cases hv:v < 0
    · rw [if_pos hv]; omega
    · rw [if_neg hv]; exact Nat.min_le_right _ _
theorem sZ (v:Int) (n d:Nat):(if v < 0 then max (v + (n:Int)) 0 else min v (n:Int)) = ((sIx n d (some v):Nat):Int):=by
  show (if v < 0 then max (v + (n:Int)) 0 else min v (n:Int)) = (((if v < 0 then (v + (n:Int)).toNat else min v.toNat n):Nat):Int)
  by_cases hv:v < 0
  · simp only [if_pos hv]; omega
  · simp only [if_neg hv]; omega
theorem rF (lo hi:Option Int) (n:Nat):Builtin.Slice.sliceAdjust lo hi 1 (n:Int) = (((sIx n 0 lo:Nat):Int),((sIx n n hi:Nat):Int)):=by
  have h1:¬ ((1:Int) < 0):=by omega
  unfold Builtin.Slice.sliceAdjust
  simp only [h1,if_false]
  refine Prod.ext ?_ ?_
  · cases lo with
    | none=>rfl
    | some v=>exact sZ v n 0
  · cases hi with
    | none=>rfl
    | some v=>exact sZ v n n
theorem sx (i j:Nat):Builtin.Slice.slicePlaces (i:Int) (j:Int) 1 = j - i:=by
  unfold Builtin.Slice.slicePlaces
  have h1:(1:Int) > 0:=by omega
  simp only [h1,if_true,Int.ediv_one]
  split <;> omega
theorem mE {v:Value} {o:Option Int} {Q:Option Int→Shared→Prop} (p:IsPart v o) (h:Q o s):wpAny (model prog w) A (Builtin.Slice.slicePartIndex v) Q E s:=by
  cases p with
  | none=>exact slicePart_none h
  | int i t=>exact slicePart_int h
theorem ky {sl:Addr} {vl vu:Value} {lo hi:Option Int} {n:Nat} {Q:Int × Int × Nat→Shared→Prop} (hs:s.heap.IsSliceOf sl vl vu .none) (pl:IsPart vl lo) (pu:IsPart vu hi)
    (h:Q (((sIx n 0 lo:Nat):Int),1,sIx n n hi - sIx n 0 lo) s):wpAny (model prog w) A (Builtin.Slice.sliceApplied (.ref sl) (pure (n:Int))) Q E s:=by
  obtain ⟨os,hos,hcs,hds⟩:=id hs
  unfold Builtin.Slice.sliceApplied Builtin.Slice.sliceFields
  refine wpAny_bind (wpAny_bind (wpAny_field hos hds (x:=vl) rfl (wpAny_bind (wpAny_field hos hds (x:=vu) rfl (wpAny_bind (wpAny_field hos hds (x:=.none) rfl (wpAny_pure ?_)))))))
  refine wpAny_bind (slicePart_none ?_)
  show wpAny _ _ (if ((1:Int) == 0) = true then _ else _) _ _ s
  rw [if_neg (by decide)]
  refine wpAny_bind (mE pl (wpAny_bind (mE pu (wpAny_bind (wpAny_pure ?_)))))
  show wpAny _ _ (match Builtin.Slice.sliceAdjust lo hi 1 (n:Int) with | (lo,hi)=>pure (lo,(1:Int),Builtin.Slice.slicePlaces lo hi 1)) _ _ s
  rw [rF lo hi n]
  show wpAny _ _ (pure (((sIx n 0 lo:Nat):Int),(1:Int),Builtin.Slice.slicePlaces ((sIx n 0 lo:Nat):Int) ((sIx n n hi:Nat):Int) 1)) _ _ s
  rw [sx]
  exact wpAny_pure h
theorem xB (xs:Array Value) (i k:Nat):((List.range k).filterMap fun (m:Nat)=>xs[((i:Int) + (m:Int) * 1).toNat]?).toArray = ((xs.toList.drop i).take k).toArray:=by
  have e:(fun (m:Nat)=>xs[((i:Int) + (m:Int) * 1).toNat]?) = fun m=>xs[i + m]?:=by
    funext m
    have:((i:Int) + (m:Int) * 1).toNat = i + m:=by omega
    rw [this]
  rw [e]
  have:=pick_run xs i k
  rw [List.filterMap_map] at this
  have e2:((fun x=>xs[x]?) ∘ fun x=>i + x) = fun m=>xs[i + m]?:=rfl
  rw [e2] at this
  rw [this]
theorem getItem_tuple_cut {t sl:Addr} {items:Array Value} {vl vu:Value} {lo hi:Option Int} {Q:Value→Shared→Prop} (ht:IsTup s.heap t items) (hs:s.heap.IsSliceOf sl vl vu .none) (pl:IsPart vl lo) (pu:IsPart vu hi)
    (hw:¬ (sIx items.size 0 lo = 0∧sIx items.size items.size hi = items.size))
    (h:Q (.ref s.heap.objs.size) { s with heap:=s.heap.push { cls:=.type "tuple",data:=.seq ((items.toList.drop (sIx items.size 0 lo)).take (sIx items.size items.size hi - sIx items.size 0 lo)).toArray } })
    (hsz:items.size ≤ sizeLine):wpAny (model prog w) A (getItem (.ref t) (.ref sl)) Q E s:=by
  have htake:sizeOk (.seq ((items.toList.drop (sIx items.size 0 lo)).take (sIx items.size items.size hi - sIx items.size 0 lo)).toArray):=by
    show ((items.toList.drop (sIx items.size 0 lo)).take (sIx items.size items.size hi - sIx items.size 0 lo)).toArray.size ≤ sizeLine
    rw [List.size_toArray,List.length_take,List.length_drop,Array.length_toList]
    omega
  have hj:sIx items.size items.size hi ≤ items.size:=Bz _ _ (Nat.le_refl _) hi
  obtain ⟨os,hos,hcs,hds⟩:=id hs
  have hTs:s.TypeIs (.ref sl) "slice":=⟨os,hos,hcs⟩
  unfold getItem
  try with_reducible refine wpAny_holding ?_
  first | refine wpAny_bind (wpAny_pure ?_) | skip
  refine wpAny_bind (wpAny_sequenceKey ht.typeIs (by decide) ?_)
  refine wpAny_bind (wpAny_callSpecial?_slot (name:=Str.ofString "__getitem__") ht.typeIs PyProof.Rows.slot_tuple_getitem
    (wpAny_call_entry PyProof.Rows.slot_tuple_getitem ht.typeIs entry_tuple_getitem ?_ (args_tuple_getitem _ _)))
  show wpAny _ _ (Builtin.Tuple.tupleItemsOf (.ref t) >>= _) _ _ s
  refine wpAny_bind (tupleItemsOf_ ht ?_)
  refine wpAny_bind (wpAny_typeOf hTs ?_)
  rw [if_pos (by decide)]
  refine wpAny_bind (ky hs pl pu ?_)
  have hno:¬ ((((sIx items.size 0 lo:Nat):Int) == 0 && (1:Int) == 1 && (sIx items.size items.size hi - sIx items.size 0 lo) == items.size) = true):=by
    intro q
    rw [Bool.and_eq_true,Bool.and_eq_true] at q
    have q1:((sIx items.size 0 lo:Nat):Int) = 0:=eq_of_beq q.1.1
    have q2:sIx items.size items.size hi - sIx items.size 0 lo = items.size:=eq_of_beq q.2
    exact hw ⟨by omega,by omega⟩
  show wpAny _ _ (if (((sIx items.size 0 lo:Nat):Int) == 0 && (1:Int) == 1 && (sIx items.size items.size hi - sIx items.size 0 lo) == items.size) = true then _ else _) _ _ s
  rw [if_neg hno,xB]
  first
    | exact wpAny_bind (m:=Builtin.Tuple.tupleExact _) (wpAny_newObj_type (wpAny_pure ⟨_,rfl,wpAny_pure h⟩) htake)
    | exact wpAny_bind (m:=Builtin.Tuple.tupleExact _) (wpAny_newObj_type (wpAny_bind (wpAny_pure (wpAny_pure ⟨_,rfl,wpAny_pure h⟩))) htake)
    | exact wpAny_bind (wpAny_bind (m:=Builtin.Tuple.tupleExact _) (wpAny_newObj_type (wpAny_pure (wpAny_pure ⟨_,rfl,wpAny_pure h⟩)) htake))
    | exact wpAny_bind (wpAny_bind (m:=Builtin.Tuple.tupleExact _) (wpAny_newObj_type (wpAny_pure ⟨_,rfl,wpAny_pure h⟩) htake))
end
end HT
namespace L2
open PySem PySem.Spec PyProof.Rows
abbrev TO:=St→Hp→(Option Int→Hp→Prop)→Prop
def PO (X:Cx) (e:Option Expr) (t:TO):Prop :=
  ∀ (pins:List (Addr × Obj)) (s:Shared) (σ:St) (H:Hp) (Q:Option Int→Hp→Prop),Inv X pins σ H s→t σ H Q →
    wpAny (model X.prog X.w) X.A (evalPart e X.env) (fun u s'=>∃ o H',Inv X pins σ H' s'∧IsPart u o∧Q o H') X.xe s
def ud:TO:=fun _ H Q=>Q none H
def ue (t:TE):TO:=fun σ H Q=>t σ H fun x H1=>∃ i,x = .int i∧Q (some i) H1
section
variable {X:Cx} {e:Expr} {te:TE} {lo hi:Option Expr} {tl th:TO} {pos p2:Pos}
theorem kY:PO X none ud:=by
  intro pins s σ H Q I h
  rw [evalPart_none]
  exact wpAny_pure ⟨none,H,I,.none,h⟩
theorem iS (h:PE X e te):PO X (some e) (ue te):=by
  intro pins s σ H Q I hw
  rw [evalPart_some]
  refine thn (h pins s σ H _ I hw) fun u s1 ⟨x,H1,I1,r1,q1⟩=>?_
  obtain ⟨i,rfl,q⟩:=q1
  obtain ⟨t,rfl⟩:=r1
  exact ⟨some i,H1,I1,.int i t,q⟩
def SlR (X:Cx) (r:V→Option Int→Option Int→Hp→VK→Prop):Prop :=
  ∀ (pins:List (Addr × Obj)) (s:Shared) (σ:St) (H:Hp) (x:V) (v vl vu:Value) (lo hi:Option Int) (sl:Addr) (Q:VK),Inv X pins σ H s→RelV x v→s.heap.IsSliceOf sl vl vu .none→IsPart vl lo→IsPart vu hi→r x lo hi H Q →
    ∃ T id,typeLookup (.type T) "__getitem__" = pure (some (.builtin id))∧s.TypeIs v T∧wpAny (model X.prog X.w) X.A (getItem v (.ref sl)) (EP X pins σ Q) X.xe s
def tSl (r:V→Option Int→Option Int→Hp→VK→Prop) (te:TE) (tl th:TO):TE:=fun σ H Q=>te σ H fun x H1=>tl σ H1 fun l H2=>th σ H2 fun u H3=>r x l u H3 Q
theorem iM {r:V→Option Int→Option Int→Hp→VK→Prop} (hr:SlR X r) (he:PE X e te) (hl:PO X lo tl) (hu:PO X hi th):PE X (.Subscript e (.Slice lo hi none p2) pos) (tSl r te tl th):=by
  intro pins s σ H Q I h
  refine Subscript_ (thn (he pins s σ H _ I h) fun v s1 ⟨x,H1,I1,r1,q1⟩=>?_)
  refine wpAny_Slice (thn (hl pins s1 σ H1 _ I1 q1) fun vl s2 ⟨l,H2,I2,pl,q2⟩=>thn (hu pins s2 σ H2 _ I2 q2) fun vu s3 ⟨u,H3,I3,pu,q3⟩=>?_)
  rw [evalPart_none]
  refine wpAny_pure ?_
  have I4:Inv X pins σ H3 { s3 with heap:=s3.heap.push { cls:=.type "slice",data:=.fields #[vl,vu,.none] } }:=I3.kept (t':=s3.toks) fun b ob q=>Heap.get?_push_of_some _ q
  obtain ⟨T,id,hT,ht,hg⟩:=hr pins { s3 with heap:=s3.heap.push { cls:=.type "slice",data:=.fields #[vl,vu,.none] } } σ H3 x v vl vu l u s3.heap.objs.size Q I4 r1 (Heap.IsSliceOf.new ..) pl pu q3
  show wpAny (model X.prog X.w) X.A (subscriptTail e (.Slice lo hi none p2) v (.ref s3.heap.objs.size)) (EP X pins σ Q) X.xe { s3 with heap:=s3.heap.push { cls:=.type "slice",data:=.fields #[vl,vu,.none] } }
  exact tail_any (ops:=[.ref s3.heap.objs.size,v]) ht hT hg (by with_unfolding_all rfl)
def pY (xs:List V) (lo hi:Option Int):List V:=(xs.drop (HT.sIx xs.length 0 lo)).take (HT.sIx xs.length xs.length hi - HT.sIx xs.length 0 lo)
theorem pZ (xs:List V) (lo hi:Option Int):(pY xs lo hi).length ≤ xs.length:=by
  unfold pY
  rw [List.length_take,List.length_drop]
  omega
def Bm (K:PySem.W.Frag):V→Option Int→Option Int→Hp→VK→Prop:=fun x lo hi H Q=>∃ a xs,x = .ref a∧SqT K H a xs ∧
  ¬ (HT.sIx xs.length 0 lo = 0∧HT.sIx xs.length xs.length hi = xs.length)∧∀ p,H p = none→Q (.ref p) (upd H p (.tup (pY xs lo hi)))
theorem mD:SlR X (Bm X.K):=by
  intro pins s σ H x v vl vu lo hi sl Q I rx hs pl pu h
  obtain ⟨a,xs,rfl,hx,hw,q⟩:=h
  cases rx
  obtain ⟨its,r,ht,hz⟩:=I.tuple hx
  have hlen:its.toArray.size = xs.length:=by rw [List.size_toArray]; exact r.length.symm
  refine ⟨"tuple",_,PyProof.Rows.slot_tuple_getitem.lookup,ht.typeIs,?_⟩
  refine HT.getItem_tuple_cut ht hs pl pu (by rw [hlen]; exact hw) ?_ (by rw [hlen]; exact hz)
  rw [hlen]
  refine ⟨.ref s.heap.objs.size,_,I.laid (t':=s.toks) (o:=.tup (pY xs lo hi)) (fun b ob q=>Heap.get?_push_of_some _ q) (Nat.le_refl _) ?_,rfl,q _ (I.hok.fresh (Nat.le_refl _))⟩
  exact ⟨Nat.le_trans (pZ xs lo hi) hz,_,(r.drop (HT.sIx xs.length 0 lo)).take (HT.sIx xs.length xs.length hi - HT.sIx xs.length 0 lo),IsTup.new _ _⟩
def B9 (K:PySem.W.Frag):R2:=fun x y H Q=>∃ a b xs ys,x = .ref a∧y = .ref b∧SqT K H a xs∧SqT K H b ys∧xs ≠ []∧xs.length + ys.length ≤ sizeLine ∧
  (ys = []→Q (.ref a) H)∧(ys ≠ []→∀ p,H p = none→Q (.ref p) (upd H p (.tup (xs ++ ys))))
theorem Vals.nil_iff {xs:List V} {us:List Value} (r:Vals xs us):us = []↔xs = []:=by
  cases r with
  | nil=>simp
  | cons _ _=>simp
theorem zo:OpR X (binaryOp .Add) (B9 X.K):=by
  intro pins s σ H x y v u Q I rx ry h
  obtain ⟨a,b,xs,ys,rfl,rfl,ha,hb,hx,hz,q1,q2⟩:=h
  cases rx
  cases ry
  obtain ⟨its,r1,p1,_⟩:=I.tuple ha
  obtain ⟨its2,r2,p2,_⟩:=I.tuple hb
  refine HT.cat_tup p1 p2 (fun z=>hx (r1.nil_iff.mp z)) (fun z=>⟨.ref a,H,I,rfl,q1 (r2.nil_iff.mp z)⟩) (fun z=>?_) (by rw [← r1.length,← r2.length]; exact hz)
  refine ⟨.ref s.heap.objs.size,_,I.laid (t':=s.toks) (o:=.tup (xs ++ ys)) (fun b ob q=>Heap.get?_push_of_some _ q) (Nat.le_refl _) ?_,rfl,q2 (fun w=>z (r2.nil_iff.mpr w)) _ (I.hok.fresh (Nat.le_refl _))⟩
  exact ⟨by rw [List.length_append]; exact hz,_,r1.append r2,IsTup.new _ _⟩
end
end L2
namespace L2
open PySem PySem.Spec PyProof.Rows
def ixN (n:Nat) (i:Int):Option Nat:=if 0 ≤ i then (if i < n then some i.toNat else none) else if -(n:Int) ≤ i then some (i + n).toNat else none
def atI {α:Type} (xs:List α) (i:Int):Option α:=(ixN xs.length i).bind fun j=>xs[j]?
theorem tM {n:Nat} {i:Int} {j:Nat} (h:ixN n i = some j):seqIndex? i n = some j∧j < n∧-(n:Int) ≤ i∧i < n:=by
  unfold ixN at h
  by_cases h0:0 ≤ i
  · rw [if_pos h0] at h
    by_cases h1:i < n
    · rw [if_pos h1] at h
      have e:i.toNat = j:=Option.some.inj h
      exact ⟨by rw [seqIndex_of h0 h1,e],by omega,by omega,h1⟩
    · rw [if_neg h1] at h; cases h
  · rw [if_neg h0] at h
    by_cases h1:-(n:Int) ≤ i
    · rw [if_pos h1] at h
      have e:(i + n).toNat = j:=Option.some.inj h
      exact ⟨by rw [seqIndex_neg (by omega) h1,e],by omega,h1,by omega⟩
    · rw [if_neg h1] at h; cases h
theorem sW {α:Type} {xs:List α} {i:Int} {v:α} (h:atI xs i = some v):∃ j,seqIndex? i xs.length = some j∧xs[j]? = some v∧j < xs.length∧-(xs.length:Int) ≤ i∧i < xs.length:=by
  unfold atI at h
  cases e:ixN xs.length i with
  | none=>rw [e] at h; cases h
  | some j =>
    rw [e] at h
    obtain ⟨h1,h2,h3,h4⟩:=tM e
    exact ⟨j,h1,h,h2,h3,h4⟩
theorem fG {α:Type} {xs:List α} {j:Nat} {v:α} (h:xs[j]? = some v):atI xs (j:Int) = some v:=by
  have hj:j < xs.length:=(List.getElem?_eq_some_iff.mp h).1
  have e:ixN xs.length (j:Int) = some j:=by
    unfold ixN
    rw [if_pos (by omega),if_pos (by omega)]; simp
  unfold atI; rw [e]; exact h
theorem v7 {α:Type} (xs:List α) (v:α):atI (xs ++ [v]) (-1) = some v:=by
  have hl:(xs ++ [v]).length = xs.length + 1:=by simp
  have e:ixN (xs ++ [v]).length (-1) = some xs.length:=by
    unfold ixN
    rw [hl,if_neg (by decide),if_pos (by omega)]
    congr 1
    omega
  unfold atI
  rw [e]
  show (xs ++ [v])[xs.length]? = some v
  simp
def yy (b:Expr):Prop:=∀ o i,subscripted b false o i = operate [o,i] (getItem o i)
def IxR (X:Cx) (r:R2):Prop :=
  ∀ (value slice:Expr) (pins:List (Addr × Obj)) (s:Shared) (σ:St) (H:Hp) (x y:V) (v u:Value) (Q:VK),Inv X pins σ H s→RelV x v→RelV y u→r x y H Q →
    subscripted slice false v u = operate [v,u] (getItem v u)→wpAny (model X.prog X.w) X.A (subscriptTail value slice v u) (EP X pins σ Q) X.xe s
def MtR (X:Cx) (id:String) (r:V→List V→Hp→VK→Prop):Prop :=
  ∀ (pins:List (Addr × Obj)) (s:Shared) (σ:St) (H:Hp) (x:V) (xs:List V) (v:Value) (us:List Value) (Q:VK),Inv X pins σ H s→RelV x v→Vals xs us→r x xs H Q →
    wpAny (model X.prog X.w) X.A (call (.builtin id) (v :: us)) (EP X pins σ Q) X.xe s
section
variable {X:Cx} {a b:Expr} {ta tb:TE} {pos:Pos}
theorem aE {r:R2} (hr:IxR X r) (ha:PE X a ta) (hb:PE X b tb) (hs:yy b):PE X (.Subscript a b pos) (tOp r ta tb):=by
  intro pins s σ H Q I h
  exact Subscript_ (AK ha hb I h fun v u s2 x y H2 I2 rx ry q=>hr a b pins s2 σ H2 x y v u Q I2 rx ry q (hs _ _))
def sA (K:PySem.W.Frag):R2:=fun x y H Q=>∃ p xs i v,x = .ref p∧y = .int i∧SqL K H p xs∧atI xs i = some v∧Q v H
def o6 (K:PySem.W.Frag):R2:=fun x y H Q=>∃ p xs i v,x = .ref p∧y = .int i∧SqT K H p xs∧atI xs i = some v∧Q v H
theorem bp:IxR X (sA X.K):=by
  intro value slice pins s σ H x y v u Q I rx ry h hs
  obtain ⟨p,xs,i,z,rfl,rfl,hq,he,q⟩:=h
  cases rx
  obtain ⟨t,rfl⟩:=ry
  obtain ⟨its,r,pl,hz⟩:=I.list hq
  obtain ⟨j,h1,h2,h3,h4,h5⟩:=sW he
  obtain ⟨w,ew,rw'⟩:=r.get h2
  have hl:=r.length
  have hn:=jn
  have fin:EP X pins σ Q w s:=⟨z,H,I,rw',q⟩
  by_cases h0:0 ≤ i
  · have hj:i.toNat = j:=by
      rw [seqIndex_of h0 h5] at h1
      exact Option.some.inj h1
    exact item_listR pl.isList h0 (by omega) (by rw [hj]; simpa using ew) fin hs
  · have hj:(i + (its.toArray.size:Int)).toNat = j:=by
      rw [seqIndex_neg (by omega) h4] at h1
      rw [List.size_toArray,← hl]
      exact Option.some.inj h1
    exact subscriptTail_builtinR (x:=w) pl.isList.typeIs slot_list_getitem.lookup
      (wpAny_getItem_list_neg (Q:=fun r s'=>r = w∧EP X pins σ Q r s') pl.isList (by omega) (by rw [List.size_toArray] <;> omega) (by omega) (by rw [hj]; simpa using ew) ⟨rfl,fin⟩) hs
theorem aI:IxR X (o6 X.K):=by
  intro value slice pins s σ H x y v u Q I rx ry h hs
  obtain ⟨p,xs,i,z,rfl,rfl,hq,he,q⟩:=h
  cases rx
  obtain ⟨t,rfl⟩:=ry
  obtain ⟨its,r,pl,hz⟩:=I.tuple hq
  obtain ⟨j,h1,h2,h3,h4,h5⟩:=sW he
  obtain ⟨w,ew,rw'⟩:=r.get h2
  have hl:=r.length
  have hn:=jn
  have fin:EP X pins σ Q w s:=⟨z,H,I,rw',q⟩
  exact subscriptTail_builtinR (x:=w) pl.typeIs slot_tuple_getitem.lookup
    (getItem_tuple (j:=j) (Q:=fun r s'=>r = w∧EP X pins σ Q r s') pl (by omega) (by omega) (by rw [List.size_toArray,← hl]; exact h1) (by simpa using ew) ⟨rfl,fin⟩) hs
theorem rZ (its:List Value) (n j:Nat) (u:Value):Obj.mapSeq (·.setIfInBounds j u) { cls:=.type "list",data:=.seq its.toArray n } = { cls:=.type "list",data:=.seq (its.set j u).toArray n }:=by
  simp [Obj.mapSeq]
theorem Inv.lst {pins:List (Addr × Obj)} {σ:St} {H:Hp} {s:Shared} {p:Addr} {xs:List V} (I:Inv X pins σ H s) (h:H p = some (.lst xs)) :
    ∃ (its:List Value) (n:Nat),Vals xs its∧s.heap.get? p = some { cls:=.type "list",data:=.seq its.toArray n }∧xs.length ≤ sizeLine:=by
  obtain ⟨z,its,n,r,e⟩:=I.hok p _ h
  exact ⟨its,n,r,e,z⟩
theorem Inv.lstUpd {pins:List (Addr × Obj)} {σ:St} {H:Hp} {s:Shared} {p:Addr} {xs ys:List V} {its its':List Value} {n n':Nat} {f:Obj→Obj} (I:Inv X pins σ H s) (h:H p = some (.lst xs))
    (ho:s.heap.get? p = some { cls:=.type "list",data:=.seq its.toArray n }) (hf:f { cls:=.type "list",data:=.seq its.toArray n } = { cls:=.type "list",data:=.seq its'.toArray n' }) (r:Vals ys its') (hz:ys.length ≤ sizeLine) (t:Nat) :
    Inv X pins σ (upd H p (.lst ys)) { s with heap:=s.heap.update p f,toks:=t }:=by
  have e:(s.heap.update p f).get? p = some { cls:=.type "list",data:=.seq its'.toArray n' }:=by
    rw [Heap.get?_update_self f ho (by rw [hf] <;> rfl),hf]
  refine I.write (x:=p) (e:=p) (by rw [h]; trivial) (.inl rfl) (fun b u hb q=>(Heap.get?_update_other _ _ (Ne.symm hb)).trans q) ⟨_,e⟩ ?_
  exact ⟨hz,its',n',r,e⟩
def Cc:V→V→V→Hp→(Hp→Prop)→Prop:=fun o i v H Q=>∃ p xs k j,o = .ref p∧i = .int k∧H p = some (.lst xs)∧ixN xs.length k = some j∧Q (upd H p (.lst (xs.set j v)))
theorem jQ:Aw X Cc:=by
  intro pins s σ H o i v ov iv u Q I ro ri rv h
  obtain ⟨p,xs,k,j,rfl,rfl,hp,hj,q⟩:=h
  cases ro
  obtain ⟨t,rfl⟩:=ri
  obtain ⟨its,n,r,ho,hz⟩:=I.lst hp
  obtain ⟨h1,h2,h3,h4⟩:=tM hj
  have hl:=r.length
  have hn:=jn
  have I':Inv X pins σ (upd H p (.lst (xs.set j v))) { s with heap:=s.heap.update p (Obj.mapSeq (·.setIfInBounds j u)) } :=
    I.lstUpd hp ho (rZ its n j u) (r.set rv j) (by rw [List.length_set]; exact hz) s.toks
  by_cases h0:0 ≤ k
  · have hk:k.toNat = j:=by
      rw [seqIndex_of h0 h4] at h1
      exact Option.some.inj h1
    exact PySem.W.ki_setAt ho h0 (by omega) (by rw [List.size_toArray,← hl]; exact h4) (by rw [hk]; exact ⟨_,I',q⟩)
  · have hk:(k + (its.toArray.size:Int)).toNat = j:=by
      rw [seqIndex_neg (by omega) h3] at h1
      rw [List.size_toArray,← hl]
      exact Option.some.inj h1
    exact PySem.W.ki_setBack ho (by omega) (by rw [List.size_toArray,← hl]; exact h3) (by omega) (by rw [hk]; exact ⟨_,I',q⟩)
def i6:V→Bool
  | .non=>true
  | .bl _=>true
  | .int _=>true
  | .str _=>true
  | _=>false
def eqV:V→V→Bool
  | .non,.non=>true
  | .bl a,.bl b=>a == b
  | .bl a,.int b=>(if a then 1 else 0) == b
  | .int a,.bl b=>a == (if b then 1 else 0)
  | .int a,.int b=>a == b
  | .str a,.str b=>a == b
  | _,_=>false
theorem AR {A:Around} {s:Shared} {y x:V} {u v:Value} (ry:RelV y u) (rx:RelV x v) (fy:i6 y = true) (fx:i6 x = true):SeqAt.EqAt A s u v (eqV y x):=by
  cases y with
  | non =>
    cases ry
    cases x with
    | non=>cases rx; exact SeqAt.EqAt.same _
    | bl b=>cases rx; exact SeqAt.EqAt.none_bool b
    | int b=>obtain ⟨t,rfl⟩:=rx; exact SeqAt.EqAt.none_int b t
    | str b=>obtain ⟨t,rfl⟩:=rx; exact SeqAt.EqAt.none_str b t
    | _=>exact absurd (show false = true from fx) Bool.false_ne_true
  | bl a =>
    cases ry
    cases x with
    | non=>cases rx; exact SeqAt.EqAt.bool_none a
    | bl b=>cases rx; exact SeqAt.EqAt.bool_bool a b
    | int b=>obtain ⟨t,rfl⟩:=rx; exact SeqAt.EqAt.bool_int a b t
    | str b=>obtain ⟨t,rfl⟩:=rx; exact SeqAt.EqAt.bool_str a b t
    | _=>exact absurd (show false = true from fx) Bool.false_ne_true
  | int a =>
    obtain ⟨t',rfl⟩:=ry
    cases x with
    | non=>cases rx; exact SeqAt.EqAt.int_none a t'
    | bl b=>cases rx; exact SeqAt.EqAt.int_bool a t' b
    | int b=>obtain ⟨t,rfl⟩:=rx; exact SeqAt.EqAt.int_int a t' b t
    | str b=>obtain ⟨t,rfl⟩:=rx; exact SeqAt.EqAt.int_str a t' b t
    | _=>exact absurd (show false = true from fx) Bool.false_ne_true
  | str a =>
    obtain ⟨t',rfl⟩:=ry
    cases x with
    | non=>cases rx; exact SeqAt.EqAt.str_none a t'
    | bl b=>cases rx; exact SeqAt.EqAt.str_bool a t' b
    | int b=>obtain ⟨t,rfl⟩:=rx; exact SeqAt.EqAt.str_int a t' b t
    | str b=>obtain ⟨t,rfl⟩:=rx; exact SeqAt.EqAt.str_str a t' b t
    | _=>exact absurd (show false = true from fx) Bool.false_ne_true
  | _=>exact absurd (show false = true from fy) Bool.false_ne_true
def eqU (x:V) (u:Value):Bool:=match u with
  | .none=>eqV .non x
  | .bool b=>eqV (.bl b) x
  | .int i _=>eqV (.int i) x
  | .str z _=>eqV (.str z) x
  | _=>false
theorem wA {x y:V} {u:Value} (r:RelV y u) (f:i6 y = true):eqU x u = eqV y x:=by
  cases y with
  | non=>cases r; rfl
  | bl b=>cases r; rfl
  | int i=>obtain ⟨t,rfl⟩:=r; rfl
  | str z=>obtain ⟨t,rfl⟩:=r; rfl
  | _=>exact absurd (show false = true from f) Bool.false_ne_true
theorem jw {x:V}:∀ {xs:List V} {us:List Value},Vals xs us→xs.all i6 = true→us.any (eqU x) = xs.any fun y=>eqV y x
  | _,_,.nil,_=>rfl
  | y :: xs,u :: us,.cons r t,f=>by
    rw [List.all_cons,Bool.and_eq_true] at f
    rw [List.any_cons,List.any_cons,wA r f.1,jw t f.2]
theorem iJ {A:Around} {s:Shared} {x:V} {v:Value} (rx:RelV x v) (fx:i6 x = true):∀ {xs:List V} {us:List Value},Vals xs us→xs.all i6 = true→∀ u ∈ us,SeqAt.EqAt A s u v (eqU x u)
  | _,_,.nil,_=>fun u hu=>by cases hu
  | y :: xs,u :: us,.cons r t,f=>fun u' hu=>by
    rw [List.all_cons,Bool.and_eq_true] at f
    rcases List.mem_cons.mp hu with rfl | hu
    · rw [wA r f.1]; exact AR r rx f.1 fx
    · exact iJ rx fx t f.2 u' hu
def inV (x:V) (xs:List V):Bool:=xs.any fun y=>eqV y x
def rIn (K:PySem.W.Frag) (neg:Bool):R2:=fun x y H Q=>∃ p xs,y = .ref p∧(SqL K H p xs∨SqT K H p xs)∧i6 x = true∧xs.all i6 = true∧Q (.bl (if neg then !inV x xs else inV x xs)) H
theorem nH:OpR X (compareOp .In) (rIn X.K false):=by
  intro pins s σ H x y v u Q I rx ry h
  obtain ⟨p,xs,rfl,hq,fx,fs,q⟩:=h
  cases ry
  rcases hq with hq | hq
  · obtain ⟨its,r,pl,hz⟩:=I.list hq
    refine SeqAt.in_listAt (eqU x) pl.isList (fun w hw=>iJ rx fx r fs w (by simpa using hw)) ⟨.bl _,H,I,rfl,?_⟩
    rw [show its.toArray.any (eqU x) = its.any (eqU x) by simp,jw r fs]
    exact q
  · obtain ⟨its,r,pl,hz⟩:=I.tuple hq
    refine SeqAt.in_tupleAt (eqU x) pl (fun w hw=>iJ rx fx r fs w (by simpa using hw)) ⟨.bl _,H,I,rfl,?_⟩
    rw [show its.toArray.any (eqU x) = its.any (eqU x) by simp,jw r fs]
    exact q
theorem jK:OpR X (compareOp .NotIn) (rIn X.K true):=by
  intro pins s σ H x y v u Q I rx ry h
  obtain ⟨p,xs,rfl,hq,fx,fs,q⟩:=h
  cases ry
  rcases hq with hq | hq
  · obtain ⟨its,r,pl,hz⟩:=I.list hq
    refine SeqAt.notIn_listAt (eqU x) pl.isList (fun w hw=>iJ rx fx r fs w (by simpa using hw)) ⟨.bl _,H,I,rfl,?_⟩
    rw [show its.toArray.any (eqU x) = its.any (eqU x) by simp,jw r fs]
    exact q
  · obtain ⟨its,r,pl,hz⟩:=I.tuple hq
    refine SeqAt.notIn_tupleAt (eqU x) pl (fun w hw=>iJ rx fx r fs w (by simpa using hw)) ⟨.bl _,H,I,rfl,?_⟩
    rw [show its.toArray.any (eqU x) = its.any (eqU x) by simp,jw r fs]
    exact q
theorem aH:fM X (.builtin "len") (fun xs H Q=>∃ p ys,xs = [.ref p]∧(SqL X.K H p ys∨SqT X.K H p ys)∧Q (.int ys.length) H):=by
  intro pins s σ H xs us Q I r h
  obtain ⟨p,ys,rfl,hq,q⟩:=h
  obtain ⟨u,rfl,rx⟩:=eY r
  cases rx
  have hn:=jn
  rcases hq with hq | hq
  · obtain ⟨its,r',pl,hz⟩:=I.list hq
    have hlen:=r'.length
    exact Calls.call_len_list pl.isList (by simp only [List.size_toArray] <;> omega) ⟨.int ys.length,H,I.tok _,⟨s.toks + 1,by rw [List.size_toArray,hlen]⟩,q⟩
  · obtain ⟨its,r',pl,hz⟩:=I.tuple hq
    have hlen:=r'.length
    exact len_tuple pl (by simp only [List.size_toArray] <;> omega) ⟨.int ys.length,H,I.tok _,⟨s.toks + 1,by rw [List.size_toArray,hlen]⟩,q⟩
theorem oj:fM X (.builtin "len") (fun xs H Q=>∃ z,xs = [.str z]∧z.length ≤ sizeLine∧Q (.int z.length) H):=by
  intro pins s σ H xs us Q I r h
  obtain ⟨z,rfl,hz,q⟩:=h
  obtain ⟨u,rfl,t,rfl⟩:=eY r
  have hn:=jn
  exact len_str (by omega) ⟨.int z.length,H,I.tok _,⟨_,rfl⟩,q⟩
theorem dC:fM X (.type "tuple") (fun xs H Q=>∃ p ys,xs = [.ref p]∧((SqL X.K H p ys∧∀ l,H l = none→Q (.ref l) (upd H l (.tup ys)))∨(SqT X.K H p ys∧Q (.ref p) H))):=by
  intro pins s σ H xs us Q I r h
  obtain ⟨p,ys,rfl,h⟩:=h
  obtain ⟨u,rfl,rx⟩:=eY r
  cases rx
  rcases h with ⟨hq,q⟩ | ⟨hq,q⟩
  · obtain ⟨its,r',pl,hz⟩:=I.list hq
    have hlen:=r'.length
    refine call_tuple_list pl.isList (fun h' kp=>?_) (by simp only [List.size_toArray] <;> omega)
    have I1:Inv X pins σ H { s with heap:=h' }:=I.kept (t':=s.toks) kp
    have I2:Inv X pins σ (upd H h'.objs.size (.tup ys)) { s with heap:=h'.push { cls:=.type "tuple",data:=.seq its.toArray } } :=
      I1.laid (t':=s.toks) (fun b o e=>Heap.get?_push_of_some _ e) (Nat.le_refl _) (show ObjOk X.prog X.w _ _ _ (.tup ys) from ⟨hz,its,r',IsTup.new _ _⟩)
    exact ⟨.ref h'.objs.size,_,I2,rfl,q _ (I1.hok.fresh (Nat.le_refl _))⟩
  · obtain ⟨its,r',pl,hz⟩:=I.tuple hq
    exact call_tuple_same pl ⟨.ref p,H,I,rfl,q⟩
def tyV (K:PySem.W.Frag) (T:String) (x:V) (H:Hp):Prop:=match x with
  | .str _=>T = "str"
  | .int _=>T = "int"
  | .ref p=>(T = "list"∧∃ xs,SqL K H p xs)∨(T = "tuple"∧∃ o,K.lookup p = some o∧o.cls = .type "tuple"∧o.dict = none) ∨
      (T = "dict"∧((∃ kvs,H p = some (.dK kvs))∨∃ kvs,H p = some (.dT kvs)))∨(T = "set"∧∃ S n,H p = some (.set S n))
  | _=>False
theorem yn {pins:List (Addr × Obj)} {σ:St} {H:Hp} {s:Shared} {T:String} {x:V} {v:Value} (I:Inv X pins σ H s) (r:RelV x v) (ty:tyV X.K T x H) :
    s.TypeIs v T∧∀ a,v = .ref a→∃ ob,s.heap.get? a = some ob∧ob.dict = none:=by
  cases x with
  | str z =>
    obtain ⟨t,rfl⟩:=r
    cases (show T = "str" from ty)
    exact ⟨typeIs_str s z t,fun _ e=>nomatch e⟩
  | int i =>
    obtain ⟨t,rfl⟩:=r
    cases (show T = "int" from ty)
    exact ⟨typeIs_int s i t,fun _ e=>nomatch e⟩
  | ref p =>
    cases r
    rcases ty with ⟨rfl,xs,hq⟩ | ⟨rfl,o,hk,hc,hd⟩ | ⟨rfl,hk⟩ | ⟨rfl,S,n,hk⟩
    · obtain ⟨its,_,pl,_⟩:=I.list hq
      refine ⟨pl.isList.typeIs,fun a e=>?_⟩
      cases e
      obtain ⟨o,n,e,c,hd,_⟩:=pl
      exact ⟨o,e,hd⟩
    · refine ⟨⟨o,I.kIn p o hk,hc⟩,fun a e=>?_⟩
      cases e
      exact ⟨o,I.kIn _ o hk,hd⟩
    · have z:∃ o,s.heap.get? p = some o∧o.ExactDict:=by
        rcases hk with ⟨kvs,hk⟩ | ⟨kvs,hk⟩
        · obtain ⟨_,_,_,_,o,_,_,e,ex,_⟩:=I.hok p _ hk
          exact ⟨o,e,ex⟩
        · obtain ⟨_,_,_,_,o,_,_,e,ex,_⟩:=I.hok p _ hk
          exact ⟨o,e,ex⟩
      obtain ⟨o,e,ex⟩:=z
      refine ⟨⟨o,e,ex.1⟩,fun a e2=>?_⟩
      cases e2
      exact ⟨o,e,ex.2.1⟩
    · obtain ⟨o,_,_,_,e,ex,_⟩:=I.hok p _ hk
      refine ⟨⟨o,e,ex.1⟩,fun a e2=>?_⟩
      cases e2
      exact ⟨o,e,ex.2.1⟩
  | _=>exact False.elim ty
def CY (K:PySem.W.Frag) (T:String) (r:V→List V→Hp→VK→Prop) (to:TE):TE:=fun σ H Q=>to σ H fun x H1=>tyV K T x H1∧r x [] H1 Q
def tBM (K:PySem.W.Frag) (T:String) (r:V→List V→Hp→VK→Prop) (to:TE) (t:TA):TE:=fun σ H Q=>to σ H fun x H1=>tyV K T x H1∧t σ H1 fun xs H2=>r x xs H2 Q
variable {o e:Expr} {es:List Expr} {to:TE} {t:TA} {name:Str} {apos cpos:Pos} {T id:String} {r:V→List V→Hp→VK→Prop}
theorem Bd (pa:PlainAttrs T) (slot:Slot T name id) (hty:typeOf (.builtin id) = pure (.type "method_descriptor")) (hm:MtR X id r) (ho:PE X o to)
    (hbase:attributeBase o name X.env (eval o X.env) = eval o X.env:=by rfl) (hline:(apos.endLine == cpos.line) = true:=by rfl):PE X (.Call (.Attribute o name apos) [] [] cpos) (CY X.K T r to):=by
  intro pins s σ H Q I h
  refine wpAny_Call_method0_late hbase hline (thn (ho pins s σ H _ I h) fun v s1 ⟨x,H1,I1,r1,ty,q1⟩=>?_)
  obtain ⟨h1,h2⟩:=yn I1 r1 ty
  exact ⟨T,id,pa,slot,hty,h1,h2,Calls.callWith_builtin rfl (PySem.evalArgs_none (hm pins s1 σ H1 x [] v [] Q I1 r1 .nil q1))⟩
theorem cZ (pa:PlainAttrs T) (slot:Slot T name id) (hty:typeOf (.builtin id) = pure (.type "method_descriptor")) (hm:MtR X id r) (ho:PE X o to) (ha:PA X (e :: es) t)
    (hbase:attributeBase o name X.env (eval o X.env) = eval o X.env:=by rfl)
    (hfew:((backTo cpos (starEach (e :: es) X.env)).all (fun x=>!x.1) && (backToKw cpos (keywordEach [] X.env)).all (fun x=>x.1.isSome)
      && decide ((e :: es).length + ([]:List Keyword).length + (if ([]:List Keyword).isEmpty then 0 else 1) < 30)) = true:=by rfl)
    (hline:(apos.endLine == cpos.line) = true:=by rfl) (hs:starEach (e :: es) X.env = (false,eval e X.env) :: starEach es X.env:=by rfl) (hplain:(backTo cpos (starEach es X.env)).any (·.1) = false:=by rfl) :
    PE X (.Call (.Attribute o name apos) (e :: es) [] cpos) (tBM X.K T r to t):=by
  intro pins s σ H Q I h
  refine wpAny_Call_method_late hbase hfew hline rfl (thn (ho pins s σ H _ I h) fun v s1 ⟨x,H1,I1,r1,ty,q1⟩=>?_)
  obtain ⟨h1,h2⟩:=yn I1 r1 ty
  refine ⟨T,id,pa,slot,hty,h1,h2,?_⟩
  have hA:=ha cpos pins s1 σ H1 _ I1 q1
  rw [hs] at hA ⊢
  refine Calls.callWith_builtin (by show (false || (backTo cpos (starEach es X.env)).any (·.1)) = false; rw [hplain] <;> rfl) (Calls.evalArgs_plain ?_)
  exact thn hA fun us s2 ⟨vs,H2,I2,r2,q2⟩=>hm pins s2 σ H2 x vs v us Q I2 r1 r2 q2
end
end L2
namespace L2
open PySem PySem.Spec PyProof.Rows
def MtM (X:Cx) (id:String) (r:V→List V→Hp→VK→Prop):Prop :=
  ∀ (pins:List (Addr × Obj)) (s:Shared) (σ:St) (H:Hp) (x:V) (xs:List V) (v:Value) (us:List Value) (Q:VK),Inv X pins σ H s→RelV x v→Vals xs us→r x xs H Q →
    wpAny (model X.prog X.w) X.A (call (.builtin id) (v :: us)) (EP X pins σ Q) X.xe s
theorem Vals.one:∀ {x:V} {us:List Value},Vals [x] us→∃ u,us = [u]∧RelV x u
  | _,_,.cons r .nil=>⟨_,rfl,r⟩
theorem Vals.zero:∀ {us:List Value},Vals [] us→us = []
  | _,.nil=>rfl
theorem Vals.dropLast {xs:List V} {us:List Value} (h:Vals xs us):Vals xs.dropLast us.dropLast:=by
  induction h with
  | nil=>exact .nil
  | cons r t ih =>
    cases t with
    | nil=>exact .nil
    | cons q t'=>exact .cons r ih
theorem rP {α:Type} (l:List α):l.eraseIdx (l.length - 1) = l.dropLast:=by
  induction l with
  | nil=>rfl
  | cons a r ih =>
    cases r with
    | nil=>rfl
    | cons b r =>
      have e:(a :: b :: r).length - 1 = ((b :: r).length - 1) + 1:=by
        have h1:(a :: b :: r).length = r.length + 2:=rfl
        have h2:(b :: r).length = r.length + 1:=rfl
        omega
      rw [e,List.eraseIdx_cons_succ,ih]
      all_goals rfl
section
variable {X:Cx} {pins:List (Addr × Obj)} {σ:St} {H:Hp} {s:Shared} {l b:Addr} {xs ys zs:List V}
theorem Inv.lset {its its':List Value} {n:Nat} {f:Array Value→Array Value} {t':Nat} (I:Inv X pins σ H s) (hH:H l = some (.lst xs))
    (e:s.heap.get? l = some { cls:=.type "list",data:=.seq its.toArray n }) (hf:f its.toArray = its'.toArray) (hv:Vals ys its') (hz:ys.length ≤ sizeLine) :
    Inv X pins σ (upd H l (.lst ys)) { s with heap:=s.heap.update l (Obj.mapSeq f),toks:=t' }:=by
  have q:=PySem.IsL.update e f
  rw [hf] at q
  refine I.write (x:=l) (e:=l) (by rw [hH]; exact trivial) (.inl rfl) (fun b' u hb hu=>(Heap.get?_update_other s.heap (Obj.mapSeq f) (Ne.symm hb)).trans hu) ⟨_,q⟩ ?_
  exact ⟨hz,its',_,hv,q⟩
theorem Inv.lnew {its:List Value} {t':Nat} (I:Inv X pins σ H s) (hv:Vals ys its) (hz:ys.length ≤ sizeLine) :
    Inv X pins σ (upd H s.heap.objs.size (.lst ys)) { s with heap:=s.heap.push { cls:=.type "list",data:=.seq its.toArray },toks:=t' } :=
  I.laid (fun _ _ q=>Heap.get?_push_of_some _ q) (Nat.le_refl _) ⟨hz,its,0,hv,Heap.get?_push_size _ rfl⟩
theorem Inv.fresh (I:Inv X pins σ H s):H s.heap.objs.size = none:=I.hok.fresh (Nat.le_refl _)
theorem Inv.lstM (I:Inv X pins σ H s) (hH:H l = some (.lst xs)):xs.length ≤ sizeLine∧∃ (its:List Value) (n:Nat),Vals xs its∧xs.length = its.length∧s.heap.get? l = some { cls:=.type "list",data:=.seq its.toArray n }:=by
  obtain ⟨z,its,n,r,e⟩:=I.hok l _ hH
  exact ⟨z,its,n,r,r.length,e⟩
theorem xi {n:Nat} (h:n ≤ sizeLine):Builtin.List.listTooLong n = false:=by
  unfold Builtin.List.listTooLong
  exact decide_eq_false (by omega)
end
section
variable {X:Cx}
def o5:V→List V→Hp→VK→Prop:=fun x vs H Q=>∃ l xs y,x = .ref l∧vs = [y]∧H l = some (.lst xs)∧xs.length < sizeLine∧Q .non (upd H l (.lst (xs ++ [y])))
theorem bL:MtM X "list.append" o5:=by
  intro pins s σ H x vs v us Q I rx rv h
  obtain ⟨l,xs,y,rfl,rfl,hH,hz,q⟩:=h
  cases rx
  obtain ⟨u,rfl,ru⟩:=rv.one
  obtain ⟨z,its,n,r,hl,e⟩:=I.lstM hH
  refine call_meets F.slot_list_append ⟨_,e,rfl⟩ F.entry_list_append (F.args_list_append_2 _ _) (PySem.list_append l its.toArray n u (by rw [List.size_toArray]; omega)) ⟨e,?_⟩
  refine ⟨.non,_,I.lset (its':=its ++ [u]) hH e (by simp) (r.append (.cons ru .nil)) ?_,rfl,q⟩
  rw [List.length_append,List.length_singleton]
  omega
def tV:V→List V→Hp→VK→Prop:=fun x vs H Q=>∃ l b xs zs,x = .ref l∧vs = [.ref b]∧H l = some (.lst xs)∧H b = some (.lst zs)∧xs.length + zs.length ≤ sizeLine∧Q .non (upd H l (.lst (xs ++ zs)))
theorem fL:MtM X "list.extend" tV:=by
  intro pins s σ H x vs v us Q I rx rv h
  obtain ⟨l,b,xs,zs,rfl,rfl,hH,hB,hz,q⟩:=h
  cases rx
  obtain ⟨u,rfl,ru⟩:=rv.one
  cases ru
  obtain ⟨z,its,n,r,hl,e⟩:=I.lstM hH
  obtain ⟨z2,its2,n2,r2,hl2,e2⟩:=I.lstM hB
  have hsz:its.toArray.size + its2.toArray.size ≤ sizeLine:=by rw [List.size_toArray,List.size_toArray]; omega
  have hlong:¬ (!its.toArray.isEmpty && Builtin.List.listTooLong (its.toArray.size + its2.toArray.size)) = true:=by
    rw [xi hsz,Bool.and_false]
    exact Bool.false_ne_true
  refine call_meets F.slot_list_extend ⟨_,e,rfl⟩ F.entry_list_extend (F.args_list_extend_2 _ _)
    (AutoSeq1.list_extend_list_list_0 l its.toArray n b its2.toArray n2 hlong (by rw [List.size_toArray]; omega) (by omega)) ⟨e,e2,?_⟩
  refine ⟨.non,_,I.lset (its':=its ++ its2) hH e (by simp) (r.append r2) ?_,rfl,q⟩
  rw [List.length_append]
  omega
def CS:V→List V→Hp→VK→Prop:=fun x vs H Q=>∃ l xs y,x = .ref l∧vs = []∧H l = some (.lst xs)∧xs[xs.length - 1]? = some y∧Q y (upd H l (.lst xs.dropLast))
theorem A8:MtM X "list.pop" CS:=by
  intro pins s σ H x vs v us Q I rx rv h
  obtain ⟨l,xs,y,rfl,rfl,hH,hy,q⟩:=h
  cases rx
  have hus:=rv.zero
  subst hus
  obtain ⟨z,its,n,r,hl,e⟩:=I.lstM hH
  obtain ⟨u,hu,ru⟩:=r.get hy
  have hy':its.toArray[its.toArray.size - 1]? = some u:=by
    show its.toArray[its.length - 1]? = some u
    rw [← Array.getElem?_toList,← hl]
    exact hu
  refine call_meets F.slot_list_pop ⟨_,e,rfl⟩ F.entry_list_pop (F.args_list_pop_1 _) (MeetsSeq.list_pop_last l its.toArray n u hy' (by rw [List.size_toArray]; omega)) ⟨e,?_⟩
  refine ⟨y,_,I.lset (its':=its.dropLast) hH e ?_ r.dropLast ?_,ru,q⟩
  · show its.toArray.eraseIdxIfInBounds (its.toArray.size - 1) = its.dropLast.toArray
    rw [List.size_toArray,List.eraseIdxIfInBounds_toArray,rP]
  · rw [List.length_dropLast]
    omega
end
section
variable {prog:Program} {w:World} {A:Around} {E:Value→Shared→Prop} {s:Shared}
set_option maxRecDepth 100000 in
end
section
variable {X:Cx}
end
end L2
namespace L2
open PySem PySem.Spec PyProof.Rows
section
variable {κ:Type} [DecidableEq κ]
def jt (kvs:List (κ × V)) (k:κ):Option V:=(kvs.find? fun kv=>decide (kv.1 = k)).map (·.2)
def qU (kvs:List (κ × V)) (k:κ) (v:V):List (κ × V) :=
  if (kvs.any fun kv=>decide (kv.1 = k)) = true then kvs.map (fun kv=>if kv.1 = k then (kv.1,v) else kv) else kvs ++ [(k,v)]
theorem rp {p:κ × V} {r:List (κ × V)} {k:κ} (e:p.1 = k):jt (p :: r) k = some p.2:=by simp [jt,List.find?_cons,e]
theorem rn {p:κ × V} {r:List (κ × V)} {k:κ} (e:¬ p.1 = k):jt (p :: r) k = jt r k:=by simp [jt,List.find?_cons,e]
theorem qA (kvs:List (κ × V)) (k:κ) (v:V):(qU kvs k v).length ≤ kvs.length + 1:=by
  unfold qU
  split
  · rw [List.length_map]; omega
  · rw [List.length_append,List.length_cons,List.length_nil]; omega
theorem KV.val {kvs:List (κ × V)} {vs:List (κ × Value)} (r:KV kvs vs) (k:κ):RelO (jt kvs k) (valueAt vs k):=by
  unfold KV at r
  induction r with
  | nil=>exact True.intro
  | @cons p q ps qs h t ih =>
    obtain ⟨h1,h2⟩:=h
    by_cases e:p.1 = k
    · have e':q.1 = k:=h1.symm.trans e
      have b:valueAt (q :: qs) k = some q.2:=by simp [valueAt,List.find?_cons,e']
      rw [rp e,b]; exact h2
    · have e':¬ q.1 = k:=fun z=>e (h1.trans z)
      have b:valueAt (q :: qs) k = valueAt qs k:=by simp [valueAt,List.find?_cons,e']
      rw [rn e,b]; exact ih
theorem KV.any {kvs:List (κ × V)} {vs:List (κ × Value)} (r:KV kvs vs) (k:κ):(kvs.any fun kv=>decide (kv.1 = k)) = vs.any fun kv=>decide (kv.1 = k):=by
  unfold KV at r
  induction r with
  | nil=>rfl
  | cons h t ih=>rw [List.any_cons,List.any_cons,ih,h.1]
theorem KV.repl {kvs:List (κ × V)} {vs:List (κ × Value)} (r:KV kvs vs) (k:κ) {y:V} {u:Value} (ry:RelV y u) :
    KV (kvs.map fun kv=>if kv.1 = k then (kv.1,y) else kv) (vs.map fun kv=>if kv.1 = k then (kv.1,u) else kv):=by
  unfold KV at r ⊢
  induction r with
  | nil=>exact .nil
  | @cons p q ps qs h t ih =>
    rw [List.map_cons,List.map_cons]
    refine .cons ?_ ih
    obtain ⟨h1,h2⟩:=h
    by_cases e:p.1 = k
    · rw [if_pos e,if_pos (h1.symm.trans e)]; exact ⟨h1,ry⟩
    · rw [if_neg e,if_neg (fun z=>e (h1.trans z))]; exact ⟨h1,h2⟩
theorem KV.put {kvs:List (κ × V)} {vs:List (κ × Value)} (r:KV kvs vs) (k:κ) {y:V} {u:Value} (ry:RelV y u):KV (qU kvs k y) (stored vs k u):=by
  unfold qU stored
  rw [r.any k]
  by_cases e:(vs.any fun kv=>decide (kv.1 = k)) = true
  · rw [if_pos e,if_pos e]; exact r.repl k ry
  · rw [if_neg e,if_neg e]; exact Paired.snoc r ⟨rfl,ry⟩
end
theorem wM {P:Program} {w:World} {k:Key} {u:Value} (r:RelV (kV k) u):(dm P w).is k u = true:=by
  cases k with
  | inl i=>obtain ⟨t,e⟩:=(show ∃ t,u = Value.int i t from r); subst e; exact qD P w i t
  | inr x=>obtain ⟨t,e⟩:=(show ∃ t,u = Value.str x t from r); subst e; exact qE P w x t
theorem nE {P:Program} {w:World}:∀ {ks:List Key} {us:List Value},Vals (ks.map kV) us→ItemsAre (dm P w) ks us
  | [],_,r=>by rw [List.map_nil] at r; cases r; exact .nil
  | k :: ks,_,r=>by
    rw [List.map_cons] at r
    cases r with
    | cons h t=>exact .cons (wM h) (nE t)
abbrev KT (H:Hp):List (List Key × V)→List (List Key × Addr × Value)→Prop:=Paired fun p q=>p.1 = q.1∧H q.2.1 = some (.tup (p.1.map kV))∧RelV p.2 q.2.2
theorem KT.val {H:Hp} {kvs:List (List Key × V)} {xs:List (List Key × Addr × Value)} (r:KT H kvs xs) (k:List Key):RelO (jt kvs k) ((atKey xs k).map (·.2)):=by
  induction r with
  | nil=>exact True.intro
  | @cons p q ps qs h t ih =>
    obtain ⟨h1,_,h2⟩:=h
    by_cases e:p.1 = k
    · have e':q.1 = k:=h1.symm.trans e
      have b:atKey (q :: qs) k = some q.2:=by simp [atKey,List.find?_cons,e']
      rw [rp e,b]; exact h2
    · have e':¬ q.1 = k:=fun z=>e (h1.trans z)
      have b:atKey (q :: qs) k = atKey qs k:=by simp [atKey,List.find?_cons,e']
      rw [rn e,b]; exact ih
section
variable {P:Program} {w:World} {H:Hp} {h:Heap} {a:Addr}
theorem Am {u:HO} (ok:HOk P w H h) (e:Rd H a u):ObjOk P w H h a u:=e.ok ok
theorem wz {kvs:List (Key × V)} (ok:HOk P w H h) (e:Rd H a (.dK kvs)):kvs.length ≤ sizeLine∧(a == sysModules) = false∧∃ vs,KV kvs vs∧h.DictOf (dm P w) a vs :=
  show ObjOk P w H h a (.dK kvs) from Am ok e
theorem BR {kvs:List (Key × V)} (ok:HOk P w H h) (e:H a = some (.dK kvs)):kvs.length ≤ sizeLine∧(a == sysModules) = false∧∃ vs,KV kvs vs∧h.DictOf (dm P w) a vs:=wz ok (.inl e)
theorem wO {ks:List Key} (ok:HOk P w H h) (e:H a = some (.tup (ks.map kV))):(tupleKind (dm P w)).is h ks a:=by
  obtain ⟨_,its,r,o,h1,h2,n,h3⟩:=(show ObjOk P w H h a (.tup (ks.map kV)) from ok a _ e)
  exact ⟨o,its.toArray,n,h1,h2,h3,by simpa using nE r⟩
theorem zZ {kvs:List (List Key × V)} (ok:HOk P w H h) (e:Rd H a (.dT kvs)):kvs.length ≤ sizeLine∧(a == sysModules) = false ∧
    ∃ xs,KT H kvs xs∧h.DictOfH (tupleKind (dm P w)) a xs:=by
  obtain ⟨z,y,xs,r,o,es,ep,h1,h2,h3,h4,h5⟩:=(show ObjOk P w H h a (.dT kvs) from Am ok e)
  refine ⟨z,y,xs,r,o,es,ep,h1,h2,h3,h4,fun x hx=>?_,h5⟩
  have all:∀ {l:List (List Key × V)} {m:List (List Key × Addr × Value)},KT H l m→∀ x ∈ m,(tupleKind (dm P w)).is h x.1 x.2.1:=by
    intro l m q
    induction q with
    | nil=>intro x hx; exact nomatch hx
    | @cons p q ps qs hq t ih =>
      intro x hx
      rcases List.mem_cons.mp hx with e | hx
      · subst e
        exact wO ok (by rw [← hq.1]; exact hq.2.1)
      · exact ih x hx
  exact all r x hx
end
def DGet (H:Hp) (a:Addr) (y:V) (r:Option V):Prop :=
  (∃ kvs k,Rd H a (.dK kvs)∧y = kV k∧r = jt kvs k)∨∃ kvs k b,Rd H a (.dT kvs)∧y = .ref b∧H b = some (.tup (k.map kV))∧r = jt kvs k
theorem DGet.k {H:Hp} {a:Addr} {kvs:List (Key × V)} {k:Key} (e:H a = some (.dK kvs)):DGet H a (kV k) (jt kvs k):=.inl ⟨kvs,k,.inl e,rfl,rfl⟩
section
variable {X:Cx} {pins:List (Addr × Obj)} {σ:St} {H:Hp} {s:Shared} {a:Addr} {y v:V} {u r:Value} {o:Option V} {A:Around} {E:Value→Shared→Prop}
theorem Inv.big (I:Inv X pins σ H s):sysModules < s.heap.objs.size:=by
  have h:mainGlobals < s.heap.objs.size:=(I.mod.glob.keeps I.bk).lt
  exact Nat.lt_trans (by decide) h
theorem uA {Q:Value→Shared→Prop} (hu:A.units + 1 < cLine) (I:Inv X pins σ H s) (g:DGet H a y (some v)) (ry:RelV y u) (h:∀ w' s',Inv X pins σ H s'→RelV v w'→Q w' s') :
    wpAny (model X.prog X.w) A (getItem (.ref a) u) Q E s:=by
  rcases g with ⟨kvs,k,e,ey,l⟩ | ⟨kvs,k,b,e,ey,eb,l⟩
  · subst ey
    obtain ⟨z,hd,vs,rel,dd⟩:=wz I.hok e
    obtain ⟨w',hw,rw'⟩:=RelO.some_of (v:=v) (o:=valueAt vs k) (by rw [l]; exact rel.val k)
    exact wpAny_getItem_of (wM ry) dd.mapOf hw (h w' _ (I.tok _) rw')
  · subst ey
    cases (show u = Value.ref b from ry)
    obtain ⟨z,hd,xs,rel,dd⟩:=zZ I.hok e
    obtain ⟨w',hw,rw'⟩:=RelO.some_of (v:=v) (o:=(atKey xs k).map (·.2)) (by rw [l]; exact rel.val k)
    obtain ⟨p,hp,hp2⟩:=Option.map_eq_some_iff.mp hw
    refine wpAny_getItem_heap (tupleKind_room_in1 hu) (wO I.hok eb) dd hp ?_
    rw [hp2]
    exact h w' _ (I.tok _) rw'
theorem yE {h':Heap} {t':Nat} {ob:HO} (I:Inv X pins σ H s) (mu:Mut (H a)) (hs:Heap.SameBut a s.heap h') (he:∃ q,h'.get? a = some q) (new:ObjOk X.prog X.w (upd H a ob) h' a ob) :
    Inv X pins σ (upd H a ob) { s with heap:=h',toks:=t' } :=
  I.write (x:=a) (e:=a) mu (.inl rfl) (fun b q hb z=>(hs.2 b hb).trans z) he new
theorem AQ {P:Program} {w:World} {H':Hp} {h':Heap} {kvs:List (Key × V)} {vs:List (Key × Value)} (z:kvs.length ≤ sizeLine) (hd:(a == sysModules) = false) (rel:KV kvs vs) (dd:h'.DictOf (dm P w) a vs) :
    ObjOk P w H' h' a (.dK kvs):=⟨z,hd,vs,rel,dd⟩
end
section
variable {X:Cx} {pins:List (Addr × Obj)} {σ:St} {H:Hp} {s:Shared} {a:Addr} {kvs:List (Key × V)} {k:Key} {u:Value} {A:Around} {E:Value→Shared→Prop}
end
def BK (i:Expr):Prop:=∀ ov iv,subscripted i false ov iv = operate [ov,iv] (getItem ov iv)
theorem zN {prog:Program} {w:World} {A:Around} {E:Value→Shared→Prop} {s:Shared} {env:Env} {value slice:Expr} {pos:Pos} {T id:String} {Q:Value→Shared→Prop}
    (hl:typeLookup (.type T) "__getitem__" = pure (some (.builtin id))) (hs:BK slice)
    (h:wpAny (model prog w) A (eval value env) (fun o s₁=>wpAny (model prog w) A (eval slice env) (fun i s₂=>s₂.TypeIs o T∧wpAny (model prog w) A (getItem o i) Q E s₂) E s₁) E s) :
    wpAny (model prog w) A (eval (.Subscript value slice pos) env) Q E s:=by
  refine Subscript_ (wpAny_mono h (fun o s₁ h₁=>wpAny_mono h₁ (fun i s₂ h₂=>?_) fun _ _ x=>x) fun _ _ x=>x)
  obtain ⟨hT,h₂⟩:=h₂
  unfold subscriptTail
  refine wpAny_bind ?_
  rw [getitemInPython_of_ne hT.not_modules]
  refine wpAny_bind (wpAny_specialOf hT hl ?_)
  have fin:wpAny (model prog w) A (subscripted slice false o i) (fun r s₃=>wpAny (model prog w) A (letTemporaryGo value o r >>= fun _=>pure r) Q E s₃) E s₂:=by
    rw [hs o i]
    exact wpAny_operating (wpAny_mono h₂ (fun r s₃ h₃=>wpAny_bind (wpAny_letTemporaryGo (wpAny_pure h₃))) fun _ _ x=>x)
  first
    | exact wpAny_pure (wpAny_bind fin)
    | exact wpAny_bind (wpAny_pure (wpAny_bind fin))
    | exact wpAny_bind fin
theorem p8 {X:Cx} {pins:List (Addr × Obj)} {σ:St} {H:Hp} {s:Shared} {a:Addr} {y:V} {o:Option V} (I:Inv X pins σ H s) (g:DGet H a y o):s.TypeIs (.ref a) "dict":=by
  rcases g with ⟨kvs,k,e,_,_⟩ | ⟨kvs,k,b,e,_,_,_⟩
  · obtain ⟨_,_,vs,_,dd⟩:=wz I.hok e
    exact dd.typeIs
  · obtain ⟨_,_,xs,_,dd⟩:=zZ I.hok e
    exact dd.typeIs
def Aq (td ty:TE):TE:=fun σ H Q=>td σ H fun x H1=>ty σ H1 fun y H2=>∃ a v,x = .ref a∧DGet H2 a y (some v)∧Q v H2
section
variable {X:Cx} {o i e value:Expr} {pos pos' tpos:Pos} {td ty tv:TE}
theorem kX (hu:X.A.units + 1 < cLine) (ho:PE X o td) (hi:PE X i ty) (hs:BK i):PE X (.Subscript o i pos) (Aq td ty):=by
  intro pins s σ H Q I h
  refine zN PySem.F.slot_dict_getitem.lookup hs (thn (ho pins s σ H _ I h) fun u s1 ⟨x,H1,I1,rx,q1⟩=>thn (hi pins s1 σ H1 _ I1 q1) fun iv s2 ⟨y,H2,I2,ry,a,v,ex,g,q2⟩=>?_)
  subst ex
  obtain rfl:u = Value.ref a:=rx
  exact ⟨p8 I2 g,uA hu I2 g ry fun w' s3 I3 rw'=>⟨v,H2,I3,rw',q2⟩⟩
end
theorem wy {P:Program} {w:World} {H:Hp} (h:Heap) (hb:sysModules < h.objs.size):ObjOk P w H (h.push { cls:=.type "dict",data:=.dict #[] }) h.objs.size (.dK []) :=
  ⟨Nat.zero_le _,beq_eq_false_iff_ne.mpr (Ne.symm (Nat.ne_of_lt hb)),[],.nil,Heap.DictOf.new h⟩
section
variable {X:Cx} {pos:Pos}
end
def sJ:List (TE × TE)→St→Hp→(List (V × V)→Hp→Prop)→Prop
  | [],_,H,Q=>Q [] H
  | (tk,tv) :: r,σ,H,Q=>tk σ H fun x H1=>tv σ H1 fun y H2=>sJ r σ H2 fun ps H3=>Q ((x,y) :: ps) H3
abbrev VV:List (V × V)→List (Value × Value)→Prop:=Paired fun p q=>RelV p.1 q.1∧RelV p.2 q.2
def PPs (X:Cx) (pos:Pos) (keys:List (Option Expr)) (values:List Expr) (trs:List (TE × TE)):Prop :=
  ∀ (pins:List (Addr × Obj)) (s:Shared) (σ:St) (H:Hp) (Q:List (V × V)→Hp→Prop),Inv X pins σ H s→sJ trs σ H Q →
    wpAny (model X.prog X.w) X.A (evalPairs (pairTrees keys values X.env pos)) (fun vs s'=>∃ ps H',Inv X pins σ H' s'∧VV ps vs∧Q ps H') X.xe s
theorem zu {X:Cx} {pos:Pos}:PPs X pos [] [] []:=fun pins s σ H Q I h=>pairTrees_nil_walk ⟨[],H,I,.nil,h⟩
theorem mw {X:Cx} {pos:Pos} {k v:Expr} {ks:List (Option Expr)} {vs:List Expr} {tk tv:TE} {trs:List (TE × TE)} (hk:PE X k tk) (hv:PE X v tv) (hr:PPs X pos ks vs trs) :
    PPs X pos (some k :: ks) (v :: vs) ((tk,tv) :: trs):=fun pins s σ H Q I h =>
  pairTrees_cons_walk (thn (hk pins s σ H _ I h) fun u s1 ⟨x,H1,I1,rx,q1⟩=>thn (hv pins s1 σ H1 _ I1 q1) fun w2 s2 ⟨y,H2,I2,ry,q2⟩ =>
    thn (hr pins s2 σ H2 _ I2 q2) fun ws s3 ⟨ps,H3,I3,rel,q3⟩=>⟨(x,y) :: ps,H3,I3,.cons ⟨rx,ry⟩ rel,q3⟩)
def kh (kvs more:List (Key × V)):List (Key × V):=more.foldl (fun acc kv=>qU acc kv.1 kv.2) kvs
theorem KV.merge:∀ {more:List (Key × V)} {rs:List (Key × Value)} {kvs:List (Key × V)} {vs:List (Key × Value)},KV more rs→KV kvs vs→KV (kh kvs more) (merged vs rs):=by
  intro more rs kvs vs r
  unfold KV at r
  induction r generalizing kvs vs with
  | nil=>intro q; exact q
  | @cons p q ps qs h t ih =>
    intro r0
    have e:KV (qU kvs p.1 p.2) (stored vs q.1 q.2):=by
      have:=r0.put p.1 h.2
      rw [← h.1]; exact this
    exact ih e
theorem i7:∀ (more kvs:List (Key × V)),(kh kvs more).length ≤ kvs.length + more.length
  | [],kvs=>by show kvs.length ≤ kvs.length + 0; omega
  | p :: r,kvs=>by
    have h1:=i7 r (qU kvs p.1 p.2)
    have h2:=qA kvs p.1 p.2
    show (kh (qU kvs p.1 p.2) r).length ≤ _
    rw [List.length_cons]; omega
theorem lF {P:Program} {w:World}:∀ {kvs:List (Key × V)} {ws:List (Value × Value)},VV (kvs.map fun kv=>(kV kv.1,kv.2)) ws→∃ rs,Carries (dm P w) ws rs∧KV kvs rs
  | [],_,r=>by rw [List.map_nil] at r; cases r; exact ⟨[],True.intro,.nil⟩
  | p :: kvs,_,r=>by
    rw [List.map_cons] at r
    cases r with
    | @cons a b as bs h t =>
      obtain ⟨rs,c,q⟩:=lF (P:=P) (w:=w) t
      obtain ⟨b1,b2⟩:=b
      exact ⟨(p.1,b2) :: rs,⟨wM h.1,rfl,c⟩,.cons ⟨rfl,h.2⟩ q⟩
def Cm (trs:List (TE × TE)):TE:=fun σ H Q=>∀ p,H p = none→sJ trs σ (upd H p (.dK [])) fun ps H2=>H2 p = some (.dK [])∧∃ kvs:List (Key × V),ps = kvs.map (fun kv=>(kV kv.1,kv.2))∧kvs.length ≤ 15∧Q (.ref p) (upd H2 p (.dK (kh [] kvs)))
theorem zr {X:Cx} {pos:Pos} {keys:List (Option Expr)} {values:List Expr} {trs:List (TE × TE)} (h:PPs X pos keys values trs) (hall:keys.all (·.isSome) = true) (hl:keys.length = values.length) (h0:keys ≠ [])
    (h15:keys.length ≤ 15):PE X (.Dict keys values pos) (Cm trs):=by
  intro pins s σ H Q I q
  have hn:=I.hok.fresh (Nat.le_refl s.heap.objs.size)
  have I1:=I.laid (a:=s.heap.objs.size) (o:=.dK []) (h':=s.heap.push { cls:=.type "dict",data:=.dict #[] }) (t':=s.toks) (fun _ _ q=>Heap.get?_push_of_some _ q) (Nat.le_refl _) (wy s.heap I.big)
  refine wpAny_Dict_walk (knd:=dm X.prog X.w) hall hl h0 h15 (thn (h pins _ σ _ _ I1 (q _ hn)) fun ws s2 ⟨ps,H2,I2,rel,e,kvs,ep,lk,q2⟩=>?_)
  subst ep
  obtain ⟨rs,c,rk⟩:=lF (P:=X.prog) (w:=X.w) rel
  obtain ⟨z,hd,vs0,r0,dd⟩:=BR I2.hok e
  cases r0
  refine ⟨rs,c,dd,fun h' dd' hs=>⟨.ref s.heap.objs.size,_,?_,rfl,q2⟩⟩
  have hz:(kh [] kvs).length ≤ sizeLine:=by
    have h1:=i7 kvs []
    rw [List.length_nil] at h1
    rw [sizeLine_eq]; omega
  have he:∃ q,h'.get? s.heap.objs.size = some q:=let ⟨q,_,_,hq,_⟩:=dd'; ⟨q,hq⟩
  exact yE I2 (by rw [e]; exact True.intro) hs he (AQ hz hd (rk.merge .nil) dd')
structure M2 (X:Cx) (o:Expr) (m:Str) (apos:Pos) (e f:Expr) (cpos:Pos):Prop where
  base:attributeBase o m X.env (eval o X.env) = eval o X.env
  few:((backTo cpos (starEach [e,f] X.env)).all (fun x=>!x.1) && (backToKw cpos (keywordEach [] X.env)).all (fun x=>x.1.isSome)
    && decide (([e,f]:List Expr).length + ([]:List Keyword).length + (if ([]:List Keyword).isEmpty then 0 else 1) < 30)) = true
  line:(apos.endLine == cpos.line) = true
  trees:backTo cpos (starEach [e,f] X.env) = [(false,eval e X.env),(false,eval f X.env)]
section
variable {X:Cx} {pins:List (Addr × Obj)} {σ:St} {H:Hp} {s:Shared} {a:Addr} {y d:V} {u r:Value} {o:Option V} {A:Around} {E:Value→Shared→Prop}
end
section
variable {X:Cx} {o e f:Expr} {apos cpos:Pos} {td ty tx:TE}
end
section
variable {X:Cx} {pins:List (Addr × Obj)} {σ:St} {H:Hp} {s:Shared} {a:Addr} {kvs:List (Key × V)} {A:Around} {E:Value→Shared→Prop}
end
section
variable {X:Cx} {pins:List (Addr × Obj)} {σ:St} {H:Hp} {s:Shared} {a:Addr} {y:V} {u:Value} {A:Around} {E:Value→Shared→Prop}
end
end L2
namespace Att
open PySem PySem.W PySem.Calls PyProof.Rows
theorem kQ {P:Params} {h:Heap}:∀ (ns:List Int) (vs:List Value),WellAll P h vs (ns.map WData.int)→IntsAre vs ns:=by
  intro ns
  induction ns with
  | nil =>
    intro vs w
    rw [List.map_nil] at w
    cases w
    exact .nil
  | cons n ns ih =>
    intro vs w
    rw [List.map_cons] at w
    cases w with
    | cons a b =>
      cases a
      exact .cons _ _ (ih _ b)
theorem vw {l:OpenLaw} {n:Nat} (hn:l.most = some n) {P:Params} {h:Heap} {args:List WData} {vals:List Value}
    (hpre:l.row.toRowW.claim.pre args = true) (hwl:WellAll P h vals args) :
    ∃ a vs ns,vals = [Value.ref a]∧args = [WData.list (ns.map WData.int)]∧h.get? a = some { cls:=.type "list",data:=.seq vs.toArray }∧IntsAre vs ns∧ns.length ≤ n:=by
  have hsh:WShape.hasAll [] args [.list .int] = true:=(pre_splitW hpre).1
  have hc:l.pre.holds [] { args:=args } = true:=(pre_splitW hpre).2
  obtain ⟨d,r,rfl,h1,h2⟩:=hasAllW_cons hsh
  obtain rfl:=hasAllW_nil h2
  obtain ⟨xs,rfl,h3⟩:=hasW_list h1
  obtain ⟨ns,rfl⟩:=items_int h3
  have hlen:ns.length ≤ n:=by
    unfold OpenLaw.pre at hc
    have h4:(WTm.not (.lt (.lit (.int (n:Int))) (.len (.arg 0)))).holds [] { args:=[.list (ns.map .int)] } = true:=by
      have h4:=(holds_andW hc).1
      rw [hn] at h4
      exact h4
    have h5:=condW_of h4 (w_not (w_lt w_lit (w_len_list (w_arg rfl))))
    rw [List.length_map] at h5
    refine Nat.le_of_not_lt fun q=>?_
    have q':(n:Int) < ((ns.length:Nat):Int):=by omega
    first
      | (rw [decide_eq_true q'] at h5; exact absurd h5 (by decide))
      | (simp at h5; omega)
  cases hwl with
  | cons w1 w2 =>
    cases w2
    cases w1 with
    | list ho hall=>exact ⟨_,_,ns,rfl,rfl,ho,kQ ns _ hall,hlen⟩
theorem u0 (l:OpenLaw) (args:List WData):l.row.toRowW.claim.post args (.bool true) args = true :=
  postW_of (r:=l.row.toRowW) (X:=(true == true))
    (show WShape.has [] (.bool true) .bool = true by first | rfl | decide | simp [WShape.has,WShape.arms,WShape.armsAll])
    (show (WTm.eq .res (.lit (.bool true))).value [] { args:=args,res:=some (.bool true),after:=args } = some (.bool (true == true)) from w_eq_bool (w_res rfl) w_lit) rfl
theorem attach_call {l:OpenLaw} {n:Nat} {q:Program} {loose:List Str} {XP:(Str→Option Value)→Heap→Prop} {YP:World→Heap→Prop} {d:DefRec}
    (hn:l.most = some n) (hdf:d.params.defaults = [])
    (call:∀ (w:World) (s₀ s₁:Shared) (mg mb:Str→Option Value) (fa:Addr) (o:Obj) (pm cd doc:Value) (a:Addr) (vs:List Value) (ns:List Int),
      Ground q loose [] XP w s₀ mg mb s₁.heap→YP w s₁.heap →
      s₁.heap.get? fa = some o→o.data = .func (docDef d.name d.params d.body d.scope pm cd doc)→s₁.heap.CodeRec cd d.name→mg d.name = some (.ref fa) →
      s₁.heap.get? a = some { cls:=.type "list",data:=.seq vs.toArray }→IntsAre vs ns→ns.length ≤ n→s₁.gens = #[] →
      codeAny (model l.prog w) callerA (.call (.ref fa) ⟨[.ref a],[]⟩) (fun r s'=>r = .ok (.ret (.bool true))∧OldK s₁.heap s'.heap∧s'.os = s₁.os∧AllBare s'.gens) s₁) :
    WalkO q loose XP YP l.row.toRowW d [] (fun f vs=>PySem.call f vs):=by
  intro w s₀ s₁ mg mb G Y fa o pm cd doc dV kV ho hd hcd hD hmg hg args vals as hpre hlay hrd hwl hlo
  obtain rfl:dV = .none:=Dflts.none hD hdf
  obtain rfl:kV = .none:=Dflts.noKw hD
  obtain ⟨a,vs,ns,rfl,rfl,hobj,hints,hlen⟩:=vw hn hpre hwl
  refine enter_call (codeAny_mono (call w s₀ s₁ mg mb fa o pm cd doc a vs ns G Y ho (fd_plain hd) hcd hmg hobj hints hlen hg) fun r s' hq=>?_)
  obtain ⟨rfl,h2,h3,h4⟩:=hq
  exact ⟨.inl ⟨.bool true,.bool true,[],rfl,fun _=>rfl,.bool true,u0 l _,fun _=>⟨List.Pairwise.nil,fun _ hm=>(nomatch hm)⟩⟩,h2,h3,h4⟩
section
variable {prog:Program} {w:World} {A:Around} {E:Value→Shared→Prop} {s:Shared} {K:Frag}
end
end Att
namespace L2
open PySem PySem.Spec PyProof.Rows
theorem nU:∀ {vs:List Value} {ns:List Int},IntsAre vs ns→Vals (ns.map V.int) vs
  | _,_,.nil=>.nil
  | _,_,.cons n t h=>.cons ⟨t,rfl⟩ (nU h)
def yw (H:Hp):Prop:=∀ b,H b = none∨∃ o xs,H b = some (.frz o (.lst xs))
theorem wU {P:Program} {w:World} {K:PySem.W.Frag} {mg mb:Str→Option Value} {CX:CXT} {k:Nat} {fa a:Addr} {fd:FuncData} {x:Str} {sp:Sp} {s₁:Shared} {vs:List Value} {ns:List Int}
    (KX:K.In s₁.heap) (hns:s₁.heap.Ns mainGlobals mg) (hb:s₁.heap.Ns builtinsNs mb) (hbb:∀ x:Str,x ≠ "__name__"→mb x = bootBuiltins x) (hlim:s₁.heap.NoLimit) (hg:s₁.gens = #[])
    (ha:s₁.heap.get? a = some { cls:=.type "list",data:=.seq vs.toArray }) (hi:IntsAre vs ns) (hl:ns.length ≤ sizeLine) (hr:Room k callerA)
    (F:∀ base:Heap,K.In base→base.Ns mainGlobals mg→FnOk P w K mg base CX k fa fd [x] sp) (hbind:∀ (s:Shared) (u:Value),BindsTo s fd ⟨[u],[]⟩ [(x,u)])
    (hsp:∀ H:Hp,yw H→SqL K H a (ns.map V.int)→sp [.ref a] H (fun v _=>v = .bl true) fun _ _ _=>False)
    (hCX:∀ H e s',CX [] H s₁ (fun _ _ _=>False) e s'→False) :
    codeAny (model P w) callerA (.call (.ref fa) ⟨[.ref a],[]⟩) (fun r s'=>r = .ok (.ret (.bool true))∧OldK s₁.heap s'.heap∧s'.os = s₁.os∧AllBare s'.gens) s₁:=by
  have rv:=nU hi
  have lenV:=hi.length
  have core:∀ H:Hp,yw H→SqL K H a (ns.map V.int)→HOk P w H s₁.heap→(∀ b,H b ≠ none→b = a)→(H a ≠ none→K.lookup a = none) →
      codeAny (model P w) callerA (.call (.ref fa) ⟨[.ref a],[]⟩) (fun r s'=>r = .ok (.ret (.bool true))∧OldK s₁.heap s'.heap∧s'.os = s₁.os∧AllBare s'.gens) s₁:=by
    intro H hO hS hok hA hK
    have base_of:∀ {b:Addr} {o:Obj},s₁.heap.get? b = some o→H b = none→(oC s₁.heap H).get? b = some o:=fun e n=>wI e n
    have noA:∀ {b:Addr} {o:Obj} {es:Array DictEntry} {ep:Nat},s₁.heap.get? b = some o→o.data = .dict es ep→H b = none:=fun {b o es ep} e d=>by
      cases q:H b with
      | none=>rfl
      | some u =>
        have e':b = a:=hA b (by rw [q]; simp)
        subst e'
        rw [ha] at e; cases e
        have d':Data.seq vs.toArray _ = Data.dict es ep:=d
        cases d'
    have nsK:∀ {b:Addr} {m:Str→Option Value},s₁.heap.Ns b m→(oC s₁.heap H).Ns b m:=fun {b m} ⟨o,es,ep,e,d,r⟩=>⟨o,es,ep,base_of e (noA e d),d,r⟩
    have hKb:K.In (oC s₁.heap H):=fun b o e=>base_of (KX b o e) (by
      cases q:H b with
      | none=>rfl
      | some u =>
        have e':b = a:=hA b (by rw [q]; simp)
        subst e'
        rw [hK (by rw [q]; simp)] at e; cases e)
    have hM:Mod K mg (oC s₁.heap H):=⟨hKb,nsK hns,⟨mb,nsK hb,hbb⟩,let ⟨mc,h1,h2⟩:=hlim; ⟨mc,nsK h1,h2⟩⟩
    have e0:uh P w K mg (oC s₁.heap H) callerA [] s₁ H:=⟨rfl,hM,fun b o e=>zk e,Nat.le_of_eq (uD _ _),trivial,fun b hb=>absurd (show b ∈ ([]:List Addr) from hb) (by simp),hok,.of_eq hg⟩
    refine codeAny_mono ((F _ hKb (nsK hns)).run callerA [] s₁ H ⟨[.ref a],[]⟩ [.ref a] [.ref a] _ _ hr e0 (hbind s₁ (.ref a)) (.cons rfl .nil) (hsp H hO hS)) fun r s' h=>?_
    cases r with
    | error e=>exact (hCX H e s' h).elim
    | ok fl =>
      cases fl with
      | next=>exact False.elim h
      | brk=>exact False.elim h
      | cont=>exact False.elim h
      | ret u =>
        obtain ⟨v,H',os,bare,un,hok',r',q⟩:=h
        have q':v = .bl true:=q
        subst q'
        obtain rfl:u = Value.bool true:=r'
        refine ⟨rfl,OldK.of_keep fun b o e=>?_,os,bare⟩
        cases q:H b with
        | none=>exact un.keep b o e q (by intro z; exact absurd (show b ∈ ([]:List Addr) from z) (by simp)) (by simp)
        | some u =>
          rcases hO b with z | ⟨ob,xs,z⟩
          · rw [q] at z; cases z
          · have z2:=un.frzs b ob _ z
            obtain ⟨e1,_⟩:=hok b _ z
            obtain ⟨e2,_⟩:=hok' b _ z2
            rw [e] at e1; cases e1
            exact e2
  cases hk:K.lookup a with
  | some o =>
    have e:=KX a o hk
    rw [ha] at e
    cases e
    refine core (fun _=>none) (fun _=>.inl rfl) (.inr ⟨_,vs.toArray,_,hk,rfl,rfl,rfl,by rw [List.size_toArray,lenV]; exact hl,by simpa using rv⟩) (fun b u z=>by have z':(none:Option HO) = some u:=z; cases z') (fun b z=>absurd rfl z) fun z=>absurd rfl z
  | none =>
    refine core (fun b=>if b = a then some (.frz { cls:=.type "list",data:=.seq vs.toArray } (.lst (ns.map V.int))) else none) (fun b=>?_) (.inl (.inr ⟨{ cls:=.type "list",data:=.seq vs.toArray },if_pos rfl⟩)) (fun b u z=>?_) (fun b z=>?_) fun _=>hk
    · by_cases hb:b = a
      · exact .inr ⟨_,_,if_pos hb⟩
      · exact .inl (if_neg hb)
    · by_cases hb:b = a
      · have z':=(if_pos hb).symm.trans z
        cases z'
        subst hb
        exact ⟨ha,by rw [List.length_map]; exact hl,vs,_,rv,ha⟩
      · have z':=(if_neg hb).symm.trans z
        cases z'
    · by_cases hb:b = a
      · exact hb
      · exact absurd (if_neg hb) z
end L2
namespace L2
open PySem PySem.Spec PyProof.Rows
theorem walk_of {l:PySem.W.OpenLaw} {n k:Nat} {q:Program} {loose:List Str} {XP:(Str→Option Value)→Heap→Prop} {YP:World→Heap→Prop} {d:DefRec} {K:Params→PySem.W.Frag} {CX:World→CXT} {sp:World→Sp} {x:Str}
    (hn:l.most = some n) (hn2:n ≤ sizeLine) (hdf:d.params.defaults = []) (hr:Room k callerA)
    (hY:∀ (w:World) (h:Heap),YP w h→(K w.params).In h)
    (F:∀ (w:World) (mg:Str→Option Value) (fa:Addr) (h:Heap),(K w.params).In h→h.Ns mainGlobals mg→mg d.name = some (.ref fa) →
      ∃ fd:FuncData,(∀ (s:Shared) (u:Value),BindsTo s fd ⟨[u],[]⟩ [(x,u)]) ∧
        ∀ base:Heap,(K w.params).In base→base.Ns mainGlobals mg→FnOk l.prog w (K w.params) mg base (CX w) k fa fd [x] (sp w))
    (hsp:∀ (w:World) (H:Hp) (a:Addr) (ns:List Int),ns.length ≤ n→yw H→SqL (K w.params) H a (ns.map V.int)→sp w [.ref a] H (fun v _=>v = .bl true) fun _ _ _=>False)
    (hCX:∀ (w:World) (H:Hp) (s:Shared) (e:Value) (s':Shared),CX w [] H s (fun _ _ _=>False) e s'→False) :
    PySem.W.WalkO q loose XP YP l.row.toRowW d [] (fun f vs=>PySem.call f vs):=by
  refine Att.attach_call hn hdf fun w s₀ s₁ mg mb fa o pm cd doc a vs ns G Y ho hd hcd hmg hobj hints hlen hg=>?_
  have KX:=hY w _ Y
  obtain ⟨fd,hb,hF⟩:=F w mg fa _ KX G.T.g hmg
  exact wU KX G.T.g G.T.b G.T.builtins G.T.nolimit hg hobj hints (Nat.le_trans hlen hn2) hr hF hb (fun H hO hS=>hsp w H a ns hlen hO hS) fun H e s'=>hCX w H s₁ e s'
end L2
namespace L2
open PySem PySem.Spec PyProof.Rows
def jz (s:Stmt):Arguments:=match s with
  | .FunctionDef _ a _ _ _ _ _ _ _ _=>a
  | _=>{ posonlyargs:=[],args:=[],vararg:=none,kwonlyargs:=[],kw_defaults:=[],kwarg:=none,defaults:=[] }
def gb (s:Stmt):List Stmt:=match s with
  | .FunctionDef _ _ b _ _ _ _ _ _ _=>b
  | _=>[]
def aw (s:Stmt):Scope:=match s with
  | .FunctionDef _ _ _ _ _ _ sc _ _ _=>sc
  | _=>{ kind:=.function,names:=[],isGenerator:=false,isCoroutine:=false }
abbrev CX0:CXT:=fun _ _ _ _ _ _=>False
abbrev E0:XK:=fun _ _ _=>False
theorem aY {X:Cx}:ja CX0 X E0:=fun _ _ _ _ _ _ _ h=>h.elim
structure Fun (K:PySem.W.Frag) (x qual:Str) (st:Stmt) (f:Addr) (fd:FuncData):Prop where
  ex:∃ (oc:Value) (od:Option Addr) (kV doc pm:Value) (an:Option Addr) (cdv ct:Value) (osl:Array (Option Value)),
    fd = PySem.W.fnOf x qual (jz st) (gb st) (aw st) .none kV doc pm an cdv ct∧K.lookup f = some ⟨oc,od,.func fd,osl⟩∧PySem.W.codeIn K cdv qual = true
  kp:PySem.W.keepIn K (.ref f) = true
section
variable {P:Program} {w:World} {K:PySem.W.Frag} {mg:Str→Option Value} {base:Heap}
theorem Fun.ok {x qual:Str} {st:Stmt} {f:Addr} {fd:FuncData} {N ps:List Str} {k:Nat} {sp:Sp} (F:Fun K x qual st f fd) (S:aU N ps (aw st)) (len:∀ vs H Q E,sp vs H Q E→vs.length = ps.length)
    (hbody:∀ (cdv:Value) (A:Around) (outer:List Env) (s:Shared) (H:Hp) (vs:List V) (Q:VK) (E:XK),Room k (A.deeper (envOfC qual (aw st) s.heap.objs.size f cdv))→sp vs H Q E →
      ∃ t,PSs (jg CX0 P w K mg base N qual (aw st) f cdv A outer s H E).nox (gb st) t∧t { nx:=fun _ H'=>Q .non H',rt:=Q } (dW N vs) H):FnOk P w K mg base CX0 (k + 1) f fd ps sp:=by
  obtain ⟨oc,od,kV,doc,pm,an,cdv,ct,osl,rfl,lk,hcd⟩:=F.ex
  refine Aa lk hcd S len fun A outer s H vs Q E hr hsp=>?_
  obtain ⟨t,h,q⟩:=hbody cdv A outer s H vs Q E hr hsp
  exact ⟨t,h.nox,q⟩
theorem Fun.binds {x qual:Str} {st:Stmt} {f:Addr} {fd:FuncData} {ps:List Str} (F:Fun K x qual st f fd)
    (h:∀ (kV doc pm:Value) (an:Option Addr) (cdv ct:Value) (us:List Value),us.length = ps.length→bindArgs (PySem.W.fnOf x qual (jz st) (gb st) (aw st) .none kV doc pm an cdv ct) ⟨us,[]⟩ = pure (ps.zip us)):Binds K fd ps []:=by
  obtain ⟨oc,od,kV,doc,pm,an,cdv,ct,osl,rfl,lk,hcd⟩:=F.ex
  exact .all (h kV doc pm an cdv ct)
theorem bo {x qual:Str} {st:Stmt} {f:Addr} {oc:Value} {od an:Option Addr} {osl:Array (Option Value)} {kV doc pm cdv ct:Value} (l:K.lookup f = some ⟨oc,od,.func (PySem.W.fnOf x qual (jz st) (gb st) (aw st) .none kV doc pm an cdv ct),osl⟩)
    (c:PySem.W.codeIn K cdv qual = true) (k:PySem.W.keepIn K (.ref f) = true):Fun K x qual st f (PySem.W.fnOf x qual (jz st) (gb st) (aw st) .none kV doc pm an cdv ct):=⟨⟨oc,od,kV,doc,pm,an,cdv,ct,osl,rfl,l,c⟩,k⟩
end
theorem tJ {A:Around} {k:Nat} (hr:Room k A):A.units + 1 < cLine:=Nat.lt_of_le_of_lt (Nat.add_le_add_left (by decide:1 ≤ 64) _) hr.units
theorem bQ {n:Nat} (h:n ≤ 1000):n < sizeLine:=Nat.lt_of_le_of_lt h (by decide)
section
variable {X:Cx}
theorem pv (i:Nat) {x:Str} {pos:Pos} (hN:X.N[i]? = some x:=by rfl) (hv:Vis X.env.scope x:=by first | exact Or.inl rfl | exact Or.inr (Or.inl rfl) | exact Or.inr (Or.inr rfl)) (hd:(x == ("__debug__":Str)) = false:=by decide)
    (hcd:(x == ("__classdict__":Str)) = false:=by decide):PE X (.Name x pos) (eJ i):=Bg hN hv hd hcd
end
theorem lU {A B:Prop} (h:B):if false = true then A else B:=by
  rw [if_neg Bool.false_ne_true]
  exact h
theorem qx {A B:Prop} (h:A):if true = true then A else B:=by
  rw [if_pos rfl]
  exact h
theorem kR {c A B:Prop} [Decidable c] (h1:c→A) (h2:¬ c→B):if c then A else B:=by
  by_cases h:c
  · rw [if_pos h]
    exact h1 h
  · rw [if_neg h]
    exact h2 h
def Same (H H':Hp):Prop:=∀ b o,H b = some o→H' b = some o
theorem Same.refl (H:Hp):Same H H:=fun _ _ h=>h
theorem Same.trans {H H1 H2:Hp} (a:Same H H1) (b:Same H1 H2):Same H H2:=fun c o h=>b c o (a c o h)
theorem Same.free {H H':Hp} (e:Same H H') {l:Addr} (h:H' l = Option.none):H l = Option.none:=by
  cases q:H l with
  | none=>rfl
  | some o =>
    rw [e l o q] at h
    cases h
theorem Same.seq {K:PySem.W.Frag} {H H':Hp} {a:Addr} {xs:List V} (e:Same H H') (h:SqL K H a xs):SqL K H' a xs:=by
  rcases h with (h | ⟨o,h⟩) | h
  · exact .inl (.inl (e _ _ h))
  · exact .inl (.inr ⟨o,e _ _ h⟩)
  · exact .inr h
section
variable {κ:Type} [DecidableEq κ]
end
end L2
end
section
namespace L2
open PySem PySem.Spec PyProof.Rows
def rk (env:Env) (x:Str) (k:NameKind):NameKind :=
  if (k == NameKind.free && env.scope.kind == .function && env.kindOf x == some .cell) = true then .cell else k
theorem pf (sc:Scope) (env:Env) (x:Str):(relabel sc env).names.lookup x = (sc.names.lookup x).map (rk env x):=by
  have all:∀ l:List (Str × NameKind),(l.map fun (n,k)=>if (k == NameKind.free && env.scope.kind == .function && env.kindOf n == some .cell) then (n,NameKind.cell) else (n,k)).lookup x = (l.lookup x).map (rk env x):=by
    intro l
    induction l with
    | nil=>rfl
    | cons p r ih =>
      obtain ⟨n,k⟩:=p
      rw [List.map_cons]
      cases hx:x == n with
      | true =>
        have e:x = n:=by simpa using hx
        subst e
        by_cases c:(k == NameKind.free && env.scope.kind == .function && env.kindOf x == some .cell) = true
        · simp [List.lookup_cons,rk,c]
        · simp [List.lookup_cons,rk,c]
      | false =>
        have e1:((n,k) :: r).lookup x = r.lookup x:=by rw [List.lookup_cons,hx]
        rw [e1,← ih]
        by_cases c:(k == NameKind.free && env.scope.kind == .function && env.kindOf n == some .cell) = true
        · show List.lookup x ((if (k == NameKind.free && env.scope.kind == .function && env.kindOf n == some .cell) = true then (n,NameKind.cell) else (n,k)) :: _) = _
          rw [if_pos c,List.lookup_cons,hx]
        · show List.lookup x ((if (k == NameKind.free && env.scope.kind == .function && env.kindOf n == some .cell) = true then (n,NameKind.cell) else (n,k)) :: _) = _
          rw [if_neg c,List.lookup_cons,hx]
  exact all sc.names
theorem zI {env:Env} {x:Str}:rk env x .free = .cell∨rk env x .free = .free:=by
  unfold rk
  split
  · exact .inl rfl
  · exact .inr rfl
theorem By {env:Env} {x:Str} {k:NameKind} (h:k ≠ .free):rk env x k = k:=by
  unfold rk
  rw [if_neg]
  intro c
  have:(k == NameKind.free) = true:=by
    cases q:(k == NameKind.free) with
    | true=>rfl
    | false=>rw [q] at c; simp at c
  exact h (by simpa using this)
def B5:Option NameKind→Bool
  | some .free=>true
  | _=>false
def B4:Option NameKind→Bool
  | some .free=>true
  | some .cell=>true
  | _=>false
def B6:Option NameKind→Bool
  | some .local=>true
  | _=>false
theorem yT {o:Option NameKind} (h:B5 o = true):o = some .free:=by
  cases o with
  | none=>cases h
  | some k=>cases k <;> first | rfl | cases h
theorem yS {o:Option NameKind} (h:B4 o = true):o = some .cell∨o = some .free:=by
  cases o with
  | none=>cases h
  | some k=>cases k <;> first | exact .inl rfl | exact .inr rfl | cases h
theorem yU {o:Option NameKind} (h:B6 o = true):o = some .local:=by
  cases o with
  | none=>cases h
  | some k=>cases k <;> first | rfl | cases h
def cj (N:List Str) (ok:Str→Option NameKind) (names:List (Str × NameKind)) (own:List Str) (fr:List Nat) (N':List Str):Bool :=
  decide (N' = own ++ fr.map fun j=>N.getD j "") && (fr.all fun j=>decide (j < N.length) && B5 (names.lookup (N.getD j ""))) &&
    names.all fun p=>match p.2 with
      | .free=>B4 (ok p.1)
      | .cell=>false
      | .local=>B6 (names.lookup p.1)
      | _=>true
structure Blk (N:List Str) (ok:Str→Option NameKind) (names:List (Str × NameKind)) (own:List Str) (fr:List Nat) (N':List Str):Prop where
  eN:N' = own ++ fr.map fun j=>N.getD j ""
  fr:∀ j ∈ fr,j < N.length∧names.lookup (N.getD j "") = some .free
  free:∀ p ∈ names,p.2 = .free→ok p.1 = some .cell∨ok p.1 = some .free
  cell:∀ p ∈ names,p.2 ≠ .cell
  loc:∀ p ∈ names,p.2 = .local→names.lookup p.1 = some .local
theorem wa {N:List Str} {ok:Str→Option NameKind} {names:List (Str × NameKind)} {own:List Str} {fr:List Nat} {N':List Str} (h:cj N ok names own fr N' = true):Blk N ok names own fr N':=by
  unfold cj at h
  rw [Bool.and_eq_true,Bool.and_eq_true] at h
  obtain ⟨⟨h1,h2⟩,h3⟩:=h
  have h3':=List.all_eq_true.mp h3
  refine ⟨of_decide_eq_true h1,fun j hj=>?_,fun p hp e=>?_,fun p hp e=>?_,fun p hp e=>?_⟩
  · have q:=List.all_eq_true.mp h2 j hj
    rw [Bool.and_eq_true] at q
    exact ⟨of_decide_eq_true q.1,yT q.2⟩
  · have q:=h3' p hp
    rw [e] at q
    exact yS q
  · have q:=h3' p hp
    rw [e] at q
    cases q
  · have q:=h3' p hp
    rw [e] at q
    exact yU q
def mkS (own:List Str) (fr:List Nat) (σ:St):St:=own.map (fun _=>none) ++ fr.map fun j=>(σ[j]?).getD none
theorem BQ (sc:Scope) (env:Env) (h:∀ p ∈ sc.names,p.2 = .free→∃ c,env.cells.lookup p.1 = some c) :
    ∃ cl,closureFor sc env = pure cl∧(∀ x c,cl.lookup x = some c→env.cells.lookup x = some c)∧∀ p ∈ sc.names,p.2 = .free→cl.lookup p.1 = env.cells.lookup p.1:=by
  unfold closureFor
  have all:∀ (l:List (Str × NameKind)) (acc:List (Str × Addr)),(∀ p ∈ l,p.2 = .free→∃ c,env.cells.lookup p.1 = some c)→(∀ x c,acc.lookup x = some c→env.cells.lookup x = some c) →
      ∃ cl,(forIn l acc fun (p:Str × NameKind) (r:List (Str × Addr))=>(match p with
        | (name,kind)=>if (kind == NameKind.free) = true then (do let a ← cellOf env name; pure (ForInStep.yield ((name,a) :: r))) else pure (ForInStep.yield r):Sem (ForInStep (List (Str × Addr))))) = pure cl ∧
        (∀ x c,cl.lookup x = some c→env.cells.lookup x = some c)∧(∀ p ∈ l,p.2 = .free→cl.lookup p.1 = env.cells.lookup p.1)∧∀ x,acc.lookup x = env.cells.lookup x→cl.lookup x = env.cells.lookup x:=by
    intro l
    induction l with
    | nil=>intro acc _ ha; exact ⟨acc,rfl,ha,fun p hp=>(by simp at hp),fun x e=>e⟩
    | cons p r ih =>
      intro acc hl ha
      obtain ⟨n,k⟩:=p
      rw [List.forIn_cons]
      by_cases hk:k = .free
      · subst hk
        obtain ⟨c,hc⟩:=hl (n,.free) List.mem_cons_self rfl
        have hce:cellOf env n = pure c:=by unfold cellOf; rw [hc]
        obtain ⟨cl,e1,e2,e3,e4⟩:=ih ((n,c) :: acc) (fun p hp=>hl p (List.mem_cons_of_mem _ hp)) (fun x c' e=>by
          rw [List.lookup_cons] at e
          cases hx:x == n with
          | true =>
            rw [hx] at e
            have:x = n:=by simpa using hx
            subst this
            cases e
            exact hc
          | false=>rw [hx] at e; exact ha x c' e)
        refine ⟨cl,?_,e2,fun p hp e=>?_,fun x e=>e4 x ?_⟩
        · simp only [beq_self_eq_true,if_true,hce]
          exact e1
        · rcases List.mem_cons.mp hp with rfl | hp
          · exact e4 n (by rw [List.lookup_cons]; simp [hc])
          · exact e3 p hp e
        · rw [List.lookup_cons]
          cases hx:x == n with
          | true =>
            have:x = n:=by simpa using hx
            subst this
            simp [hc]
          | false=>exact e
      · have hb:(k == NameKind.free) = false:=by simpa using hk
        obtain ⟨cl,e1,e2,e3,e4⟩:=ih acc (fun p hp=>hl p (List.mem_cons_of_mem _ hp)) ha
        refine ⟨cl,?_,e2,fun p hp e=>?_,e4⟩
        · simp only [hb,Bool.false_eq_true,if_false]
          exact e1
        · rcases List.mem_cons.mp hp with rfl | hp
          · exact absurd e hk
          · exact e3 p hp e
  obtain ⟨cl,e1,e2,e3,_⟩:=all sc.names [] h (fun x c e=>by simp at e)
  refine ⟨cl,?_,e2,e3⟩
  have e1':=congrArg (fun t:Sem (List (Str × Addr))=>t >>= fun cs=>pure cs) e1
  first
    | exact e1'
    | (simp only [pure_bind] at e1'; exact e1')
    | (refine Eq.trans ?_ e1'; rfl)
    | (dsimp only at e1' ⊢; exact e1')
def Cx.blk (X:Cx) (sc:Scope) (cl:List (Str × Addr)) (C:Addr) (N:List Str) (s:Shared) (H:Hp) (fp:List Addr):Cx where
  prog:=X.prog
  w:=X.w
  K:=X.K
  mg:=X.mg
  base:=X.base
  A:=X.A
  N:=N
  s₀:=s
  H₀:=H
  env:=compEnvC sc cl C X.env
  outer:=X.stack
  stack:=X.stack
  ex:=fp
  fn:=fun _=>false
  calm:=X.calm
  pn:=[]
  xe:=fun _ _=>False
section
variable {X:Cx} {pins:List (Addr × Obj)} {σ:St} {H:Hp} {s:Shared} {sc:Scope} {cl:List (Str × Addr)} {own:List Str} {fr:List Nat} {N':List Str} {fp:List Addr}
theorem uq (I:Inv X pins σ H s) (B:Blk X.N X.env.kindOf sc.names own fr N') (hk:sc.kind = .function)
    (sub:∀ x c,cl.lookup x = some c→X.env.cells.lookup x = some c) (has:∀ p ∈ sc.names,p.2 = .free→cl.lookup p.1 = X.env.cells.lookup p.1)
    (f2:∀ b ∈ fp,mO X pins H b) (fo:∀ b ∈ fp,b < s.heap.objs.size) {h1:Heap} {tk:Nat} {C D:Addr} {n:Nat} (eD:D = s.heap.objs.size) (eC:s.heap.objs.size < C)
    (hns:h1.Ns C (fun _=>none)) (old:∀ b o,s.heap.get? b = some o→h1.get? b = some o) (hD:h1.get? D = some { cls:=.type "list",data:=.seq ([]:List Value).toArray n }) :
    Inv (X.blk sc cl C N' s H fp) [] (mkS own fr σ) (upd H D (.lst [])) { s with heap:=h1,toks:=tk }:=by
  have hcells:∀ x c,cl.lookup x = some c→c < s.heap.objs.size:=fun x c e=>by
    obtain ⟨v,q⟩:=I.cell x c (sub x c e)
    exact q.lt
  have hDn:H D = none:=I.hok.fresh (Nat.le_of_eq eD.symm)
  have kind:∀ x,(X.blk sc cl C N' s H fp).env.kindOf x = (sc.names.lookup x).map (rk X.env x):=fun x=>pf sc X.env x
  refine ⟨⟨I.ok.mod,hk,I.ok.glob,I.ok.blt,Nat.le_of_lt eC,fun x y c e1 e2=>I.ok.inj x y c (sub x c e1) (sub y c e2),fun x hx=>?_,(fun x c e=>nomatch (show false = true from e)),I.ok.hd,I.ok.frames,.inl rfl,fun b hb=>⟨?_,fun x c e=>?_⟩,I.bs,Nat.le_trans I.ok.bsz I.sz,fun b o e hb=>?_,fun b hb=>?_,I.stack,I.stkFree⟩,
    rfl,I.bare,Un.laid old (Nat.le_of_eq eD.symm) hDn,⟨_,hns,fun i x v e1 e2 e3=>?_⟩,fun x c e=>?_,?_,fun x c e=>?_,fun p hp=>?_,I.hok.laid old (Nat.le_of_eq eD.symm) ⟨Nat.zero_le _,[],n,.nil,hD⟩,?_⟩
  · have hx':(sc.names.lookup x).map (rk X.env x) = some .cell∨(sc.names.lookup x).map (rk X.env x) = some .free:=by
      rw [← kind x]; exact hx
    cases q:sc.names.lookup x with
    | none=>rw [q] at hx'; simp at hx'
    | some k =>
      have hm:=PySem.mem_of_lookup q
      by_cases hf:k = .free
      · subst hf
        show ∃ c,cl.lookup x = some c
        rw [has _ hm rfl]
        have z:=B.free _ hm rfl
        exact I.ok.has x z
      · rw [q] at hx'
        simp only [Option.map_some,By hf] at hx'
        rcases hx' with z | z
        · exact absurd (Option.some.inj z) (B.cell _ hm)
        · exact absurd (Option.some.inj z) hf
  · exact Nat.ne_of_lt (Nat.lt_trans (fo b hb) eC)
  · exact (f2 b hb).2.2.2.2.1 x c (sub x c e)
  · rcases (f2 b hb).2.2.2.1 with z | z
    · exact I.ok.noex b o e z
    · exact absurd (Nat.lt_of_lt_of_le (Heap.lt_size e) (Nat.le_trans I.ok.bsz z)) (Nat.lt_irrefl _)
  · intro z
    rcases List.mem_cons.mp (I.stkSub b z) with e | e
    · exact (f2 b hb).2.1 e
    · exact (f2 b hb).2.2.1 e
  ·
    have e1':N'[i]? = some x:=e1
    have hi:¬ i < own.length:=fun z=>by
      unfold mkS at e2
      rw [List.getElem?_append_left (by simpa using z),List.getElem?_map,List.getElem?_eq_getElem z] at e2
      cases e2
    unfold mkS at e2
    rw [List.getElem?_append_right (by simpa using hi),List.length_map,List.getElem?_map] at e2
    rw [B.eN,List.getElem?_append_right (by simpa using hi),List.getElem?_map] at e1'
    cases q:fr[i - own.length]? with
    | none=>rw [q] at e2; cases e2
    | some j =>
      rw [q] at e2 e1'
      simp only [Option.map_some,Option.some.injEq] at e2 e1'
      obtain ⟨hj,hfr⟩:=B.fr j (List.mem_of_getElem? q)
      have ej:X.N[j]? = some x:=by
        rw [← e1',List.getD_eq_getElem?_getD,List.getElem?_eq_getElem hj]; rfl
      have eσ:σ[j]? = some (some v):=by
        cases z:σ[j]? with
        | none=>rw [z] at e2; cases e2
        | some o=>rw [z] at e2; simp only [Option.getD_some] at e2; rw [e2]
      rw [e1'] at hfr
      have hm:=PySem.mem_of_lookup hfr
      have hok:=B.free _ hm rfl
      obtain ⟨m0,hn0,hl0⟩:=I.loc
      have hv:Vis X.env.scope x:=by
        rcases hok with z | z
        · exact .inr (.inl z)
        · exact .inr (.inr z)
      obtain ⟨u,r,l⟩:=hl0 j x v ej eσ hv
      refine ⟨u,r,?_⟩
      rcases l with ⟨z,_⟩ | ⟨_,c,hc,o,ho,hd⟩
      · have hok':X.env.kindOf x = some .cell∨X.env.kindOf x = some .free:=hok
        rw [z] at hok'
        rcases hok' with y | y <;> cases y
      · refine .inr ⟨?_,c,?_,o,old c o ho,hd⟩
        · rw [kind x,hfr]
          rcases zI (env:=X.env) (x:=x) with y | y
          · exact .inl (by rw [Option.map_some,y])
          · exact .inr (by rw [Option.map_some,y])
        · show cl.lookup x = some c
          have z:=has _ hm rfl
          exact z.trans hc
  · obtain ⟨v,o,ho,hd⟩:=I.cell x c (sub x c e)
    exact ⟨v,o,old c o ho,hd⟩
  · show upd H D _ C = none
    rw [aB (by rw [eD]; exact Nat.ne_of_gt eC)]
    exact I.hok.fresh (Nat.le_of_lt eC)
  · show upd H D _ c = none
    rw [aB (by rw [eD]; exact Nat.ne_of_lt (hcells x c e))]
    exact I.freeC x c (sub x c e)
  · exact absurd (show p ∈ ([]:List (Addr × Obj)) from hp) (by simp)
  · show (mkS own fr σ).length = N'.length
    rw [B.eN]
    simp [mkS]
theorem sX {C:Addr} {σ':St} {H':Hp} {s':Shared} (I:Inv X pins σ H s) (f2:∀ b ∈ fp,mO X pins H b) (J:Inv (X.blk sc cl C N' s H fp) [] σ' H' s'):Inv X pins σ H' s' :=
  I.call' (ch:=fp) J.os J.base J.hok J.bare fun b hb=>⟨(f2 b hb).2.2.2.1,(f2 b hb).2.1,(f2 b hb).2.2.2.2.1,(f2 b hb).2.2.2.2.2⟩
theorem Inv.young {C:Addr} {s0:Shared} {H0:Hp} {σ0:St} {h':Heap} (I0:Inv X pins σ0 H0 s0) (I:Inv X pins σ H s) (hC:s0.heap.objs.size ≤ C) (hn:H C = none) (hs:Heap.SameBut C s.heap h'):Inv X pins σ H { s with heap:=h' } :=
  I.turned (t':=s.toks) (fun b o hb e=>(hs.2 b hb).trans e) hn (Nat.ne_of_gt (Nat.lt_of_lt_of_le I0.lt hC)) (.inr (Nat.le_trans I0.sz hC))
    (fun x c e z=>by
      obtain ⟨v,q⟩:=I0.cell x c e
      exact absurd (Nat.lt_of_lt_of_le q.lt (by rw [z]; exact hC)) (Nat.lt_irrefl _))
    (fun p hp z=>absurd (Nat.lt_of_lt_of_le (Heap.lt_size (I0.pin p hp).1) (by rw [z]; exact hC)) (Nat.lt_irrefl _))
end
def vP (X:Cx) (ifs:List Expr) (t:TT):Prop :=
  ∀ (pins:List (Addr × Obj)) (s:Shared) (σ:St) (H:Hp) (Q:Bool→Hp→Prop),Inv X pins σ H s→t σ H Q →
    wpAny (model X.prog X.w) X.A (forIn ifs true fun c r=>if r = true then do let ok ← isTrue c X.env (eval c X.env); pure (ForInStep.yield ok) else pure (ForInStep.yield r)) (TP X pins σ Q) X.xe s
def eV:TT:=fun _ H Q=>Q true H
theorem bX {X:Cx}:vP X [] eV:=fun pins s σ H Q I h=>wpAny_tests_nil ⟨H,I,h⟩
theorem mq {X:Cx} {c:Expr} {t:TT} (h:PT X c t):vP X [c] t:=fun pins s σ H Q I hw=>wpAny_tests_one (h pins s σ H Q I hw)
section
variable {prog:Program} {w:World} {A:Around} {R:Result→Shared→Prop} {s:Shared}
theorem om {elt target iter:Expr} {ifs:List Expr} {scope:Scope} {pos:Pos} {it acc:Value} {env:Env} (J:Nat→Shared→Prop)
    (turn:∀ n s,J n s→wpAny (model prog w) A (pyNext it) (fun r s₁=>match r with
      | none=>R (.ok .next) s₁
      | some v=>wpAny (model prog w) A (letOwnedTupleGo target it v) (fun _ s₂=>wpAny (model prog w) A (assign target env v) (fun _ s₃ =>
          wpAny (model prog w) A (forIn ifs true fun c r=>if r = true then do let ok ← isTrue c env (eval c env); pure (ForInStep.yield ok) else pure (ForInStep.yield r)) (fun ok s₄ =>
            if ok = true then wpAny (model prog w) A (eval elt env) (fun x s₅=>wpAny (model prog w) A (call (.builtin "list.append") [acc,x]) (fun _ s₆=>∃ m,m < n∧J m s₆) (fun _ _=>False) s₅) (fun _ _=>False) s₄
            else ∃ m,m < n∧J m s₄) (fun _ _=>False) s₃) (fun _ _=>False) s₂) (fun _ _=>False) s₁) (fun _ _=>False) s)
    (n:Nat) (h:J n s):codeAny (model prog w) A (.compLoop (.ListComp elt [⟨target,iter,ifs,0⟩] scope pos) 0 it acc env) R s:=by
  refine codeAny_loop rfl J (fun n s hJ=>?_) n h
  show wpAny (model prog w) A ((compTurn (.ListComp elt [⟨target,iter,ifs,0⟩] scope pos) 0 it acc env).onRaise fun x=>do noteFrame x env; theTreesLotGoes x) _ _ s
  refine wpAny_noted (wpAny_noRaise ?_)
  rw [compTurn_list]
  refine wpAny_bind (wpAny_standAt (wpAny_bind (thn (turn n s hJ) fun r s₁ h₁=>?_)))
  cases r with
  | none=>exact wpAny_pure h₁
  | some v =>
    refine wpAny_bind (thn h₁ fun _ s₂ h₂=>wpAny_bind (thn h₂ fun _ s₃ h₃=>wpAny_bind (thn h₃ fun ok s₄ h₄=>?_)))
    cases ok with
    | false=>exact wpAny_pure ⟨rfl,h₄⟩
    | true=>exact wpAny_bind (wpAny_bind (thn h₄ fun x s₅ h₅=>wpAny_bind (thn h₅ fun _ s₆ h₆=>wpAny_pure (wpAny_pure ⟨rfl,h₆⟩))))
end
def fT (wi:TI) (mk:St→St) (g:TG) (tt:TT) (te:TE):TE:=fun σ H Q=>wi σ H fun J H1=>∀ D,H1 D = none→∃ W:Nat→Nat→St→Hp→Prop,(∃ m,W 0 m (mk σ) (upd H1 D (.lst [])))∧∀ i m σ' H',W i m σ' H' →
  (J.stop i H'∧Q (.ref D) H') ∨
  (J.go i H'∧∃ Nx:St→Hp→Prop,(∀ σ'' H'',Nx σ'' H''→∃ m',m' < m∧W (i + 1) m' σ'' H'')∧∀ x H'',J.yld i H' x H''→g x σ' H'' fun σ2 H2=>tt σ2 H2 fun b H3 =>
    if b = true then te σ2 H3 fun v H4=>∃ ys,H4 D = some (.lst ys)∧ys.length < sizeLine∧Nx σ2 (upd H4 D (.lst (ys ++ [v]))) else Nx σ2 H3)
section
variable {X:Cx} {elt iter tg:Expr} {ifs:List Expr} {sc:Scope} {pos:Pos} {wi:TI} {own:List Str} {fr:List Nat} {N':List Str} {g:TG} {tt:TT} {te:TE}
theorem pW {pins:List (Addr × Obj)} {σ:St} {H:Hp} {s:Shared} {cl:List (Str × Addr)} {fp:List Addr} {it:Addr} {J:It} {tn:Nat→Heap→Prop} {E:Value→Shared→Prop} {Q:VK} {RR:Value→Addr→Result→Shared→Prop}
    (I:Inv X pins σ H s) (B:Blk X.N X.env.kindOf sc.names own fr N') (hk:sc.kind = .function) (hc:X.calm = true)
    (sub:∀ x c,cl.lookup x = some c→X.env.cells.lookup x = some c) (has:∀ p ∈ sc.names,p.2 = .free→cl.lookup p.1 = X.env.cells.lookup p.1)
    (T:lA X.prog X.w X.K tg J fp it tn) (st:tn 0 s.heap) (f2:∀ b ∈ fp,mO X pins H b)
    (hg:∀ cl C s H fp,PG (X.blk sc cl C N' s H fp) tg g) (ht:∀ cl C s H fp,vP (X.blk sc cl C N' s H fp) ifs tt) (he:∀ cl C s H fp,PE (X.blk sc cl C N' s H fp) elt te)
    (hw:∀ D,H D = none→∃ W:Nat→Nat→St→Hp→Prop,(∃ m,W 0 m (mkS own fr σ) (upd H D (.lst [])))∧∀ i m σ' H',W i m σ' H' →
      (J.stop i H'∧Q (.ref D) H') ∨
      (J.go i H'∧∃ Nx:St→Hp→Prop,(∀ σ'' H'',Nx σ'' H''→∃ m',m' < m∧W (i + 1) m' σ'' H'')∧∀ x H'',J.yld i H' x H''→g x σ' H'' fun σ2 H2=>tt σ2 H2 fun b H3 =>
        if b = true then te σ2 H3 fun v H4=>∃ ys,H4 D = some (.lst ys)∧ys.length < sizeLine∧Nx σ2 (upd H4 D (.lst (ys ++ [v]))) else Nx σ2 H3))
    (hRR:∀ D C σ' H' s',D = s.heap.objs.size→s.heap.objs.size ≤ C→Inv (X.blk sc cl C N' s H fp) [] σ' H' s'→Q (.ref D) H'→RR (.ref D) C (.ok .next) s') :
    wpAny (model X.prog X.w) X.A (newList []) (fun acc s₃=>wpAny (model X.prog X.w) X.A (newFunctionEnv sc X.env.globals cl [] X.env.qual none .none (some X.env)) (fun cenv s₄ =>
      codeAny (model X.prog X.w) X.A (.compStart (.ListComp elt [⟨tg,iter,ifs,0⟩] sc pos) 0 (.ref it) acc { cenv with scope:=relabel sc X.env }) (RR acc cenv.locals) s₄) E s₃) E s:=by
  have fo:∀ b ∈ fp,b < s.heap.objs.size:=fun b hb=>by
    obtain ⟨o,e,_⟩:=T.obj _ _ st b hb
    exact Heap.lt_size e
  refine wpAny_newObj_type (wpAny_newFunctionEnv B.cell (by intro y hy; simp at hy) (fun h₁ hns₁ hsb₁=>?_) hk)
  dsimp only at hns₁ hsb₁ ⊢
  generalize hH2:s.heap.push { cls:=.type "list",dict:=none,data:=.seq ([]:List Value).toArray } = G at hns₁ hsb₁ ⊢
  have hG:G.objs.size = s.heap.objs.size + 1:=by rw [← hH2,Heap.size_push]
  have hlt:s.heap.objs.size < G.objs.size:=by rw [hG]; exact Nat.lt_succ_self _
  have old:∀ b o,s.heap.get? b = some o→h₁.get? b = some o:=fun b o e =>
    hsb₁.extBut b o (Nat.ne_of_lt (Nat.lt_trans (Heap.lt_size e) hlt)) (Heap.get?_push_of_some _ (hH2 ▸ Heap.get?_push_of_some _ e))
  have hacc:h₁.get? s.heap.objs.size = some { cls:=.type "list",data:=.seq ([]:List Value).toArray } :=
    hsb₁.extBut _ _ (Nat.ne_of_lt hlt) (Heap.get?_push_of_some _ (hH2 ▸ Heap.get?_push_size _ rfl))
  obtain ⟨W,⟨m0,w0⟩,turn⟩:=hw s.heap.objs.size (I.hok.fresh (Nat.le_refl _))
  have st₁:tn 0 h₁:=T.keep _ _ _ st fun b _ o e=>old b o e
  have hns':h₁.Ns G.objs.size (fun _=>none):=by
    have e:(fun x=>([]:List (Str × Value)).reverse.lookup x) = (fun _:Str=>(none:Option Value)):=by funext x; rfl
    first
      | exact hns₁
      | (rw [e] at hns₁; exact hns₁)
  have loop:∀ s₃:Shared,s₃ = { s with heap:=h₁,toks:=s.toks + ([]:List (Str × Value)).length } →
      codeAny (model X.prog X.w) X.A (.compLoop (.ListComp elt [⟨tg,iter,ifs,0⟩] sc pos) 0 (.ref it) (.ref s.heap.objs.size) (compEnvC sc cl G.objs.size X.env)) (RR (.ref s.heap.objs.size) G.objs.size) s₃:=by
    rintro s₃ rfl
    have I0:=uq (tk:=s.toks + ([]:List (Str × Value)).length) I B hk sub has f2 fo rfl hlt hns' old hacc
    have pC:∀ {pins':List (Addr × Obj)} {H':Hp},pins' = []→(∀ b ∈ fp,H' b = none)→∀ b ∈ fp,mO (X.blk sc cl G.objs.size N' s H fp) pins' H' b:=fun ep hn b hb=>by
      subst ep
      refine ⟨hn b hb,Nat.ne_of_lt (Nat.lt_trans (fo b hb) hlt),fun z=>?_,.inl hb,fun x c e=>(f2 b hb).2.2.2.2.1 x c (sub x c e),fun p hp=>absurd (show p ∈ ([]:List (Addr × Obj)) from hp) (by simp)⟩
      rcases List.mem_cons.mp (I.stkSub b z) with e | e
      · exact (f2 b hb).2.1 e
      · exact (f2 b hb).2.2.1 e
    have fr0:∀ b ∈ fp,upd H s.heap.objs.size (.lst []) b = none:=fun b hb=>by
      rw [aB (Nat.ne_of_lt (fo b hb))]; exact (f2 b hb).1
    refine om (fun n s'=>∃ i σ' H',Inv (X.blk sc cl G.objs.size N' s H fp) [] σ' H' s'∧tn i s'.heap∧(∀ b ∈ fp,H' b = none)∧W i n σ' H') ?_ m0 ⟨0,_,_,I0,st₁,fr0,w0⟩
    rintro n s3 ⟨i,σ3,H3,I3,st3,fr3,w3⟩
    rcases turn i n σ3 H3 w3 with ⟨stop,qn⟩ | ⟨go,Nx,hN,step⟩
    · refine thn (T.done (X.blk sc cl G.objs.size N' s H fp) rfl rfl rfl hc i [] s3 σ3 H3 _ I3 (pC rfl fr3) st3 stop) fun r s4 ⟨hr,I4⟩=>?_
      subst hr
      exact hRR _ _ _ _ _ rfl (Nat.le_of_lt hlt) I4 qn
    · refine thn (T.item (X.blk sc cl G.objs.size N' s H fp) rfl rfl rfl hc i [] s3 σ3 H3 _ I3 (pC rfl fr3) st3 go) fun r s4 ⟨u,hr,h4⟩=>?_
      subst hr
      refine thn h4 fun _ s5 ⟨x,H5,I5,r5,y5,st5,fr5⟩=>?_
      have I5':=I5.pinned (pC rfl fr5) (T.obj _ _ st5)
      refine thn (hg cl G.objs.size s H fp _ s5 σ3 H5 x u _ I5' r5 (step x H5 y5)) fun _ s6 ⟨σ6,H6,I6,q6⟩=>?_
      refine thn (ht cl G.objs.size s H fp _ s6 σ6 H6 _ I6 q6) fun ok s7 ⟨H7,I7,q7⟩=>?_
      have again:∀ {s8:Shared} {H8:Hp},Inv (X.blk sc cl G.objs.size N' s H fp) ([] ++ mr fp s5.heap) σ6 H8 s8→Nx σ6 H8 →
          ∃ m,m < n∧∃ i σ' H',Inv (X.blk sc cl G.objs.size N' s H fp) [] σ' H' s8∧tn i s8.heap∧(∀ b ∈ fp,H' b = none)∧W i m σ' H':=fun {s8 H8} I8 n8=>by
        obtain ⟨m',hm,w8⟩:=hN σ6 H8 n8
        refine ⟨m',hm,i + 1,σ6,H8,I8.unpinned,T.keep _ _ _ st5 fun b hb o e=>(I8.pin (b,o) (List.mem_append_right _ (List.mem_append_right _ (g9 hb e)))).1,fun b hb=>?_,w8⟩
        obtain ⟨o,e,d⟩:=T.obj _ _ st5 b hb
        exact (I8.pin (b,o) (List.mem_append_right _ (List.mem_append_right _ (g9 hb e)))).2.1
      cases ok with
      | false =>
        rw [if_neg Bool.false_ne_true] at q7 ⊢
        exact again I7 q7
      | true =>
        rw [if_pos rfl] at q7 ⊢
        refine thn (he cl G.objs.size s H fp _ s7 σ6 H7 _ I7 q7) fun y s8 ⟨v,H8,I8,rv,ys,hD8,hz,nx⟩=>?_
        refine thn (bL (X:=X.blk sc cl G.objs.size N' s H fp) _ s8 σ6 H8 (.ref s.heap.objs.size) [v] (.ref s.heap.objs.size) [y] (fun _ H9=>Nx σ6 H9) I8 rfl (.cons rv .nil) ⟨_,ys,v,rfl,rfl,hD8,hz,nx⟩) fun _ s9 ⟨_,H9,I9,_,n9⟩=>?_
        exact again I9 n9
  exact codeAny_compStart_list (loop _ rfl) (T.self _ 0 _ _ _ st₁ (loop _ rfl))
theorem dO (hi:PI X tg iter wi) (hk:sc.kind = .function) (hb:cj X.N X.env.kindOf sc.names own fr N' = true) (hc:X.calm = true)
    (hg:∀ cl C s H fp,PG (X.blk sc cl C N' s H fp) tg g) (ht:∀ cl C s H fp,vP (X.blk sc cl C N' s H fp) ifs tt) (he:∀ cl C s H fp,PE (X.blk sc cl C N' s H fp) elt te)
    (hs:∀ x,foldedSetIterable iter X.env x = pure x:=by intro _; rfl):PE X (.ListComp elt [⟨tg,iter,ifs,0⟩] sc pos) (fT wi (mkS own fr) g tt te):=by
  intro pins s σ H Q I h
  have B:=wa hb
  obtain ⟨cl,hcl,sub,has⟩:=BQ sc X.env fun p hp e=>I.ok.has p.1 (B.free p hp e)
  rw [eval_ListComp]
  refine wpAny_comprehension_free (use:=none) rfl hs hcl hk B.loc (thn (hi pins s σ H _ I h) fun v s1 h1=>thn h1 fun itv s2 h2=>?_)
  obtain ⟨it,fp,tn,J,H2,e,I2,T,st2,f2,body⟩:=h2
  subst e
  refine pW (RR:=fun acc C=>compPost (model X.prog X.w) X.A X.xe none (EP X pins σ Q) acc C) I2 B hk hc sub has T st2 f2 hg ht he body ?_
  intro D C σ' H' s' eD hC J' q
  obtain ⟨m,hn,_⟩:=J'.loc
  refine ⟨m,hn,fun h' hs'=>⟨.ref D,H',?_,rfl,q⟩⟩
  exact Inv.young I2 (sX I2 f2 J') hC J'.free hs'
theorem dI {i:Nat} {y:Str} {py spos:Pos} (hi:PI X tg iter wi) (hk:sc.kind = .function) (hb:cj X.N X.env.kindOf sc.names own fr N' = true) (hc:X.calm = true)
    (hg:∀ cl C s H fp,PG (X.blk sc cl C N' s H fp) tg g) (ht:∀ cl C s H fp,vP (X.blk sc cl C N' s H fp) ifs tt) (he:∀ cl C s H fp,PE (X.blk sc cl C N' s H fp) elt te)
    (hN:X.N.Nodup) (hy:X.N[i]? = some y) (hx:X.env.scope.names.lookup y = some .local)
    (hsw:swapsWith (.ListComp elt [⟨tg,iter,ifs,0⟩] sc pos) (some (.Name y py)) spos.line X.env = pure true)
    (hs:∀ x,foldedSetIterable iter X.env x = pure x:=by intro _; rfl):PS X (.Assign [.Name y py] (.ListComp elt [⟨tg,iter,ifs,0⟩] sc pos) spos) (m5 (fT wi (mkS own fr) g tt te) (cf i)):=by
  intro pins s σ H D I h
  have B:=wa hb
  obtain ⟨cl,hcl,sub,has⟩:=BQ sc X.env fun p hp e=>I.ok.has p.1 (B.free p hp e)
  rw [exec_Assign_Name_used _ _ _ _ hsw]
  refine wpAny_bind (wpAny_standAt (wpAny_bind ?_))
  show wpAny _ _ (do let _ ← comprehension (.ListComp elt [⟨tg,iter,ifs,0⟩] sc pos) sc X.env _ (newList []) false (eval iter X.env) (some (assign (.Name y py) X.env))) _ _ s
  refine wpAny_bind (wpAny_mono (wpAny_comprehension_free (use:=some (assign (.Name y py) X.env)) (Q:=fun _ s'=>SP X pins D .next s') rfl hs hcl hk B.loc
    (thn (hi pins s σ H _ I h) fun v s1 h1=>thn h1 fun itv s2 h2=>?_)) (fun _ s' hq=>wpAny_pure (wpAny_pure hq)) fun _ _ e=>e)
  obtain ⟨it,fp,tn,J,H2,e,I2,T,st2,f2,body⟩:=h2
  subst e
  refine pW (Q:=fun v H'=>D.nx (σ.set i (some v)) H') (RR:=fun acc C=>compPost (model X.prog X.w) X.A X.xe (some (assign (.Name y py) X.env)) (fun _ s'=>SP X pins D .next s') acc C) I2 B hk hc sub has T st2 f2 hg ht he body ?_
  intro D' C σ' H' s' eD hC J' q
  have I3:=sX I2 f2 J'
  show wpAny _ _ (assign (.Name y py) X.env (.ref D')) _ _ s'
  refine wpAny_assign_Name (nQ I3 hN hy (.inl hx) (v:=.ref D') rfl (fun s4 I4 ⟨a,hsb,ha⟩=>?_) (.inr hx))
  obtain ⟨m,hn,_⟩:=J'.loc
  have hCa:C ≠ a:=by
    rcases ha with e | e
    · rw [e]; exact Nat.ne_of_gt (Nat.lt_of_lt_of_le I2.lt hC)
    · obtain ⟨v,z⟩:=I2.cell _ _ e
      exact Nat.ne_of_gt (Nat.lt_of_lt_of_le z.lt hC)
  refine ⟨m,hn.sameBut hsb hCa,fun h' hs'=>⟨_,H',?_,q⟩⟩
  exact Inv.young I2 I4 hC J'.free hs'
end
end L2
end
section
namespace L2
open PySem PySem.Spec PyProof.Rows
inductive D where
  | non | bl (b:Bool) | int (i:Int) | str (x:Str) | tup (ds:List D)
  | lst
mutual
def Dat (K:PySem.W.Frag) (H:Hp):D→V→Prop
  | .non,v=>v = .non
  | .bl b,v=>v = .bl b
  | .int i,v=>v = .int i
  | .str x,v=>v = .str x
  | .tup ds,v=>∃ a vs,v = .ref a∧SqT K H a vs∧Dats K H ds vs
  | .lst,v=>∃ a vs,v = .ref a∧SqL K H a vs
def Dats (K:PySem.W.Frag) (H:Hp):List D→List V→Prop
  | [],vs=>vs = []
  | d :: ds,vs=>∃ v r,vs = v :: r∧Dat K H d v∧Dats K H ds r
end
section
variable {K:PySem.W.Frag} {H H':Hp}
theorem Dat.tupI {a:Addr} {vs:List V} {ds:List D} (h:SqT K H a vs) (r:Dats K H ds vs):Dat K H (.tup ds) (.ref a):=by
  unfold Dat; exact ⟨a,vs,rfl,h,r⟩
theorem Dats.nil:Dats K H [] []:=by unfold Dats; rfl
theorem Dats.cons {d:D} {v:V} {ds:List D} {vs:List V} (h:Dat K H d v) (r:Dats K H ds vs):Dats K H (d :: ds) (v :: vs):=by
  unfold Dats; exact ⟨v,vs,rfl,h,r⟩
theorem Dat.intI (i:Int):Dat K H (.int i) (.int i):=by unfold Dat; rfl
theorem Dat.strI (x:Str):Dat K H (.str x) (.str x):=by unfold Dat; rfl
theorem Dat.blI (b:Bool):Dat K H (.bl b) (.bl b):=by unfold Dat; rfl
theorem Dat.nonI:Dat K H .non .non:=by unfold Dat; rfl
theorem Dat.lstI {a:Addr} {vs:List V} (h:SqL K H a vs):Dat K H .lst (.ref a):=by unfold Dat; exact ⟨a,vs,rfl,h⟩
theorem Dat.tupE {v:V} {ds:List D} (h:Dat K H (.tup ds) v):∃ a vs,v = .ref a∧SqT K H a vs∧Dats K H ds vs:=by
  unfold Dat at h; exact h
theorem Dat.intE {v:V} {i:Int} (h:Dat K H (.int i) v):v = .int i:=by unfold Dat at h; exact h
theorem Dat.strE {v:V} {x:Str} (h:Dat K H (.str x) v):v = .str x:=by unfold Dat at h; exact h
theorem Dat.blE {v:V} {b:Bool} (h:Dat K H (.bl b) v):v = .bl b:=by unfold Dat at h; exact h
theorem Dat.nonE {v:V} (h:Dat K H .non v):v = .non:=by unfold Dat at h; exact h
theorem Dat.lstE {v:V} (h:Dat K H .lst v):∃ a vs,v = .ref a∧SqL K H a vs:=by unfold Dat at h; exact h
theorem Dats.nilE {vs:List V} (h:Dats K H [] vs):vs = []:=by unfold Dats at h; exact h
theorem Dats.consE {d:D} {ds:List D} {vs:List V} (h:Dats K H (d :: ds) vs):∃ v r,vs = v :: r∧Dat K H d v∧Dats K H ds r:=by
  unfold Dats at h; exact h
structure dv (K:PySem.W.Frag) (H H':Hp):Prop where
  tup:∀ a xs,SqT K H a xs→SqT K H' a xs
  lst:∀ a xs,SqL K H a xs→∃ ys,SqL K H' a ys
mutual
theorem Dat.mono (g:dv K H H'):∀ (d:D) {v:V},Dat K H d v→Dat K H' d v
  | .non,v,h=>by unfold Dat at h ⊢; exact h
  | .bl b,v,h=>by unfold Dat at h ⊢; exact h
  | .int i,v,h=>by unfold Dat at h ⊢; exact h
  | .str x,v,h=>by unfold Dat at h ⊢; exact h
  | .tup ds,v,h=>by
    obtain ⟨a,vs,e,q,r⟩:=h.tupE
    subst e
    exact Dat.tupI (g.tup _ _ q) (Dats.mono g ds r)
  | .lst,v,h=>by
    obtain ⟨a,vs,e,q⟩:=h.lstE
    subst e
    obtain ⟨ys,q'⟩:=g.lst _ _ q
    exact Dat.lstI q'
theorem Dats.mono (g:dv K H H'):∀ (ds:List D) {vs:List V},Dats K H ds vs→Dats K H' ds vs
  | [],vs,h=>by unfold Dats at h ⊢; exact h
  | d :: ds,vs,h=>by
    obtain ⟨v,r,e,h1,h2⟩:=h.consE
    subst e
    exact Dats.cons (Dat.mono g d h1) (Dats.mono g ds h2)
end
theorem Dats.length:∀ {ds:List D} {vs:List V},Dats K H ds vs→ds.length = vs.length
  | [],vs,h=>by rw [h.nilE]; rfl
  | d :: ds,vs,h=>by
    obtain ⟨v,r,e,h1,h2⟩:=h.consE
    subst e
    rw [List.length_cons,List.length_cons,Dats.length h2]
theorem Dats.get:∀ {ds:List D} {vs:List V} {i:Nat} {d:D},Dats K H ds vs→ds[i]? = some d→∃ v,vs[i]? = some v∧Dat K H d v
  | [],_,i,d,_,e=>by simp at e
  | d0 :: ds,vs,0,d,h,e=>by
    obtain ⟨v,r,e1,h1,h2⟩:=h.consE
    subst e1
    simp at e
    subst e
    exact ⟨v,rfl,h1⟩
  | d0 :: ds,vs,i + 1,d,h,e=>by
    obtain ⟨v,r,e1,h1,h2⟩:=h.consE
    subst e1
    obtain ⟨u,q1,q2⟩:=Dats.get (i:=i) (d:=d) h2 (by simpa using e)
    exact ⟨u,by simpa using q1,q2⟩
theorem Dats.getV:∀ {ds:List D} {vs:List V} {i:Nat} {v:V},Dats K H ds vs→vs[i]? = some v→∃ d,ds[i]? = some d∧Dat K H d v
  | [],vs,i,v,h,e=>by rw [h.nilE] at e; simp at e
  | d0 :: ds,vs,0,v,h,e=>by
    obtain ⟨u,r,e1,h1,h2⟩:=h.consE
    subst e1
    simp at e
    subst e
    exact ⟨d0,rfl,h1⟩
  | d0 :: ds,vs,i + 1,v,h,e=>by
    obtain ⟨u,r,e1,h1,h2⟩:=h.consE
    subst e1
    obtain ⟨d,q1,q2⟩:=Dats.getV (i:=i) (v:=v) h2 (by simpa using e)
    exact ⟨d,by simpa using q1,q2⟩
theorem Dats.append:∀ {ds es:List D} {vs us:List V},Dats K H ds vs→Dats K H es us→Dats K H (ds ++ es) (vs ++ us)
  | [],es,vs,us,h,h'=>by rw [h.nilE]; exact h'
  | d :: ds,es,vs,us,h,h'=>by
    obtain ⟨v,r,e,h1,h2⟩:=h.consE
    subst e
    exact Dats.cons h1 (Dats.append h2 h')
end
mutual
def eqD:D→D→Bool
  | .non,.non=>true
  | .bl a,.bl b=>a == b
  | .int a,.int b=>a == b
  | .bl a,.int b=>(if a then 1 else 0) == b
  | .int a,.bl b=>a == (if b then 1 else 0)
  | .str a,.str b=>a == b
  | .tup a,.tup b=>cW a b
  | _,_=>false
def cW:List D→List D→Bool
  | [],[]=>true
  | a :: r,b :: q=>eqD a b && cW r q
  | _,_=>false
end
mutual
def dS:D→Nat
  | .tup ds=>bJ ds + 1
  | _=>0
def bJ:List D→Nat
  | []=>0
  | d :: ds=>max (dS d) (bJ ds)
end
mutual
def noL:D→Bool
  | .tup ds=>cM ds
  | .lst=>false
  | _=>true
def cM:List D→Bool
  | []=>true
  | d :: ds=>noL d && cM ds
end
def eAt (a b:List D) (j:Nat):Bool:=match a[j]?,b[j]? with
  | some x,some y=>eqD x y
  | _,_=>false
theorem lC (n:Nat) (e:Nat→Bool):(List.range (n + 1)).all e = (e 0 && (List.range n).all fun j=>e (j + 1)):=by
  rw [List.range_succ_eq_map,List.all_cons,List.all_map]
  rfl
theorem g8:∀ a b:List D,((List.range (min a.length b.length)).all (eAt a b) && a.length == b.length) = cW a b
  | [],[]=>by unfold cW; rfl
  | [],y :: b=>by unfold cW; simp
  | x :: a,[]=>by unfold cW; simp
  | x :: a,y :: b=>by
    have ih:=g8 a b
    unfold cW
    rw [← ih,List.length_cons,List.length_cons,Nat.succ_min_succ,lC]
    have e0:eAt (x :: a) (y :: b) 0 = eqD x y:=rfl
    have e1:(fun j=>eAt (x :: a) (y :: b) (j + 1)) = eAt a b:=by
      funext j
      simp [eAt]
    rw [e0,e1,Bool.and_assoc]
    congr 2
    simp
theorem p9 {a b:List D} (h:a.length = b.length):(List.range a.length).all (eAt a b) = cW a b:=by
  have q:=g8 a b
  rw [← h,Nat.min_self] at q
  rw [← q]
  simp
mutual
theorem iE:∀ d:D,noL d = true→eqD d d = true
  | .non,_=>by unfold eqD; rfl
  | .bl b,_=>by unfold eqD; simp
  | .int i,_=>by unfold eqD; simp
  | .str x,_=>by unfold eqD; simp
  | .tup ds,h=>by unfold eqD; unfold noL at h; exact nv ds h
  | .lst,h=>by unfold noL at h; cases h
theorem nv:∀ ds:List D,cM ds = true→cW ds ds = true
  | [],_=>by unfold cW; rfl
  | d :: ds,h=>by
    unfold cM at h
    rw [Bool.and_eq_true] at h
    unfold cW
    rw [iE d h.1,nv ds h.2]
    rfl
end
section
variable {X:Cx} {pins:List (Addr × Obj)} {σ:St} {H:Hp} {s:Shared}
mutual
theorem oo (I:Inv X pins σ H s):∀ (d e:D) {v:V},noL d = true→Dat X.K H d v→Dat X.K H e v→noL e = true→d = e
  | .non,e,v,hn,h,h',hn'=>by
    have z:=h.nonE; subst z
    cases e with
    | non=>rfl
    | bl b=>exact nomatch h'.blE
    | int i=>exact nomatch h'.intE
    | str x=>exact nomatch h'.strE
    | tup ds=>obtain ⟨_,_,q,_⟩:=h'.tupE; exact nomatch q
    | lst=>obtain ⟨_,_,q,_⟩:=h'.lstE; exact nomatch q
  | .bl b,e,v,hn,h,h',hn'=>by
    have z:=h.blE; subst z
    cases e with
    | non=>exact nomatch h'.nonE
    | bl c=>have q:=h'.blE; injection q with q; rw [q]
    | int i=>exact nomatch h'.intE
    | str x=>exact nomatch h'.strE
    | tup ds=>obtain ⟨_,_,q,_⟩:=h'.tupE; exact nomatch q
    | lst=>obtain ⟨_,_,q,_⟩:=h'.lstE; exact nomatch q
  | .int i,e,v,hn,h,h',hn'=>by
    have z:=h.intE; subst z
    cases e with
    | non=>exact nomatch h'.nonE
    | bl c=>exact nomatch h'.blE
    | int j=>have q:=h'.intE; injection q with q; rw [q]
    | str x=>exact nomatch h'.strE
    | tup ds=>obtain ⟨_,_,q,_⟩:=h'.tupE; exact nomatch q
    | lst=>obtain ⟨_,_,q,_⟩:=h'.lstE; exact nomatch q
  | .str x,e,v,hn,h,h',hn'=>by
    have z:=h.strE; subst z
    cases e with
    | non=>exact nomatch h'.nonE
    | bl c=>exact nomatch h'.blE
    | int j=>exact nomatch h'.intE
    | str y=>have q:=h'.strE; injection q with q; rw [q]
    | tup ds=>obtain ⟨_,_,q,_⟩:=h'.tupE; exact nomatch q
    | lst=>obtain ⟨_,_,q,_⟩:=h'.lstE; exact nomatch q
  | .tup ds,e,v,hn,h,h',hn'=>by
    obtain ⟨a,vs,z,q,r⟩:=h.tupE
    subst z
    cases e with
    | non=>exact nomatch h'.nonE
    | bl c=>exact nomatch h'.blE
    | int j=>exact nomatch h'.intE
    | str y=>exact nomatch h'.strE
    | tup es =>
      obtain ⟨a',vs',z,q',r'⟩:=h'.tupE
      cases z
      have ev:=I.tuple_inj q q'
      subst ev
      unfold noL at hn hn'
      rw [p7 I ds es hn r r' hn']
    | lst=>unfold noL at hn'; cases hn'
  | .lst,e,v,hn,h,h',hn'=>by unfold noL at hn; cases hn
theorem p7 (I:Inv X pins σ H s):∀ (ds es:List D) {vs:List V},cM ds = true→Dats X.K H ds vs→Dats X.K H es vs→cM es = true→ds = es
  | [],es,vs,_,h,h',_=>by
    have z:=h.nilE; subst z
    cases es with
    | nil=>rfl
    | cons e es=>obtain ⟨_,_,q,_⟩:=h'.consE; exact nomatch q
  | d :: ds,es,vs,hn,h,h',hn'=>by
    obtain ⟨v,r,z,h1,h2⟩:=h.consE
    subst z
    cases es with
    | nil=>exact nomatch h'.nilE
    | cons e es =>
      obtain ⟨v',r',z,h1',h2'⟩:=h'.consE
      injection z with z1 z2
      subst z1 z2
      unfold cM at hn hn'
      rw [Bool.and_eq_true] at hn hn'
      rw [oo I d e hn.1 h1 h1' hn'.1,p7 I ds es hn.2 h2 h2' hn'.2]
end
end
theorem j9 (A:Around):A.in1.units = A.units + 1:=rfl
section
variable {X:Cx} {pins:List (Addr × Obj)} {σ:St} {H:Hp} {s:Shared}
theorem jh:∀ {ds:List D} {j:Nat} {d:D},ds[j]? = some d→dS d ≤ bJ ds
  | [],_,_,e=>by simp at e
  | d0 :: ds,0,d,e=>by simp at e; subst e; unfold bJ; exact Nat.le_max_left _ _
  | d0 :: ds,j + 1,d,e=>by
    have q:=jh (ds:=ds) (j:=j) (d:=d) (by simpa using e)
    unfold bJ
    exact Nat.le_trans q (Nat.le_max_right _ _)
theorem gI:∀ {ds:List D} {j:Nat} {d:D},cM ds = true→ds[j]? = some d→noL d = true
  | [],_,_,_,e=>by simp at e
  | d0 :: ds,0,d,h,e=>by simp at e; subst e; unfold cM at h; rw [Bool.and_eq_true] at h; exact h.1
  | d0 :: ds,j + 1,d,h,e=>by
    unfold cM at h
    rw [Bool.and_eq_true] at h
    exact gI (ds:=ds) (j:=j) (d:=d) h.2 (by simpa using e)
theorem lH {A:Around} {ds es:List D} {xs ys:List V} {us ws:List Value} (n:Nat)
    (all:∀ (d e:D) (x y:V) (u w:Value),dS d ≤ n→noL d = true→noL e = true→Dat X.K H d x→Dat X.K H e y→RelV x u→RelV y w→SeqAt.EqAt A s u w (eqD d e))
    (hn:bJ ds ≤ n) (h1:cM ds = true) (h2:cM es = true) (r1:Dats X.K H ds xs) (r2:Dats X.K H es ys) (v1:Vals xs us) (v2:Vals ys ws) :
    ∀ j (k1:j < us.toArray.size) (k2:j < ws.toArray.size),SeqAt.EqAt A s us.toArray[j] ws.toArray[j] (eAt ds es j):=by
  intro j k1 k2
  have l1:j < xs.length:=by rw [v1.length]; simpa using k1
  have l2:j < ys.length:=by rw [v2.length]; simpa using k2
  obtain ⟨u,eu,ru⟩:=v1.get (i:=j) (x:=xs[j]) (List.getElem?_eq_getElem l1)
  obtain ⟨w,ew,rw'⟩:=v2.get (i:=j) (x:=ys[j]) (List.getElem?_eq_getElem l2)
  obtain ⟨d,ed,qd⟩:=r1.getV (i:=j) (v:=xs[j]) (List.getElem?_eq_getElem l1)
  obtain ⟨e,ee,qe⟩:=r2.getV (i:=j) (v:=ys[j]) (List.getElem?_eq_getElem l2)
  have z1:us.toArray[j] = u:=by
    have:us[j]? = some u:=eu
    have k1':j < us.length:=by simpa using k1
    rw [List.getElem?_eq_getElem k1'] at this
    simpa using Option.some.inj this
  have z2:ws.toArray[j] = w:=by
    have:ws[j]? = some w:=ew
    have k2':j < ws.length:=by simpa using k2
    rw [List.getElem?_eq_getElem k2'] at this
    simpa using Option.some.inj this
  have z3:eAt ds es j = eqD d e:=by unfold eAt; rw [ed,ee]
  rw [z1,z2,z3]
  exact all d e _ _ u w (Nat.le_trans (jh ed) hn) (gI h1 ed) (gI h2 ee) qd qe ru rw'
theorem qV {A:Around} {ds es:List D} {a b:Addr} {xs ys:List V} (I:Inv X pins σ H s) (hu:A.units < cLine) (n:Nat)
    (all:∀ (d e:D) (x y:V) (u w:Value),dS d ≤ n→noL d = true→noL e = true→Dat X.K H d x→Dat X.K H e y→RelV x u→RelV y w→SeqAt.EqAt A.in1 s u w (eqD d e))
    (hn:bJ ds ≤ n) (h1:cM ds = true) (h2:cM es = true) (r1:Dats X.K H ds xs) (r2:Dats X.K H es ys) (q1:SqT X.K H a xs) (q2:SqT X.K H b ys) :
    SeqAt.RcAt A s (.ref a) (.ref b) (cW ds es)∧SeqAt.RcNeAt A s (.ref a) (.ref b) (!cW ds es):=by
  obtain ⟨us,v1,t1,_⟩:=I.tuple q1
  obtain ⟨ws,v2,t2,_⟩:=I.tuple q2
  have hi:=lH (X:=X) (H:=H) (s:=s) n all hn h1 h2 r1 r2 v1 v2
  have p:=SeqAt.RcAt.tuples (show s.heap.IsTuple a us.toArray from t1) (show s.heap.IsTuple b ws.toArray from t2) hu hi
  have p':=SeqAt.RcNeAt.tuples (show s.heap.IsTuple a us.toArray from t1) (show s.heap.IsTuple b ws.toArray from t2) hu hi
  have e1:us.toArray.size = ds.length:=by rw [List.size_toArray,← v1.length,r1.length]
  have e2:ws.toArray.size = es.length:=by rw [List.size_toArray,← v2.length,r2.length]
  rw [e1,e2,g8] at p p'
  exact ⟨p,p'⟩
theorem rO (I:Inv X pins σ H s):∀ (n:Nat) (A:Around) (d e:D) (x y:V) (u w:Value),A.units + n + 1 < cLine→dS d ≤ n→noL d = true→noL e = true→Dat X.K H d x→Dat X.K H e y→RelV x u→RelV y w→SeqAt.EqAt A s u w (eqD d e):=by
  intro n
  induction n with
  | zero =>
    intro A d e x y u w hu hn h1 h2 q1 q2 r1 r2
    exact base I A d e x y u w (by omega) h1 h2 q1 q2 r1 r2 fun ds es a b xs ys ed ee=>by
      subst ed
      unfold dS at hn
      omega
  | succ n ih =>
    intro A d e x y u w hu hn h1 h2 q1 q2 r1 r2
    refine base I A d e x y u w (by omega) h1 h2 q1 q2 r1 r2 fun ds es a b xs ys ed ee t1 t2 s1 s2 hne=>?_
    subst ed ee
    unfold dS at hn
    unfold noL at h1 h2
    have p:=(qV (A:=A) (ds:=ds) (es:=es) I (by omega) n (fun d e x y u w k1 k2 k3 k4 k5 k6 k7=>ih A.in1 d e x y u w (by rw [j9]; omega) k1 k2 k3 k4 k5 k6 k7) (by omega) h1 h2 t1 t2 s1 s2).1
    unfold eqD
    exact .of_refs hne p
where
  base (I:Inv X pins σ H s) (A:Around) (d e:D) (x y:V) (u w:Value) (hu:A.units < cLine) (h1:noL d = true) (h2:noL e = true) (q1:Dat X.K H d x) (q2:Dat X.K H e y) (r1:RelV x u) (r2:RelV y w)
      (tt:∀ (ds es:List D) (a b:Addr) (xs ys:List V),d = .tup ds→e = .tup es→Dats X.K H ds xs→Dats X.K H es ys→SqT X.K H a xs→SqT X.K H b ys→a ≠ b→SeqAt.EqAt A s (.ref a) (.ref b) (eqD (.tup ds) (.tup es))) :
      SeqAt.EqAt A s u w (eqD d e):=by
    cases d with
    | lst=>unfold noL at h1; cases h1
    | non =>
      have z:=q1.nonE; subst z; cases r1
      cases e with
      | lst=>unfold noL at h2; cases h2
      | non=>have z:=q2.nonE; subst z; cases r2; unfold eqD; exact SeqAt.EqAt.same _
      | bl b=>have z:=q2.blE; subst z; cases r2; unfold eqD; exact SeqAt.EqAt.none_bool b
      | int i=>have z:=q2.intE; subst z; obtain ⟨t,rfl⟩:=r2; unfold eqD; exact SeqAt.EqAt.none_int i t
      | str i=>have z:=q2.strE; subst z; obtain ⟨t,rfl⟩:=r2; unfold eqD; exact SeqAt.EqAt.none_str i t
      | tup es=>obtain ⟨b,ys,z,s2,t2⟩:=q2.tupE; subst z; cases r2; obtain ⟨ws,v2,p2,_⟩:=I.tuple s2; unfold eqD; exact SeqAt.EqAt.none_tuple (show s.heap.IsTuple b ws.toArray from p2) hu
    | bl c =>
      have z:=q1.blE; subst z; cases r1
      cases e with
      | lst=>unfold noL at h2; cases h2
      | non=>have z:=q2.nonE; subst z; cases r2; unfold eqD; exact SeqAt.EqAt.bool_none c
      | bl b=>have z:=q2.blE; subst z; cases r2; unfold eqD; exact SeqAt.EqAt.bool_bool c b
      | int i=>have z:=q2.intE; subst z; obtain ⟨t,rfl⟩:=r2; unfold eqD; exact SeqAt.EqAt.bool_int c i t
      | str i=>have z:=q2.strE; subst z; obtain ⟨t,rfl⟩:=r2; unfold eqD; exact SeqAt.EqAt.bool_str c i t
      | tup es=>obtain ⟨b,ys,z,s2,t2⟩:=q2.tupE; subst z; cases r2; obtain ⟨ws,v2,p2,_⟩:=I.tuple s2; unfold eqD; exact SeqAt.EqAt.bool_tuple c (show s.heap.IsTuple b ws.toArray from p2) hu
    | int c =>
      have z:=q1.intE; subst z; obtain ⟨tc,rfl⟩:=r1
      cases e with
      | lst=>unfold noL at h2; cases h2
      | non=>have z:=q2.nonE; subst z; cases r2; unfold eqD; exact SeqAt.EqAt.int_none c tc
      | bl b=>have z:=q2.blE; subst z; cases r2; unfold eqD; exact SeqAt.EqAt.int_bool c tc b
      | int i=>have z:=q2.intE; subst z; obtain ⟨t,rfl⟩:=r2; unfold eqD; exact SeqAt.EqAt.int_int c tc i t
      | str i=>have z:=q2.strE; subst z; obtain ⟨t,rfl⟩:=r2; unfold eqD; exact SeqAt.EqAt.int_str c tc i t
      | tup es=>obtain ⟨b,ys,z,s2,t2⟩:=q2.tupE; subst z; cases r2; obtain ⟨ws,v2,p2,_⟩:=I.tuple s2; unfold eqD; exact SeqAt.EqAt.int_tuple c tc (show s.heap.IsTuple b ws.toArray from p2) hu
    | str c =>
      have z:=q1.strE; subst z; obtain ⟨tc,rfl⟩:=r1
      cases e with
      | lst=>unfold noL at h2; cases h2
      | non=>have z:=q2.nonE; subst z; cases r2; unfold eqD; exact SeqAt.EqAt.str_none c tc
      | bl b=>have z:=q2.blE; subst z; cases r2; unfold eqD; exact SeqAt.EqAt.str_bool c tc b
      | int i=>have z:=q2.intE; subst z; obtain ⟨t,rfl⟩:=r2; unfold eqD; exact SeqAt.EqAt.str_int c tc i t
      | str i=>have z:=q2.strE; subst z; obtain ⟨t,rfl⟩:=r2; unfold eqD; exact SeqAt.EqAt.str_str c tc i t
      | tup es=>obtain ⟨b,ys,z,s2,t2⟩:=q2.tupE; subst z; cases r2; obtain ⟨ws,v2,p2,_⟩:=I.tuple s2; unfold eqD; exact SeqAt.EqAt.str_tuple c tc (show s.heap.IsTuple b ws.toArray from p2) hu
    | tup ds =>
      have q1':=q1
      obtain ⟨a,xs,z,s1,t1⟩:=q1.tupE; subst z; cases r1; obtain ⟨us,v1,p1,_⟩:=I.tuple s1
      have p1':s.heap.IsTuple a us.toArray:=p1
      cases e with
      | lst=>unfold noL at h2; cases h2
      | non=>have z:=q2.nonE; subst z; cases r2; unfold eqD; exact SeqAt.EqAt.tuple_none p1' hu
      | bl b=>have z:=q2.blE; subst z; cases r2; unfold eqD; exact SeqAt.EqAt.tuple_bool b p1' hu
      | int i=>have z:=q2.intE; subst z; obtain ⟨t,rfl⟩:=r2; unfold eqD; exact SeqAt.EqAt.tuple_int i t p1' hu
      | str i=>have z:=q2.strE; subst z; obtain ⟨t,rfl⟩:=r2; unfold eqD; exact SeqAt.EqAt.tuple_str i t p1' hu
      | tup es =>
        have q2':=q2
        obtain ⟨b,ys,z,s2,t2⟩:=q2.tupE; subst z; cases r2
        by_cases hab:a = b
        · subst hab
          have ee:=oo I (.tup ds) (.tup es) h1 q1' q2' h2
          rw [← ee,iE _ h1]
          exact SeqAt.EqAt.same _
        · exact tt ds es a b xs ys rfl rfl t1 t2 s1 s2 hab
theorem CT (I:Inv X pins σ H s) (n:Nat) (A:Around) (d e:D) (x y:V) (u w:Value) (hu:A.units + n + 2 < cLine) (hn:dS d ≤ n + 1) (h1:noL d = true) (h2:noL e = true) (q1:Dat X.K H d x) (q2:Dat X.K H e y) (r1:RelV x u) (r2:RelV y w) :
    SeqAt.RcAt A s u w (eqD d e)∧SeqAt.RcNeAt A s u w (!eqD d e):=by
  have hu':A.units < cLine:=by omega
  cases d with
  | lst=>unfold noL at h1; cases h1
  | non =>
    have z:=q1.nonE; subst z; cases r1
    cases e with
    | lst=>unfold noL at h2; cases h2
    | non=>have z:=q2.nonE; subst z; cases r2; unfold eqD; exact ⟨SeqAt.RcAt.none_none,SeqAt.RcNeAt.none_none⟩
    | bl b=>have z:=q2.blE; subst z; cases r2; unfold eqD; exact ⟨SeqAt.RcAt.none_bool b,SeqAt.RcNeAt.none_bool b⟩
    | int i=>have z:=q2.intE; subst z; obtain ⟨t,rfl⟩:=r2; unfold eqD; exact ⟨SeqAt.RcAt.none_int i t,SeqAt.RcNeAt.none_int i t⟩
    | str i=>have z:=q2.strE; subst z; obtain ⟨t,rfl⟩:=r2; unfold eqD; exact ⟨SeqAt.RcAt.none_str i t,SeqAt.RcNeAt.none_str i t⟩
    | tup es=>obtain ⟨b,ys,z,s2,t2⟩:=q2.tupE; subst z; cases r2; obtain ⟨ws,v2,p2,_⟩:=I.tuple s2; unfold eqD; exact ⟨SeqAt.RcAt.none_tuple (show s.heap.IsTuple b ws.toArray from p2) hu',SeqAt.RcNeAt.none_tuple (show s.heap.IsTuple b ws.toArray from p2) hu'⟩
  | bl c =>
    have z:=q1.blE; subst z; cases r1
    cases e with
    | lst=>unfold noL at h2; cases h2
    | non=>have z:=q2.nonE; subst z; cases r2; unfold eqD; exact ⟨SeqAt.RcAt.bool_none c,SeqAt.RcNeAt.bool_none c⟩
    | bl b=>have z:=q2.blE; subst z; cases r2; unfold eqD; exact ⟨SeqAt.RcAt.bool_bool c b,SeqAt.RcNeAt.bool_bool c b⟩
    | int i=>have z:=q2.intE; subst z; obtain ⟨t,rfl⟩:=r2; unfold eqD; exact ⟨SeqAt.RcAt.bool_int c i t,SeqAt.RcNeAt.bool_int c i t⟩
    | str i=>have z:=q2.strE; subst z; obtain ⟨t,rfl⟩:=r2; unfold eqD; exact ⟨SeqAt.RcAt.bool_str c i t,SeqAt.RcNeAt.bool_str c i t⟩
    | tup es=>obtain ⟨b,ys,z,s2,t2⟩:=q2.tupE; subst z; cases r2; obtain ⟨ws,v2,p2,_⟩:=I.tuple s2; unfold eqD; exact ⟨SeqAt.RcAt.bool_tuple c (show s.heap.IsTuple b ws.toArray from p2) hu',SeqAt.RcNeAt.bool_tuple c (show s.heap.IsTuple b ws.toArray from p2) hu'⟩
  | int c =>
    have z:=q1.intE; subst z; obtain ⟨tc,rfl⟩:=r1
    cases e with
    | lst=>unfold noL at h2; cases h2
    | non=>have z:=q2.nonE; subst z; cases r2; unfold eqD; exact ⟨SeqAt.RcAt.int_none c tc,SeqAt.RcNeAt.int_none c tc⟩
    | bl b=>have z:=q2.blE; subst z; cases r2; unfold eqD; exact ⟨SeqAt.RcAt.int_bool c tc b,SeqAt.RcNeAt.int_bool c tc b⟩
    | int i=>have z:=q2.intE; subst z; obtain ⟨t,rfl⟩:=r2; unfold eqD; exact ⟨SeqAt.RcAt.int_int c tc i t,SeqAt.RcNeAt.int_int c tc i t⟩
    | str i=>have z:=q2.strE; subst z; obtain ⟨t,rfl⟩:=r2; unfold eqD; exact ⟨SeqAt.RcAt.int_str c tc i t,SeqAt.RcNeAt.int_str c tc i t⟩
    | tup es=>obtain ⟨b,ys,z,s2,t2⟩:=q2.tupE; subst z; cases r2; obtain ⟨ws,v2,p2,_⟩:=I.tuple s2; unfold eqD; exact ⟨SeqAt.RcAt.int_tuple c tc (show s.heap.IsTuple b ws.toArray from p2) hu',SeqAt.RcNeAt.int_tuple c tc (show s.heap.IsTuple b ws.toArray from p2) hu'⟩
  | str c =>
    have z:=q1.strE; subst z; obtain ⟨tc,rfl⟩:=r1
    cases e with
    | lst=>unfold noL at h2; cases h2
    | non=>have z:=q2.nonE; subst z; cases r2; unfold eqD; exact ⟨SeqAt.RcAt.str_none c tc,SeqAt.RcNeAt.str_none c tc⟩
    | bl b=>have z:=q2.blE; subst z; cases r2; unfold eqD; exact ⟨SeqAt.RcAt.str_bool c tc b,SeqAt.RcNeAt.str_bool c tc b⟩
    | int i=>have z:=q2.intE; subst z; obtain ⟨t,rfl⟩:=r2; unfold eqD; exact ⟨SeqAt.RcAt.str_int c tc i t,SeqAt.RcNeAt.str_int c tc i t⟩
    | str i=>have z:=q2.strE; subst z; obtain ⟨t,rfl⟩:=r2; unfold eqD; exact ⟨SeqAt.RcAt.str_str c tc i t,SeqAt.RcNeAt.str_str c tc i t⟩
    | tup es=>obtain ⟨b,ys,z,s2,t2⟩:=q2.tupE; subst z; cases r2; obtain ⟨ws,v2,p2,_⟩:=I.tuple s2; unfold eqD; exact ⟨SeqAt.RcAt.str_tuple c tc (show s.heap.IsTuple b ws.toArray from p2) hu',SeqAt.RcNeAt.str_tuple c tc (show s.heap.IsTuple b ws.toArray from p2) hu'⟩
  | tup ds =>
    obtain ⟨a,xs,z,s1,t1⟩:=q1.tupE; subst z; cases r1; obtain ⟨us,v1,p1,_⟩:=I.tuple s1
    have p1':s.heap.IsTuple a us.toArray:=p1
    cases e with
    | lst=>unfold noL at h2; cases h2
    | non=>have z:=q2.nonE; subst z; cases r2; unfold eqD; exact ⟨SeqAt.RcAt.tuple_none p1' hu',SeqAt.RcNeAt.tuple_none p1' hu'⟩
    | bl b=>have z:=q2.blE; subst z; cases r2; unfold eqD; exact ⟨SeqAt.RcAt.tuple_bool b p1' hu',SeqAt.RcNeAt.tuple_bool b p1' hu'⟩
    | int i=>have z:=q2.intE; subst z; obtain ⟨t,rfl⟩:=r2; unfold eqD; exact ⟨SeqAt.RcAt.tuple_int i t p1' hu',SeqAt.RcNeAt.tuple_int i t p1' hu'⟩
    | str i=>have z:=q2.strE; subst z; obtain ⟨t,rfl⟩:=r2; unfold eqD; exact ⟨SeqAt.RcAt.tuple_str i t p1' hu',SeqAt.RcNeAt.tuple_str i t p1' hu'⟩
    | tup es =>
      obtain ⟨b,ys,z,s2,t2⟩:=q2.tupE; subst z; cases r2
      unfold dS at hn
      unfold noL at h1 h2
      unfold eqD
      exact qV (A:=A) (ds:=ds) (es:=es) I hu' n (fun d e x y u w k1 k2 k3 k4 k5 k6 k7=>rO I n A.in1 d e x y u w (by rw [j9]; omega) k1 k2 k3 k4 k5 k6 k7) (by omega) h1 h2 t1 t2 s1 s2
theorem Cf (I:Inv X pins σ H s) (n:Nat) (A:Around) (ds es:List D) (a b:Addr) (xs ys:List V) (hu:A.units + n + 2 < cLine) (hn:bJ ds ≤ n) (h1:cM ds = true) (h2:cM es = true) (q1:SqL X.K H a xs) (q2:SqL X.K H b ys) (r1:Dats X.K H ds xs) (r2:Dats X.K H es ys) :
    SeqAt.RcAt A s (.ref a) (.ref b) (cW ds es)∧SeqAt.RcNeAt A s (.ref a) (.ref b) (!cW ds es):=by
  have hu':A.units < cLine:=by omega
  obtain ⟨us,v1,p1,_⟩:=I.list q1
  obtain ⟨ws,v2,p2,_⟩:=I.list q2
  have e1:us.toArray.size = ds.length:=by rw [List.size_toArray,← v1.length,r1.length]
  have e2:ws.toArray.size = es.length:=by rw [List.size_toArray,← v2.length,r2.length]
  have hi:=lH (X:=X) (H:=H) (s:=s) (A:=A.in1) n (fun d e x y u w k1 k2 k3 k4 k5 k6 k7=>rO I n A.in1 d e x y u w (by rw [j9]; omega) k1 k2 k3 k4 k5 k6 k7) hn h1 h2 r1 r2 v1 v2
  by_cases hl:ds.length = es.length
  · have hsz:us.toArray.size = ws.toArray.size:=by rw [e1,e2,hl]
    have p:=SeqAt.RcAt.lists p1.isList p2.isList hsz hu' hi
    have p':=SeqAt.RcNeAt.lists p1.isList p2.isList hsz hu' hi
    rw [e1,p9 hl] at p p'
    exact ⟨p,p'⟩
  · have hsz:(us.toArray.size != ws.toArray.size) = true:=by rw [e1,e2]; simpa using hl
    have z:cW ds es = false:=by
      rw [← g8]
      have:(ds.length == es.length) = false:=by simpa using hl
      rw [this,Bool.and_false]
    rw [z]
    exact ⟨SeqAt.RcAt.lists_lengths p1.isList p2.isList hsz hu',SeqAt.RcNeAt.lists_lengths p1.isList p2.isList hsz hu'⟩
end
section
variable {X:Cx} {k:Nat}
def Bl (K:PySem.W.Frag) (neg:Bool):R2:=fun x y H Q=>∃ d e,Dat K H d x∧Dat K H e y∧noL d = true∧noL e = true∧dS d ≤ 20∧Q (.bl (if neg then !eqD d e else eqD d e)) H
theorem sv (hr:Room k X.A):OpR X (compareOp .Eq) (Bl X.K false):=by
  intro pins s σ H x y v u Q I rx ry h
  obtain ⟨d,e,q1,q2,h1,h2,hn,q⟩:=h
  have hu:X.A.units + 19 + 2 < cLine:=by have:=hr.un; omega
  exact (CT I 19 X.A d e x y v u hu (by omega) h1 h2 q1 q2 rx ry).1 _ _ _ _ ⟨.bl _,H,I,rfl,q⟩
def xI (K:PySem.W.Frag) (neg:Bool):R2:=fun x y H Q=>∃ a b xs ys ds es,x = .ref a∧y = .ref b∧SqL K H a xs∧SqL K H b ys∧Dats K H ds xs∧Dats K H es ys∧cM ds = true∧cM es = true∧bJ ds ≤ 20∧Q (.bl (if neg then !cW ds es else cW ds es)) H
theorem oY (hr:Room k X.A):OpR X (compareOp .Eq) (xI X.K false):=by
  intro pins s σ H x y v u Q I rx ry h
  obtain ⟨a,b,xs,ys,ds,es,ex,ey,q1,q2,r1,r2,h1,h2,hn,q⟩:=h
  subst ex ey
  cases rx
  cases ry
  have hu:X.A.units + 20 + 2 < cLine:=by have:=hr.un; omega
  exact (Cf I 20 X.A ds es a b xs ys hu hn h1 h2 q1 q2 r1 r2).1 _ _ _ _ ⟨.bl _,H,I,rfl,q⟩
theorem Bb (hr:Room k X.A):OpR X (compareOp .NotEq) (xI X.K true):=by
  intro pins s σ H x y v u Q I rx ry h
  obtain ⟨a,b,xs,ys,ds,es,ex,ey,q1,q2,r1,r2,h1,h2,hn,q⟩:=h
  subst ex ey
  cases rx
  cases ry
  have hu:X.A.units + 20 + 2 < cLine:=by have:=hr.un; omega
  exact (Cf I 20 X.A ds es a b xs ys hu hn h1 h2 q1 q2 r1 r2).2 _ _ _ _ ⟨.bl _,H,I,rfl,q⟩
theorem Ba:OpR X (compareOp .Is) (fun x y H Q=>∃ a b,x = .bl a∧y = .bl b∧Q (.bl (a == b)) H):=by
  intro pins s σ H x y v u Q I rx ry h
  obtain ⟨a,b,ex,ey,q⟩:=h
  subst ex ey
  cases rx
  cases ry
  exact PyProof.Rows.is_bool ⟨.bl _,H,I,rfl,q⟩
def tyD:D→String
  | .non=>"NoneType"
  | .bl _=>"bool"
  | .int _=>"int"
  | .str _=>"str"
  | .tup _=>"tuple"
  | .lst=>"list"
def ke (d:D) (T:String):Bool:=tyD d == T || (tyD d == "bool" && T == "int")
theorem dA {T:String} (hk:∀ d:D,PySem.W.kitOne X.K (.type (tyD d)) (.type T) = some (ke d T)) :
    fM X (.builtin "isinstance") (fun xs H Q=>∃ x d,xs = [x,.ty T]∧Dat X.K H d x∧Q (.bl (ke d T)) H):=by
  intro pins s σ H xs us Q I r h
  obtain ⟨x,d,e,q,h⟩:=h
  subst e
  obtain ⟨u,c,e,ru,rc⟩:=Cp r
  subst e
  cases (show c = Value.type T from rc)
  have fin:∀ tk,EP X pins σ Q (.bool (ke d T)) { s with toks:=tk }:=fun tk=>⟨.bl _,H,I.tok tk,rfl,h⟩
  have kd:=hk d
  cases d with
  | non=>have z:=q.nonE; subst z; cases ru; exact PySem.W.kia_one PySem.W.kitx_none I.kIn True.intro kd (fun z=>nomatch z) fin
  | bl b=>have z:=q.blE; subst z; cases ru; exact PySem.W.kia_one PySem.W.kitx_bool I.kIn True.intro kd (fun z=>nomatch z) fin
  | int i=>have z:=q.intE; subst z; obtain ⟨t,rfl⟩:=ru; exact PySem.W.kia_one PySem.W.kitx_int I.kIn True.intro kd (fun z=>nomatch z) fin
  | str y=>have z:=q.strE; subst z; obtain ⟨t,rfl⟩:=ru; exact PySem.W.kia_one PySem.W.kitx_str I.kIn True.intro kd (fun z=>nomatch z) fin
  | tup ds =>
    obtain ⟨a,vs,z,sq,_⟩:=q.tupE
    subst z
    cases ru
    obtain ⟨its,_,⟨o,e1,e2,_⟩,_⟩:=I.tuple sq
    exact PySem.W.kia_one PySem.W.kitx_tuple I.kIn ⟨o,e1,e2⟩ kd (fun z=>nomatch z) fin
  | lst =>
    obtain ⟨a,vs,z,sq⟩:=q.lstE
    subst z
    cases ru
    obtain ⟨its,_,⟨o,_,e1,e2,_⟩,_⟩:=I.list sq
    exact PySem.W.kia_one PySem.W.kitx_list I.kIn ⟨o,e1,e2⟩ kd (fun z=>nomatch z) fin
end
def i4 (K:PySem.W.Frag) (a:Addr) (T:List (Str × KTD.Dat)):Prop:=∀ h:Heap,K.In h→KTD.TextTab h a T
section
variable {X:Cx}
theorem jJ:OpR X (compareOp .In) (fun x y H Q=>∃ k a T,x = .str k∧y = .ref a∧i4 X.K a T∧Q (.bl (KTD.inKeys k T)) H):=by
  intro pins s σ H x y v u Q I rx ry h
  obtain ⟨k,a,T,ex,ey,t,q⟩:=h
  subst ex ey
  obtain ⟨tk,rfl⟩:=rx
  cases ry
  exact KTD.in_text (h₀:=s.heap) ⟨t _ I.kIn,fun _ _ e=>e⟩ ⟨.bl _,H,I.tok _,rfl,q⟩
def xJ (K:PySem.W.Frag):R2:=fun x y H Q=>∃ a k T i,x = .ref a∧y = .str k∧i4 K a T∧(T.all fun p=>KTD.plain p.2) = true∧KTD.datumAt k T = some (.flat (.int i))∧Q (.int i) H
theorem wK:IxR X (xJ X.K):=by
  intro value slice pins s σ H x y v u Q I rx ry h hs
  obtain ⟨a,k,T,i,ex,ey,t,hp,hd,q⟩:=h
  subst ex ey
  obtain ⟨tk,rfl⟩:=ry
  cases rx
  have hm:KTD.inKeys k T = true:=by rw [← KTD.isSome_datumAt,hd]; rfl
  refine KTD.item_textA (h₀:=s.heap) ⟨t _ I.kIn,fun _ _ e=>e⟩ hp hm ?_ hs
  exact each T hd fun v hv=>by
    obtain ⟨t',rfl⟩:=PyProof.V.Flat.int_inv hv
    exact ⟨.int i,H,I.tok _,⟨t',rfl⟩,q⟩
where
  each {h:Heap} {k:Str} {P:Value→Prop} {i:Int}:∀ (T:List (Str × KTD.Dat)),KTD.datumAt k T = some (.flat (.int i))→(∀ v,PyProof.V.Flat v (.int i)→P v)→KTD.EachL h k P T
    | [],hd,_=>by simp [KTD.datumAt] at hd
    | (x,d) :: T,hd,hP=>by
      have hd':(if decide (k = x) = true then some d else KTD.datumAt k T) = some (.flat (.int i)):=hd
      by_cases hx:k = x
      · rw [if_pos (decide_eq_true hx)] at hd'
        cases hd'
        refine KTD.eachL_hit hx ?_
        exact opened hP
      · rw [if_neg (by simp [hx])] at hd'
        exact KTD.eachL_miss hx (each T hd' hP)
  opened {h:Heap} {P:Value→Prop} {i:Int} (hP:∀ v,PyProof.V.Flat v (.int i)→P v):KTD.Opened h P (.flat (.int i)):=by
    first
      | exact KTD.opened_int fun t=>hP _ (PyProof.V.Flat.int i t)
      | exact fun t=>hP _ (PyProof.V.Flat.int i t)
end
end L2
end
section
namespace L2
open PySem PySem.Spec PyProof.Rows
section
variable {K:PySem.W.Frag} {H H' H2:Hp}
theorem Same.sqT {a:Addr} {xs:List V} (e:Same H H') (h:SqT K H a xs):SqT K H' a xs:=by
  rcases h with (h | ⟨o,h⟩) | h
  · exact .inl (.inl (e _ _ h))
  · exact .inl (.inr ⟨o,e _ _ h⟩)
  · exact .inr h
theorem Same.grow (e:Same H H'):dv K H H':=⟨fun _ _ h=>e.sqT h,fun _ xs h=>⟨xs,e.seq h⟩⟩
theorem Same.dat {d:D} {v:V} (e:Same H H') (h:Dat K H d v):Dat K H' d v:=Dat.mono e.grow d h
theorem Same.dats {ds:List D} {vs:List V} (e:Same H H') (h:Dats K H ds vs):Dats K H' ds vs:=Dats.mono e.grow ds h
theorem aC {p:Addr} (h:H p = none) (o:HO):Same H (upd H p o):=fun b u q=>by rw [aB (av q h)]; exact q
def But (t:Addr) (H H':Hp):Prop:=∀ b o,b ≠ t→H b = some o→H' b = some o
theorem Same.but {t:Addr} (e:Same H H'):But t H H':=fun b o _ h=>e b o h
theorem But.trans {t:Addr} (a:But t H H') (b:But t H' H2):But t H H2:=fun c o n h=>b c o n (a c o n h)
theorem But.upd {t:Addr} {o:HO} (a:But t H H'):But t H (upd H' t o):=fun b u n h=>by rw [aB n]; exact a b u n h
theorem But.sqT {t a:Addr} {xs:List V} {zs:List V} (e:But t H H') (ht:H t = some (.lst zs)) (h:SqT K H a xs):SqT K H' a xs:=by
  rcases h with (h | ⟨o,h⟩) | h
  · exact .inl (.inl (e _ _ (fun z=>by rw [z,ht] at h; cases h) h))
  · exact .inl (.inr ⟨o,e _ _ (fun z=>by rw [z,ht] at h; cases h) h⟩)
  · exact .inr h
theorem But.sqL {t a:Addr} {xs:List V} (e:But t H H') (n:a ≠ t) (h:SqL K H a xs):SqL K H' a xs:=by
  rcases h with (h | ⟨o,h⟩) | h
  · exact .inl (.inl (e _ _ n h))
  · exact .inl (.inr ⟨o,e _ _ n h⟩)
  · exact .inr h
theorem But.grow {t:Addr} {zs zs':List V} (e:But t H H') (ht:H t = some (.lst zs)) (ht':H' t = some (.lst zs')):dv K H H' :=
  ⟨fun _ _ h=>e.sqT ht h,fun a xs h=>by
    by_cases n:a = t
    · subst n; exact ⟨zs',SqL.of ht'⟩
    · exact ⟨xs,e.sqL n h⟩⟩
end
section
variable {K:PySem.W.Frag}
theorem AY (d:D):PySem.W.kitOne K (.type (tyD d)) (.type "int") = some (ke d "int"):=by cases d <;> rfl
theorem yP (d:D):PySem.W.kitOne K (.type (tyD d)) (.type "bool") = some (ke d "bool"):=by cases d <;> rfl
theorem wH (d:D):PySem.W.kitOne K (.type (tyD d)) (.type "str") = some (ke d "str"):=by cases d <;> rfl
theorem fP (d:D):PySem.W.kitOne K (.type (tyD d)) (.type "tuple") = some (ke d "tuple"):=by cases d <;> rfl
theorem yQ (d:D):PySem.W.kitOne K (.type (tyD d)) (.type "list") = some (ke d "list"):=by cases d <;> rfl
end
def spD (K:PySem.W.Frag) (R:List D→D→Prop):Sp:=fun vs H Q _=>∃ ds d,Dats K H ds vs∧R ds d∧∀ v H',Same H H'→Dat K H' d v→Q v H'
def iz (K:PySem.W.Frag) (R:List D→List D→Prop):Sp:=fun vs H Q _=>∃ ds es,Dats K H ds vs∧R ds es∧∀ r us H',Same H H'→H' r = some (.lst us)→H r = none→Dats K H' es us→Q (.ref r) H'
theorem fZ {K:PySem.W.Frag} {H:Hp} {a:D} {vs:List V} (h:Dats K H [a] vs):∃ u,vs = [u]∧Dat K H a u:=by
  obtain ⟨u,r,e,h1,h⟩:=h.consE
  have z:=h.nilE
  subst z e
  exact ⟨u,rfl,h1⟩
theorem fO {K:PySem.W.Frag} {H:Hp} {a b:D} {vs:List V} (h:Dats K H [a,b] vs):∃ u v,vs = [u,v]∧Dat K H a u∧Dat K H b v:=by
  obtain ⟨u,r,e,h1,h⟩:=h.consE
  obtain ⟨v,q,h2⟩:=fZ h
  subst q e
  exact ⟨u,v,rfl,h1,h2⟩
theorem p6 {K:PySem.W.Frag} {H:Hp} {a b c:D} {vs:List V} (h:Dats K H [a,b,c] vs):∃ u v w,vs = [u,v,w]∧Dat K H a u∧Dat K H b v∧Dat K H c w:=by
  obtain ⟨u,r,e,h1,h⟩:=h.consE
  obtain ⟨v,w,q,h2⟩:=fO h
  subst q e
  exact ⟨u,v,w,rfl,h1,h2⟩
theorem jR {σ:St} {j:Nat} {z:Option V} {x:Option V}:(σ.set j z).set j x = σ.set j x:=by rw [List.set_set]
theorem lG {J:It} {n:Nat} {item:Nat→V} {j:Nat} {te:TE} {σ0:St} {H1:Hp} {Q:VK} (Ok:Hp→Prop)
    (go:∀ i H',Ok H'→i < n→J.go i H'∧∀ x H'',J.yld i H' x H''→H'' = H'∧x = item i) (stop:∀ H',Ok H'→J.stop n H') (h0:σ0.set j none = σ0)
    (D:Addr) (Pn:Nat→Hp→Prop) (p0:Pn 0 (upd H1 D (.lst []))) (ok:∀ i H',i ≤ n→Pn i H'→Ok H')
    (turn:∀ i H',i < n→Pn i H'→te (σ0.set j (some (item i))) H' fun v H4=>∃ ys,H4 D = some (.lst ys)∧ys.length < sizeLine∧(∃ z,σ0.set j (some (item i)) = σ0.set j z)∧Pn (i + 1) (upd H4 D (.lst (ys ++ [v]))))
    (fin:∀ H',Pn n H'→Q (.ref D) H') :
    ∃ W:Nat→Nat→St→Hp→Prop,(∃ m,W 0 m σ0 (upd H1 D (.lst [])))∧∀ i m σ' H',W i m σ' H' →
      (J.stop i H'∧Q (.ref D) H') ∨
      (J.go i H'∧∃ Nx:St→Hp→Prop,(∀ σ'' H'',Nx σ'' H''→∃ m',m' < m∧W (i + 1) m' σ'' H'')∧∀ x H'',J.yld i H' x H''→cf j x σ' H'' fun σ2 H2=>eV σ2 H2 fun b H3 =>
        if b = true then te σ2 H3 fun v H4=>∃ ys,H4 D = some (.lst ys)∧ys.length < sizeLine∧Nx σ2 (upd H4 D (.lst (ys ++ [v]))) else Nx σ2 H3):=by
  refine ⟨fun i m σ' H'=>m = n - i∧i ≤ n∧(∃ z,σ' = σ0.set j z)∧Pn i H',⟨n,by omega,Nat.zero_le _,⟨none,h0.symm⟩,p0⟩,?_⟩
  rintro i m σ' H' ⟨rfl,hi,⟨z,rfl⟩,p⟩
  have o:=ok i H' hi p
  by_cases hlt:i < n
  · obtain ⟨g,y⟩:=go i H' o hlt
    refine .inr ⟨g,fun σ'' H''=>(∃ z,σ'' = σ0.set j z)∧Pn (i + 1) H'',fun σ'' H'' q=>⟨n - (i + 1),by omega,rfl,hlt,q.1,q.2⟩,fun x H'' yx=>?_⟩
    obtain ⟨e1,e2⟩:=y x H'' yx
    subst e1 e2
    simp only [cf,eV,if_true,jR]
    exact turn i _ hlt p
  · have e:i = n:=by omega
    subst e
    exact .inl ⟨stop H' o,fin H' p⟩
theorem AX {K:PySem.W.Frag} {a:Addr} {xs:List V} (i:Nat) (H':Hp) (h:SqT K H' a xs) (hi:i < xs.length):(Itt K a).go i H'∧∀ x H'',(Itt K a).yld i H' x H''→H'' = H'∧x = xs.getD i .non:=by
  refine ⟨⟨xs,xs[i],h,List.getElem?_eq_getElem hi⟩,fun x H'' y=>⟨y.1,?_⟩⟩
  have q:=y.2 xs h
  rw [List.getD_eq_getElem?_getD,q]
  rfl
theorem oA {K:PySem.W.Frag} {a:Addr} {xs:List V} (i:Nat) (H':Hp) (h:SqL K H' a xs) (hi:i < xs.length):(Itl K a).go i H'∧∀ x H'',(Itl K a).yld i H' x H''→H'' = H'∧x = xs.getD i .non:=by
  refine ⟨⟨xs,xs[i],h,List.getElem?_eq_getElem hi⟩,fun x H'' y=>⟨y.1,?_⟩⟩
  have q:=y.2 xs h
  rw [List.getD_eq_getElem?_getD,q]
  rfl
theorem AW {n:Nat} (i:Nat) (H':Hp) (hi:i < n):(Itr 0 n).go i H'∧∀ x H'',(Itr 0 n).yld i H' x H''→H'' = H'∧x = .int i:=by
  refine ⟨hi,fun x H'' y=>⟨y.1,?_⟩⟩
  have q:=y.2
  rw [q]
  simp
section
variable {X:Cx}
def Ca (K:PySem.W.Frag):V→V→Hp→VK→Prop:=fun o i H Q=>∃ p xs k v,o = .ref p∧i = .int k∧0 ≤ k∧SqL K H p xs∧xs[k.toNat]? = some v∧Q v H
theorem qt:BL X (Ca X.K):=by
  intro pins s σ H o i ov iv Q I r1 r2 h
  obtain ⟨p,xs,k,v,eo,ei,h0,hq,he,q⟩:=h
  subst eo ei
  cases r1
  obtain ⟨t,rfl⟩:=r2
  obtain ⟨its,r,pl,hz⟩:=I.list hq
  obtain ⟨w,ew,rw'⟩:=r.get he
  have hl:=r.length
  have hlt:k.toNat < xs.length:=(List.getElem?_eq_some_iff.mp he).1
  have hn:=jn
  exact wpAny_getItem_list pl.isList h0 (by omega) (by simpa using ew) ⟨v,H,I,rw',q⟩
theorem zp:OpR X (binaryOp .Mult) (rI IntMulOk fun i j=>.int (i * j)):=opI fun _ _ _ _ _ _ _ hc q=>mul_int q hc
end
theorem oG {n j:Nat} (h:j < n):ixN n (j:Int) = some j:=by
  unfold ixN
  rw [if_pos (by omega),if_pos (by omega)]
  simp
theorem at0 {α:Type} {x:α} {r:List α}:atI (x :: r) 0 = some x:=fG (j:=0) rfl
theorem at1 {α:Type} {x y:α} {r:List α}:atI (x :: y :: r) 1 = some y:=fG (j:=1) rfl
theorem at2 {α:Type} {x y z:α} {r:List α}:atI (x :: y :: z :: r) 2 = some z:=fG (j:=2) rfl
theorem ix0 {n:Nat}:ixN (n + 1) 0 = some 0:=oG (j:=0) (by omega)
theorem ix1 {n:Nat}:ixN (n + 2) 1 = some 1:=oG (j:=1) (by omega)
theorem ix2 {n:Nat}:ixN (n + 3) 2 = some 2:=oG (j:=2) (by omega)
theorem nj {K:PySem.W.Frag} {H:Hp}:∀ ns:List Int,Dats K H (ns.map D.int) (ns.map V.int)
  | []=>Dats.nil
  | n :: ns=>Dats.cons (Dat.intI n) (nj ns)
theorem ki:∀ ns:List Int,cM (ns.map D.int) = true
  | []=>by unfold cM; rfl
  | n :: ns=>by
    show cM (D.int n :: ns.map D.int) = true
    unfold cM
    rw [ki ns]
    unfold noL
    rfl
theorem kL:∀ ns:List Int,bJ (ns.map D.int) = 0
  | []=>by unfold bJ; rfl
  | n :: ns=>by
    show bJ (D.int n :: ns.map D.int) = 0
    unfold bJ
    rw [kL ns]
    unfold dS
    rfl
theorem lI (ns:List Int):cW (ns.map D.int) [] = ns.isEmpty:=by
  cases ns with
  | nil=>unfold cW; rfl
  | cons n ns=>show cW (D.int n :: ns.map D.int) [] = false; unfold cW; rfl
theorem bU {n:Nat} (h:n ≤ 1000):n ≤ sizeLine:=Nat.le_of_lt (bQ h)
def Scr (K:PySem.W.Frag) (H:Hp) (a:Addr) (ns:List Int):Prop:=(∃ o,H a = some (.frz o (.lst (ns.map V.int)))) ∨
  ∃ (o:Obj) (its:Array Value) (n:Nat),K.lookup a = some o∧o.cls = .type "list"∧o.dict = none∧o.data = .seq its n∧its.size ≤ sizeLine∧Vals (ns.map V.int) its.toList
theorem Scr.sqL {K:PySem.W.Frag} {H:Hp} {a:Addr} {ns:List Int} (h:Scr K H a ns):SqL K H a (ns.map V.int):=by
  rcases h with ⟨o,h⟩ | h
  · exact .inl (.inr ⟨o,h⟩)
  · exact .inr h
theorem Scr.but {K:PySem.W.Frag} {H H':Hp} {a t:Addr} {ns:List Int} {zs:List V} (h:Scr K H a ns) (e:But t H H') (ht:H t = some (.lst zs)):Scr K H' a ns:=by
  rcases h with ⟨o,h⟩ | h
  · exact .inl ⟨o,e _ _ (fun z=>by rw [z,ht] at h; cases h) h⟩
  · exact .inr h
theorem Scr.same {K:PySem.W.Frag} {H H':Hp} {a:Addr} {ns:List Int} (h:Scr K H a ns) (e:Same H H'):Scr K H' a ns:=by
  rcases h with ⟨o,h⟩ | h
  · exact .inl ⟨o,e _ _ h⟩
  · exact .inr h
theorem BA {K:PySem.W.Frag} {H:Hp} {a:Addr} {ns:List Int} (hO:yw H) (h:SqL K H a (ns.map V.int)):Scr K H a ns:=by
  rcases h with (h | ⟨o,h⟩) | h
  · rcases hO a with z | ⟨o,xs,z⟩
    · rw [h] at z; cases z
    · rw [h] at z; cases z
  · exact .inl ⟨o,h⟩
  · exact .inr h
def mH (K:PySem.W.Frag):Sp:=fun vs H Q _=>∃ (a t:Addr) (ns:List Int) (m p q:Int) (rest:List V),vs = [.ref a,.ref t,.int m]∧Scr K H a ns∧H t = some (.lst (.int p :: .int q :: rest))∧0 ≤ p∧0 < m∧m ≤ 1000000 ∧
  ∀ (r:Int) (H':Hp) (p' q':Int),But t H H'→H' t = some (.lst (.int p' :: .int q' :: rest))→0 ≤ p'→0 ≤ r→r < m→Q (.int r) H'
end L2
end
section
namespace L2
open PySem PySem.Spec PyProof.Rows
def RE (K:PySem.W.Frag) (t:TE) (σ:St) (H:Hp) (d:D):Prop:=∀ H1,Same H H1→∀ Q:VK,(∀ v H',Same H1 H'→Dat K H' d v→Q v H')→t σ H1 Q
def RT (t:TT) (σ:St) (H:Hp) (b:Bool):Prop:=∀ H1,Same H H1→∀ Q:Bool→Hp→Prop,(∀ H',Same H1 H'→Q b H')→t σ H1 Q
def RA (K:PySem.W.Frag) (t:TA) (σ:St) (H:Hp) (ds:List D):Prop:=∀ H1,Same H H1→∀ Q:List V→Hp→Prop,(∀ vs H',Same H1 H'→Dats K H' ds vs→Q vs H')→t σ H1 Q
section
variable {K:PySem.W.Frag} {σ:St} {H H':Hp} {d d':D} {ds:List D} {t u ta tb:TE} {tt uu:TT} {tA:TA} {i j:Int} {b c:Bool}
theorem RE.mono (h:RE K t σ H d) (e:Same H H'):RE K t σ H' d:=fun H1 s Q q=>h H1 (e.trans s) Q q
theorem RA.mono (h:RA K tA σ H ds) (e:Same H H'):RA K tA σ H' ds:=fun H1 s Q q=>h H1 (e.trans s) Q q
theorem RT.mono (h:RT tt σ H b) (e:Same H H'):RT tt σ H' b:=fun H1 s Q q=>h H1 (e.trans s) Q q
theorem RE.as (h:RE K t σ H d) (e:d = d'):RE K t σ H d':=e ▸ h
theorem RT.as (h:RT tt σ H b) (e:b = c):RT tt σ H c:=e ▸ h
theorem RE.use {Q:VK} (h:RE K t σ H d) (q:∀ v H',Same H H'→Dat K H' d v→Q v H'):t σ H Q:=h H (Same.refl H) Q q
theorem RT.use {Q:Bool→Hp→Prop} (h:RT tt σ H b) (q:∀ H',Same H H'→Q b H'):tt σ H Q:=h H (Same.refl H) Q q
theorem RA.use {Q:List V→Hp→Prop} (h:RA K tA σ H ds) (q:∀ vs H',Same H H'→Dats K H' ds vs→Q vs H'):tA σ H Q:=h H (Same.refl H) Q q
theorem aj:RE K (tC (.int i)) σ H (.int i):=fun H1 _ Q q=>q _ _ (Same.refl _) (Dat.intI i)
theorem aG {x:Str}:RE K (tC (.str x)) σ H (.str x):=fun H1 _ Q q=>q _ _ (Same.refl _) (Dat.strI x)
theorem dj:RE K (tC (.bl b)) σ H (.bl b):=fun H1 _ Q q=>q _ _ (Same.refl _) (Dat.blI b)
theorem xW:RE K (tC .non) σ H .non:=fun H1 _ Q q=>q _ _ (Same.refl _) Dat.nonI
theorem aa {k:Nat} {v:V} (h:Dat K H d v) (e:σ[k]? = some (some v):=by rfl):RE K (eJ k) σ H d:=fun H1 s Q q=>⟨v,e,q _ _ (Same.refl _) (s.dat h)⟩
theorem ax:RA K cH σ H []:=fun H1 _ Q q=>q _ _ (Same.refl _) Dats.nil
theorem ae (h:RE K t σ H d) (r:RA K tA σ H ds):RA K (bB t tA) σ H (d :: ds):=fun H1 s Q q =>
  h H1 s _ fun v H2 s2 q2=>r H2 (s.trans s2) _ fun vs H3 s3 q3=>q _ _ (s2.trans s3) (Dats.cons (s3.dat q2) q3)
theorem ba (h:RA K tA σ H ds) (hl:ds.length ≤ 1000:=by simp):RE K (vE tA) σ H (.tup ds):=fun H1 s Q q =>
  h H1 s _ fun vs H2 s2 q2=>⟨by rw [← q2.length]; exact bU hl,fun p hp=>q _ _ (s2.trans (aC hp _)) (Dat.tupI (SqT.of aq) ((aC hp _).dats q2))⟩
theorem xZ {g:Int→Int} (h:RE K t σ H (.int i)):RE K (tUn (rU fun i=>.int (g i)) t) σ H (.int (g i)):=fun H1 s Q q =>
  h H1 s _ fun v H2 s2 q2=>⟨i,q2.intE,q _ _ s2 (Dat.intI _)⟩
theorem sE {g:Int→Int→V} (h1:RE K ta σ H (.int i)) (h2:RE K tb σ H (.int j)) (hd:∀ H,Dat K H d (g i j)):RE K (tOp (rI0 g) ta tb) σ H d:=fun H1 s Q q =>
  h1 H1 s _ fun v H2 s2 q2=>h2 H2 (s.trans s2) _ fun w H3 s3 q3=>⟨i,j,q2.intE,q3.intE,q _ _ (s2.trans s3) (hd _)⟩
theorem xY {C:Int→Int→Prop} {g:Int→Int→V} (h1:RE K ta σ H (.int i)) (h2:RE K tb σ H (.int j)) (hc:C i j) (hd:∀ H,Dat K H d (g i j)):RE K (tOp (rI C g) ta tb) σ H d:=fun H1 s Q q =>
  h1 H1 s _ fun v H2 s2 q2=>h2 H2 (s.trans s2) _ fun w H3 s3 q3=>⟨i,j,q2.intE,q3.intE,hc,q _ _ (s2.trans s3) (hd _)⟩
theorem eH (h1:RE K ta σ H (.int i)) (h2:RE K tb σ H (.int j)):RE K (tOp (rI0 fun i j=>.int (i + j)) ta tb) σ H (.int (i + j)):=sE h1 h2 fun _=>Dat.intI _
theorem Bx (h1:RE K ta σ H (.int i)) (h2:RE K tb σ H (.int j)):RE K (tOp (rI0 fun i j=>.int (i - j)) ta tb) σ H (.int (i - j)):=sE h1 h2 fun _=>Dat.intI _
theorem d5 {p:Int→Int→Bool} (h1:RE K ta σ H (.int i)) (h2:RE K tb σ H (.int j)):RE K (tOp (rI0 fun i j=>.bl (p i j)) ta tb) σ H (.bl (p i j)):=sE h1 h2 fun _=>Dat.blI _
theorem o9 (h1:RE K ta σ H (.int i)) (h2:RE K tb σ H (.int j)):RE K (tOp rEq ta tb) σ H (.bl (decide (i = j))):=fun H1 s Q q =>
  h1 H1 s _ fun v H2 s2 q2=>h2 H2 (s.trans s2) _ fun w H3 s3 q3=>by
    rw [q2.intE,q3.intE]
    refine ⟨rfl,?_⟩
    have e:decide (V.int i = V.int j) = decide (i = j):=by by_cases z:i = j <;> simp [z]
    rw [e]
    exact q _ _ (s2.trans s3) (Dat.blI _)
theorem eO (h1:RE K ta σ H (.int i)) (h2:RE K tb σ H (.int j)):RE K (tOp rNe ta tb) σ H (.bl (!decide (i = j))):=fun H1 s Q q =>
  h1 H1 s _ fun v H2 s2 q2=>h2 H2 (s.trans s2) _ fun w H3 s3 q3=>by
    rw [q2.intE,q3.intE]
    refine ⟨rfl,?_⟩
    have e:decide (V.int i = V.int j) = decide (i = j):=by by_cases z:i = j <;> simp [z]
    rw [e]
    exact q _ _ (s2.trans s3) (Dat.blI _)
theorem br {x y:Str} (h1:RE K ta σ H (.str x)) (h2:RE K tb σ H (.str y)):RE K (tOp rEq ta tb) σ H (.bl (decide (x = y))):=fun H1 s Q q =>
  h1 H1 s _ fun v H2 s2 q2=>h2 H2 (s.trans s2) _ fun w H3 s3 q3=>by
    rw [q2.strE,q3.strE]
    refine ⟨rfl,?_⟩
    have e:decide (V.str x = V.str y) = decide (x = y):=by by_cases z:x = y <;> simp [z]
    rw [e]
    exact q _ _ (s2.trans s3) (Dat.blI _)
theorem Bw (h1:RE K ta σ H (.bl b)) (h2:RE K tb σ H (.bl c)):RE K (tOp (fun x y H Q=>∃ a b,x = .bl a∧y = .bl b∧Q (.bl (a == b)) H) ta tb) σ H (.bl (b == c)):=fun H1 s Q q =>
  h1 H1 s _ fun v H2 s2 q2=>h2 H2 (s.trans s2) _ fun w H3 s3 q3=>⟨b,c,q2.blE,q3.blE,q _ _ (s2.trans s3) (Dat.blI _)⟩
theorem aN {k:Nat} (h1:RE K ta σ H (.tup ds)) (h2:RE K tb σ H (.int k)) (e:ds[k]? = some d):RE K (tOp (o6 K) ta tb) σ H d:=fun H1 s Q q =>
  h1 H1 s _ fun v H2 s2 q2=>h2 H2 (s.trans s2) _ fun w H3 s3 q3=>by
    obtain ⟨a,vs,ev,hq,hd⟩:=(s3.dat q2).tupE
    obtain ⟨x,ex,hx⟩:=hd.get e
    exact ⟨a,vs,k,x,ev,q3.intE,hq,fG ex,q _ _ (s2.trans s3) hx⟩
theorem cq (h:RE K t σ H (.tup ds)):RE K (tCB (fun xs H Q=>∃ p ys,xs = [.ref p]∧(SqL K H p ys∨SqT K H p ys)∧Q (.int ys.length) H) (bB t cH)) σ H (.int ds.length):=fun H1 s Q q =>
  h H1 s _ fun v H2 s2 q2=>by
    obtain ⟨a,vs,ev,hq,hd⟩:=q2.tupE
    subst ev
    refine ⟨a,vs,rfl,.inr hq,?_⟩
    rw [← hd.length]
    exact q _ _ s2 (Dat.intI _)
theorem bM {T:String} (h:RE K t σ H d):RE K (tCB (fun xs H Q=>∃ x d,xs = [x,.ty T]∧Dat K H d x∧Q (.bl (ke d T)) H) (bB t (bB (tC (.ty T)) cH))) σ H (.bl (ke d T)):=fun H1 s Q q =>
  h H1 s _ fun v H2 s2 q2=>⟨v,d,rfl,q2,q _ _ s2 (Dat.blI _)⟩
theorem bh {R:List D→D→Prop} {E:XK} (h:RA K tA σ H ds) (e:R ds d):RE K (gQ (spD K R) [] E tA) σ H d:=fun H1 s Q q =>
  h H1 s _ fun vs H2 s2 q2=>⟨ds,d,by rw [List.append_nil]; exact q2,e,fun v H3 s3 q3=>q _ _ (s2.trans s3) q3⟩
theorem ft {k:Str} {a:Addr} {T:List (Str × KTD.Dat)} (h:RE K t σ H (.str k)) (ht:i4 K a T):RE K (tOp (fun x y H Q=>∃ k a T,x = .str k∧y = .ref a∧i4 K a T∧Q (.bl (KTD.inKeys k T)) H) t (tC (.ref a))) σ H (.bl (KTD.inKeys k T)):=fun H1 s Q q =>
  h H1 s _ fun v H2 s2 q2=>⟨k,a,T,q2.strE,rfl,ht,q _ _ s2 (Dat.blI _)⟩
theorem qX {k:Str} {a:Addr} {T:List (Str × KTD.Dat)} (h:RE K t σ H (.str k)) (ht:i4 K a T) (hp:(T.all fun p=>KTD.plain p.2) = true) (e:KTD.datumAt k T = some (.flat (.int i))):RE K (tOp (xJ K) (tC (.ref a)) t) σ H (.int i):=fun H1 s Q q =>
  h H1 s _ fun v H2 s2 q2=>⟨a,k,T,i,rfl,q2.strE,ht,hp,e,q _ _ s2 (Dat.intI _)⟩
theorem Ci {n:Nat}:HT.sIx (n + 1) 0 (some 1) = 1:=by
  have:=HT.sIx_nat (n + 1) 0 1
  simpa using this
theorem Cy (v:V) (r:List V):pY (v :: r) (some 1) none = r:=by
  unfold pY
  rw [List.length_cons,Ci,HT.sIx_none]
  simp
theorem iV (h:RE K t σ H (.tup (d' :: ds))):RE K (tSl (Bm K) t (ue (tC (.int 1))) ud) σ H (.tup ds):=fun H1 s Q q =>
  h H1 s _ fun v H2 s2 q2=>by
    obtain ⟨a,vs,ev,hq,hd⟩:=q2.tupE
    obtain ⟨w,r,er,h1,h2⟩:=hd.consE
    subst ev er
    refine ⟨1,rfl,a,w :: r,rfl,hq,fun z=>?_,fun p hp=>?_⟩
    · rw [List.length_cons,Ci] at z
      exact absurd z.1 (by decide)
    · rw [Cy]
      exact q _ _ (s2.trans (aC hp _)) (Dat.tupI (SqT.of aq) ((aC hp _).dats h2))
theorem cm (h1:RE K ta σ H (.bl b)) (h2:b = true→RE K tb σ H (.bl c)):RE K (yf ta tb) σ H (.bl (b && c)):=fun H1 s Q q =>
  h1 H1 s _ fun v H2 s2 q2=>⟨b,q2.blE,by
    cases b with
    | true=>rw [if_pos rfl]; exact h2 rfl H2 (s.trans s2) _ fun w H3 s3 q3=>q _ _ (s2.trans s3) q3
    | false=>rw [if_neg Bool.false_ne_true]; exact q _ _ s2 (Dat.blI _)⟩
theorem tZ (h1:RE K ta σ H (.bl b)) (h2:b = false→RE K tb σ H (.bl c)):RE K (Cn ta tb) σ H (.bl (b || c)):=fun H1 s Q q =>
  h1 H1 s _ fun v H2 s2 q2=>⟨b,q2.blE,by
    cases b with
    | true=>rw [if_pos rfl]; exact q _ _ s2 (Dat.blI _)
    | false=>rw [if_neg Bool.false_ne_true]; exact h2 rfl H2 (s.trans s2) _ fun w H3 s3 q3=>q _ _ (s2.trans s3) q3⟩
theorem xX (h:RE K t σ H (.bl b)):RE K (As t) σ H (.bl (!b)):=fun H1 s Q q =>
  h H1 s _ fun v H2 s2 q2=>⟨b,q2.blE,q _ _ s2 (Dat.blI _)⟩
theorem jM {p r:Int→Int→Bool} {k:Int} {tc:TE} (h1:RE K ta σ H (.int i)) (h2:RE K tb σ H (.int j)) (h3:p i j = true→RE K tc σ H (.int k)) :
    RE K (pE (rI0 fun i j=>.bl (p i j)) (rI0 fun i j=>.bl (r i j)) ta tb tc) σ H (.bl (p i j && r j k)):=fun H1 s Q q =>
  h1 H1 s _ fun v H2 s2 q2=>h2 H2 (s.trans s2) _ fun w H3 s3 q3=>by
    refine ⟨i,j,q2.intE,q3.intE,p i j,rfl,?_⟩
    cases hp:p i j with
    | true =>
      simp only [if_true,Bool.true_and]
      exact h3 hp H3 (s.trans (s2.trans s3)) _ fun z H4 s4 q4=>⟨j,k,q3.intE,q4.intE,q _ _ (s2.trans (s3.trans s4)) (by rw [hp]; exact Dat.blI _)⟩
    | false =>
      simp only [Bool.false_eq_true,if_false,Bool.false_and]
      exact q _ _ (s2.trans s3) (by rw [hp]; exact Dat.blI _)
theorem mz (h:RT tt σ H b) (h1:b = true→RE K ta σ H d) (h2:b = false→RE K tb σ H d):RE K (tIf tt ta tb) σ H d:=fun H1 s Q q =>
  h H1 s _ fun H2 s2=>by
    cases b with
    | true=>rw [if_pos rfl]; exact h1 rfl H2 (s.trans s2) _ fun w H3 s3 q3=>q _ _ (s2.trans s3) q3
    | false=>rw [if_neg Bool.false_ne_true]; exact h2 rfl H2 (s.trans s2) _ fun w H3 s3 q3=>q _ _ (s2.trans s3) q3
theorem ay (h:RE K t σ H (.bl b)):RT (yh t) σ H b:=fun H1 s Q q=>h H1 s _ fun v H2 s2 q2=>⟨b,q2.blE,q _ s2⟩
theorem aW (h:RE K t σ H (.bl b)):RT (fun σ H Q=>t σ H fun x H'=>∃ k,vZ K x H' k∧Q k H') σ H b:=fun H1 s Q q=>h H1 s _ fun v H2 s2 q2=>by
  rw [q2.blE]
  exact ⟨b,rfl,q _ s2⟩
theorem bu (h:RT tt σ H b):RT (BF tt) σ H (!b):=fun H1 s Q q=>h H1 s _ fun H2 s2=>q _ s2
theorem bT (h:RT tt σ H b) (h2:b = false→RT uu σ H c):RT (tOr tt uu) σ H (b || c):=fun H1 s Q q=>h H1 s _ fun H2 s2=>by
  cases b with
  | true=>rw [if_pos rfl]; exact q _ s2
  | false=>rw [if_neg Bool.false_ne_true]; exact h2 rfl H2 (s.trans s2) _ fun H3 s3=>q _ (s2.trans s3)
theorem aZ {En:Ends} (h:RE K t σ H d) (q:∀ v H',Same H H'→Dat K H' d v→En.rt v H'):zR t En σ H:=h.use q
theorem eU {En:Ends} {ts us:TS} (h:RT tt σ H b) (h1:b = true→∀ H',Same H H'→ts En σ H') (h2:b = false→∀ H',Same H H'→us En σ H'):zQ tt ts us En σ H:=h.use fun H' s=>by
  cases b with
  | true=>rw [if_pos rfl]; exact h1 rfl H' s
  | false=>rw [if_neg Bool.false_ne_true]; exact h2 rfl H' s
end
theorem bI:bootBuiltins "len" = some (.builtin "len"):=by decide +kernel
theorem aQ:bootBuiltins "isinstance" = some (.builtin "isinstance"):=by decide +kernel
theorem j0:bootBuiltins "all" = some (.builtin "all"):=by decide +kernel
theorem AL:bootBuiltins "any" = some (.builtin "any"):=by decide +kernel
theorem wd:bootBuiltins "sum" = some (.builtin "sum"):=by decide +kernel
theorem AN:bootBuiltins "min" = some (.builtin "min"):=by decide +kernel
theorem AM:bootBuiltins "int" = some (.type "int"):=by decide +kernel
theorem yC:bootBuiltins "bool" = some (.type "bool"):=by decide +kernel
theorem wc:bootBuiltins "str" = some (.type "str"):=by decide +kernel
theorem cV:bootBuiltins "tuple" = some (.type "tuple"):=by decide +kernel
theorem sY:bootBuiltins "list" = some (.type "list"):=by decide +kernel
theorem wb:bootBuiltins "range" = some (.type "range"):=by decide +kernel
theorem AO:bootBuiltins "set" = some (.type "set"):=by decide +kernel
theorem we:bootBuiltins "zip" = some (.type "zip"):=by decide +kernel
theorem pR:bootBuiltins "reversed" = some (.type "reversed"):=by decide +kernel
theorem mU:bootBuiltins "ValueError" = some (.type "ValueError"):=by decide +kernel
theorem mC {K:PySem.W.Frag} {σ:St} {H:Hp} {tA:TA} {ds:List D} {Q:VK} (h:RA K tA σ H ds) (q:∀ p vs H1,Same H H1→H1 p = none→Dats K H1 ds vs→Q (.ref p) (upd H1 p (.lst vs))) (hl:ds.length ≤ 1000:=by simp):kU tA σ H Q :=
  h.use fun vs H1 s1 q1=>⟨by rw [← q1.length]; exact bU hl,fun p hp=>q p vs H1 s1 hp q1⟩
theorem gH {K:PySem.W.Frag} {J:It} {n:Nat} {item:Nat→V} {j:Nat} {te:TE} {σ0:St} {H1:Hp} {Q:VK} (go:∀ i H',Same H1 H'→i < n→J.go i H'∧∀ x H'',J.yld i H' x H''→H'' = H'∧x = item i) (stop:∀ H',Same H1 H'→J.stop n H')
    (h0:σ0.set j none = σ0) (es:List D) (hn:es.length = n) (hb:n ≤ 1000) (turn:∀ i d,es[i]? = some d→RE K te (σ0.set j (some (item i))) H1 d)
    (fin:∀ l ys H',H1 l = none→Same H1 H'→H' l = some (.lst ys)→Dats K H' es ys→Q (.ref l) H') (l:Addr) (hl:H1 l = none) :
    ∃ W:Nat→Nat→St→Hp→Prop,(∃ m,W 0 m σ0 (upd H1 l (.lst [])))∧∀ i m σ' H',W i m σ' H' →
      (J.stop i H'∧Q (.ref l) H') ∨
      (J.go i H'∧∃ Nx:St→Hp→Prop,(∀ σ'' H'',Nx σ'' H''→∃ m',m' < m∧W (i + 1) m' σ'' H'')∧∀ x H'',J.yld i H' x H''→cf j x σ' H'' fun σ2 H2=>eV σ2 H2 fun b H3 =>
        if b = true then te σ2 H3 fun v H4=>∃ ys,H4 l = some (.lst ys)∧ys.length < sizeLine∧Nx σ2 (upd H4 l (.lst (ys ++ [v]))) else Nx σ2 H3):=by
  refine lG (fun H'=>Same H1 H') go stop h0 l (fun i H'=>Same H1 H'∧∃ ys,H' l = some (.lst ys)∧Dats K H' (es.take i) ys) ?_ ?_ ?_ ?_
  · exact ⟨aC hl _,[],aq,by rw [List.take_zero]; exact Dats.nil⟩
  · intro i H' _ p
    exact p.1
  · intro i H' hi ⟨s1,ys,hy,hd⟩
    have hi':i < es.length:=by omega
    refine ((turn i es[i] (List.getElem?_eq_getElem hi')).mono s1).use fun v H4 s4 q4=>?_
    have hy4:=s4 _ _ hy
    have lys:ys.length = i:=by rw [← hd.length,List.length_take]; omega
    refine ⟨ys,hy4,bQ (by omega),⟨_,rfl⟩,fun b o hb=>?_,ys ++ [v],aq,?_⟩
    · rw [aB (av hb hl)]
      exact s4 _ _ (s1 _ _ hb)
    · have g:dv K H4 (upd H4 l (.lst (ys ++ [v]))):=But.grow (t:=l) (But.upd (Same.refl H4).but) hy4 aq
      rw [List.take_add_one,List.getElem?_eq_getElem hi']
      exact Dats.append (Dats.mono g _ (s4.dats hd)) (Dats.cons (Dat.mono g _ q4) Dats.nil)
  · intro H' ⟨s1,ys,hy,hd⟩
    rw [List.take_of_length_le (by omega)] at hd
    exact fin l ys H' hl s1 hy hd
theorem aO {K:PySem.W.Frag} {σ:St} {H:Hp} {tt:TT} {b:Bool} {En:Ends} {ts us:TS} (h:RT tt σ H b) (h1:b = true→∀ H',Same H H'→ts { En with nx:=us En } σ H') (h2:b = false→∀ H',Same H H'→us En σ H'):jS (zQ tt ts uc) us En σ H :=
  eU h h1 h2
theorem dP {K:PySem.W.Frag} {σ:St} {H:Hp} {t:TE} {d:D} {En:Ends} {us:TS} {k:Nat} (h:RE K t σ H d) (q:∀ v H',Same H H'→Dat K H' d v→us En (σ.set k (some v)) H'):jS (m5 t (cf k)) us En σ H:=h.use q
theorem dt {σ:St} {H:Hp} {te:TE} {En:Ends} {us:TS} {k:Nat} (h:te σ H fun x H1=>us En (σ.set k (some x)) H1):jS (m5 te (cf k)) us En σ H:=h
theorem gE {σ:St} {H:Hp} {te:TE} {En:Ends} {us:TS} (h:te σ H fun _ H1=>us En σ H1):jS (rj te) us En σ H:=h
theorem x9 {σ:St} {H:Hp} {v:V} {Q:VK} (h:Q v H):tC v σ H Q:=h
theorem ix {σ:St} {H:Hp} {te:TE} {En:Ends} (h:te σ H En.rt):zR te En σ H:=h
theorem cO {σ:St} {H:Hp} {En:Ends} {ts us:TS} (h:ts { En with nx:=us En } σ H):jS ts us En σ H:=h
theorem nK {K:PySem.W.Frag} {tl te:TE} {mk:St→St} {j:Nat} {σ:St} {H:Hp} {Q:VK} {cs:List D} (h:RE K tl σ H (.tup cs)) (hc:cs.length ≤ 1000) (es:List D) (hl:es.length = cs.length) (h0:(mk σ).set j none = mk σ)
    (turn:∀ H1 (i:Nat) c v d,Same H H1→cs[i]? = some c→es[i]? = some d→Dat K H1 c v→RE K te ((mk σ).set j (some v)) H1 d)
    (fin:∀ l ys H',H l = none→Same H H'→H' l = some (.lst ys)→Dats K H' es ys→Q (.ref l) H'):fT (yR K tl) mk (cf j) eV te σ H Q:=by
  refine h.use fun v4 H4 s4 q4=>?_
  obtain ⟨a,vs,e,hq,hd⟩:=q4.tupE
  subst e
  have l4:=hd.length
  refine ⟨a,rfl,⟨vs,hq⟩,?_⟩
  refine gH (K:=K) (Q:=Q) (n:=vs.length) (item:=fun i=>vs.getD i .non) (fun i H' s hi=>AX i H' (s.sqT hq) hi) (fun H' s=>⟨vs,s.sqT hq,Nat.le_refl _⟩) h0 es (by omega) (by omega) (fun i d hi=>?_) (fun l ys H5 hl5 s5=>fin l ys H5 (s4.free hl5) (s4.trans s5))
  have hi':i < es.length:=(List.getElem?_eq_some_iff.mp hi).1
  have hic:i < cs.length:=by omega
  obtain ⟨vz,ez,hz⟩:=hd.get (List.getElem?_eq_getElem hic)
  have q:=turn H4 i cs[i] vz d s4 (List.getElem?_eq_getElem hic) hi hz
  rw [List.getD_eq_getElem?_getD,ez]
  exact q
end L2
end
section
namespace L2
open PySem PySem.Spec PyProof.Rows
theorem jN {j:Nat} {v:V} {σ:St} {H:Hp} {Q:St→Hp→Prop} (h:Q (σ.set j (some v)) H):cf j v σ H Q:=h
theorem jO {ts us:TS} {En:Ends} {σ:St} {H:Hp} (M:St→Hp→Prop) (hr:∀ σ' H',M σ' H'→us En σ' H') (h:(∀ σ' H',M σ' H'→us En σ' H')→ts { En with nx:=us En } σ H):jS ts us En σ H:=h hr
theorem eL {P:Program} {w:World} {K:PySem.W.Frag} {mg:Str→Option Value} {base:Heap} {CX:CXT} {k:Nat} {f:Addr} {fd:FuncData} {ps:List Str} {sp:Sp} (no:∀ vs H Q E,¬ sp vs H Q E):FnOk P w K mg base CX k f fd ps sp :=
  ⟨fun vs H Q E h=>absurd h (no vs H Q E),fun A outer s H args us vs Q E _ _ _ _ h=>absurd h (no vs H Q E)⟩
theorem sC {tA:TA} {te:TE} {mk:St→St} {j:Nat} {σ:St} {H:Hp} {Q:VK} (n:Nat) (h:∀ R:List V→Hp→Prop,R [.int n] H→tA σ H R) (hc:n ≤ 1000) (h0:(mk σ).set j none = mk σ) (Pn:Addr→Nat→Hp→Prop)
    (p0:∀ l,H l = none→Pn l 0 (upd H l (.lst [])))
    (turn:∀ l i G,H l = none→i < n→Pn l i G→te ((mk σ).set j (some (.int i))) G fun v H4=>∃ ys,H4 l = some (.lst ys)∧ys.length < sizeLine∧(∃ z,(mk σ).set j (some (.int i)) = (mk σ).set j z)∧Pn l (i + 1) (upd H4 l (.lst (ys ++ [v]))))
    (fin:∀ l G,H l = none→Pn l n G→Q (.ref l) G):fT (Ab tA) mk (cf j) eV te σ H Q:=by
  refine h _ ⟨n,rfl,by omega,by omega,fun l hl=>?_⟩
  rw [Int.toNat_natCast]
  exact lG (fun _=>True) (item:=fun i=>.int i) (fun i H' _ hi=>AW i H' hi) (fun H' _=>Nat.le_refl _) h0 l (Pn l) (p0 l hl) (fun _ _ _ _=>trivial) (fun i G hi p=>turn l i G hl hi p) (fun G p=>fin l G hl p)
theorem gj {ta:TE} {r:List V→Hp→VK→Prop} {σ:St} {H:Hp} {Q:VK} (h:ta σ H fun x H1=>r [x] H1 Q):tCB r (bB ta cH) σ H Q:=h
theorem ph {K:PySem.W.Frag} {tA:TA} {us:TS} {En:Ends} {σ:St} {G:Hp} {j:Nat} {l:Addr} {xs:List V} {es:List D} (h:RA K tA σ G es) (hl:G l = some (.lst xs)) (hx:xs.length ≤ 900)
    (q:∀ ys G',But l G G'→G' l = some (.lst (xs ++ ys))→Dats K G' es ys→us En σ G') (hv:σ[j]? = some (some (.ref l)):=by rfl) (he:es.length ≤ 100:=by simp):jS (rj (tBM K "list" tV (eJ j) (bB (kU tA) cH))) us En σ G:=by
  refine ⟨_,hv,.inl ⟨rfl,_,SqL.of hl⟩,?_⟩
  refine mC h (fun p vs H1 s1 hp q1=>?_) (by omega)
  have hlp:l ≠ p:=av (s1 _ _ hl) hp
  have hl1:upd H1 p (.lst vs) l = some (.lst xs):=by rw [aB hlp]; exact s1 _ _ hl
  have lv:=q1.length
  refine ⟨l,p,xs,vs,rfl,rfl,hl1,aq,bU (by omega),?_⟩
  have b:But l (upd H1 p (.lst vs)) (upd (upd H1 p (.lst vs)) l (.lst (xs ++ vs))):=But.upd (Same.refl _).but
  have g:dv K (upd H1 p (.lst vs)) (upd (upd H1 p (.lst vs)) l (.lst (xs ++ vs))):=b.grow hl1 aq
  exact q vs _ ((s1.trans (aC hp _)).but.trans b) aq (Dats.mono g _ ((aC hp _).dats q1))
theorem pw {K:PySem.W.Frag} {te:TE} {us:TS} {En:Ends} {σ:St} {H:Hp} {i j:Nat} {d e:D} (h:RE K te σ H (.tup [d,e])) (q:∀ v w H',Same H H'→Dat K H' d v→Dat K H' e w→us En ((σ.set i (some v)).set j (some w)) H') :
    jS (m5 te (rR K 2 (iu (cf i) (iu (cf j) uC)))) us En σ H :=
  h.use fun x H1 s1 q1=>by
    obtain ⟨a,vs,e1,hq,hd⟩:=q1.tupE
    obtain ⟨v,w,e2,hv,hw⟩:=fO hd
    subst e1 e2
    exact ⟨a,_,rfl,hq,rfl,v,_,rfl,w,_,rfl,rfl,q v w H1 s1 hv hw⟩
def Af:Expr→Bool
  | .Starred ..=>false
  | _=>true
theorem vB {e:Expr} {es:List Expr} {env:Env} (h:Af e = true):starEach (e :: es) env = (false,eval e env) :: starEach es env:=by
  cases e <;> first | rfl | cases h
theorem ah {X:Cx} {e:Expr} {es:List Expr} {te:TE} {t:TA} (ha:PE X e te) (hr:PA X es t) (h:Af e = true:=by rfl):PA X (e :: es) (bB te t):=aS ha hr (vB h)
end L2
end
section
namespace L2
open PySem PySem.Spec PyProof.Rows
theorem mM {bs:List Bool} {us:List Value}:Vals (bs.map V.bl) us→us = bs.map Value.bool:=by
  intro h
  induction bs generalizing us with
  | nil=>cases h; rfl
  | cons b bs ih =>
    cases h with
    | cons r t=>cases r; rw [ih t]; rfl
theorem xQ (bs:List Bool) (d:Bool):(List.range bs.length).map (fun i=>(bs[i]?).getD d) = bs:=by
  apply List.ext_getElem
  · simp
  · intro i h1 h2
    simp at h1
    simp [h1]
section
variable {X:Cx}
theorem gF (hc:X.calm = true):fM X (.builtin "all") (fun xs H Q=>∃ (l:Addr) (bs:List Bool),xs = [.ref l]∧SqL X.K H l (bs.map V.bl)∧Q (.bl (bs.all id)) H):=by
  intro pins s σ H xs us Q I r h
  obtain ⟨l,bs,rfl,hq,q⟩:=h
  obtain ⟨u,rfl,ru⟩:=eY r
  cases ru
  obtain ⟨its,rv,p,hz⟩:=I.list hq
  have ei:=mM rv
  have hl:=p.isList
  have hlt:l < s.heap.objs.size:=by obtain ⟨_,e,_⟩:=hl; exact Heap.lt_size e
  refine call_all_walk (wpAny_pyIter_list hl ?_)
  refine ⟨s.heap.objs.size,[s.heap.objs.size,l],[s.heap.objs.size],its.toArray.size,_,_,fun i=>(bs[i]?).getD true,rfl,Walks.list (A:=X.A.in1) (I.ok.hd hc) _ l (Nat.ne_of_lt hlt) its.toArray,
    ⟨⟨_,Heap.get?_push_size _ rfl,rfl,rfl⟩,hl.push _⟩,fun i v s' Q' E' hP hQ=>?_,fun h' tk hk=>?_⟩
  · subst ei
    have hP':(bs.map Value.bool)[i]? = some v:=by simpa using hP
    rw [List.getElem?_map] at hP'
    cases hb:bs[i]? with
    | none=>rw [hb] at hP'; cases hP'
    | some b =>
      rw [hb] at hP'
      cases hP'
      simp only [hb,Option.getD_some] at hQ
      exact wpAny_truthy_bool hQ
  · have e:((List.range its.toArray.size).all fun i=>(bs[i]?).getD true) = bs.all id:=by
      subst ei
      rw [List.size_toArray,List.length_map]
      conv=>rhs; rw [← xQ bs true]
      rw [List.all_map]
      rfl
    rw [e]
    exact ⟨.bl _,H,I.kept (t':=tk) fun b x e=>hk b x (fun hm=>by rw [List.mem_singleton.mp hm] at e; exact Nat.lt_irrefl _ (Heap.lt_size e)) (Heap.get?_push_of_some _ e),rfl,q⟩
theorem wq (hc:X.calm = true):fM X (.builtin "any") (fun xs H Q=>∃ (l:Addr) (bs:List Bool),xs = [.ref l]∧SqL X.K H l (bs.map V.bl)∧Q (.bl (bs.any id)) H):=by
  intro pins s σ H xs us Q I r h
  obtain ⟨l,bs,rfl,hq,q⟩:=h
  obtain ⟨u,rfl,ru⟩:=eY r
  cases ru
  obtain ⟨its,rv,p,hz⟩:=I.list hq
  have ei:=mM rv
  have hl:=p.isList
  have hlt:l < s.heap.objs.size:=by obtain ⟨_,e,_⟩:=hl; exact Heap.lt_size e
  refine call_any_walk (wpAny_pyIter_list hl ?_)
  refine ⟨s.heap.objs.size,[s.heap.objs.size,l],[s.heap.objs.size],its.toArray.size,_,_,fun i=>(bs[i]?).getD false,rfl,Walks.list (A:=X.A.in1) (I.ok.hd hc) _ l (Nat.ne_of_lt hlt) its.toArray,
    ⟨⟨_,Heap.get?_push_size _ rfl,rfl,rfl⟩,hl.push _⟩,fun i v s' Q' E' hP hQ=>?_,fun h' tk hk=>?_⟩
  · subst ei
    have hP':(bs.map Value.bool)[i]? = some v:=by simpa using hP
    rw [List.getElem?_map] at hP'
    cases hb:bs[i]? with
    | none=>rw [hb] at hP'; cases hP'
    | some b =>
      rw [hb] at hP'
      cases hP'
      simp only [hb,Option.getD_some] at hQ
      exact wpAny_truthy_bool hQ
  · have e:((List.range its.toArray.size).any fun i=>(bs[i]?).getD false) = bs.any id:=by
      subst ei
      rw [List.size_toArray,List.length_map]
      conv=>rhs; rw [← xQ bs false]
      rw [List.any_map]
      rfl
    rw [e]
    exact ⟨.bl _,H,I.kept (t':=tk) fun b x e=>hk b x (fun hm=>by rw [List.mem_singleton.mp hm] at e; exact Nat.lt_irrefl _ (Heap.lt_size e)) (Heap.get?_push_of_some _ e),rfl,q⟩
end
section
variable {P:Program} {w:World} {K:PySem.W.Frag} {mg:Str→Option Value} {base:Heap}
end
section
variable {K:PySem.W.Frag} {σ:St} {H H':Hp} {d d':D} {ds:List D} {t u ta tb:TE} {tt uu:TT} {tA:TA} {i j:Int} {b c:Bool}
theorem sD (h1:RE K ta σ H (.int i)) (h2:RE K tb σ H (.int j)) (hj:0 < j):RE K (tOp (rI (fun _ j=>0 < j) fun i j=>.int (i % j)) ta tb) σ H (.int (i % j)):=xY h1 h2 hj fun _=>Dat.intI _
theorem pd (h1:RE K ta σ H (.int i)) (h2:RE K tb σ H (.int j)) (hc:Av i j):RE K (tOp (rI Av fun i j=>.int (i / j)) ta tb) σ H (.int (i / j)):=xY h1 h2 hc fun _=>Dat.intI _
theorem tj:∀ {bs:List Bool} {vs:List V},Dats K H (bs.map D.bl) vs→vs = bs.map V.bl
  | [],vs,h=>by rw [Dats.nilE h]; rfl
  | b :: bs,vs,h=>by
    obtain ⟨v,r,e,h1,h2⟩:=h.consE
    rw [e,h1.blE,tj h2]
    rfl
end
end L2
end
section
namespace L2
open PySem PySem.Spec PyProof.Rows
section
variable {K:PySem.W.Frag} {σ:St} {H H':Hp} {d d':D} {ds:List D} {t u ta tb:TE} {tt uu:TT} {tA:TA} {i j:Int} {b c:Bool}
theorem tq:∀ {xs:List Str} {vs:List V},Dats K H (xs.map D.str) vs→vs = xs.map V.str
  | [],vs,h=>by rw [Dats.nilE h]; rfl
  | x :: xs,vs,h=>by
    obtain ⟨v,r,e,h1,h2⟩:=h.consE
    rw [e,h1.strE,tq h2]
    rfl
theorem yG (x y:Str):eqV (.str x) (.str y) = decide (x = y):=by
  unfold eqV
  by_cases h:x = y <;> simp [h]
theorem oE (x:Str):∀ ys:List Str,inV (.str x) (ys.map V.str) = decide (x ∈ ys)
  | []=>by simp [inV]
  | y :: ys=>by
    have ih:=oE x ys
    unfold inV at ih ⊢
    rw [List.map_cons,List.any_cons,ih,yG]
    by_cases h:y = x
    · subst h; simp
    · have h':¬ x = y:=fun z=>h z.symm
      simp [h,h']
theorem nz (ys:List Str):(ys.map V.str).all i6 = true:=by
  rw [List.all_eq_true]
  intro v hv
  obtain ⟨y,_,rfl⟩:=List.mem_map.mp hv
  rfl
theorem Bv {x:Str} {ys:List Str} (h1:RE K ta σ H (.str x)) (h2:RE K tb σ H (.tup (ys.map D.str))):RE K (tOp (rIn K false) ta tb) σ H (.bl (decide (x ∈ ys))):=fun H1 s Q q =>
  h1 H1 s _ fun v H2 s2 q2=>h2 H2 (s.trans s2) _ fun w H3 s3 q3=>by
    obtain ⟨a,vs,ev,hq,hd⟩:=q3.tupE
    have e:=tq hd
    subst e
    rw [q2.strE]
    refine ⟨a,_,ev,.inr hq,rfl,nz ys,?_⟩
    rw [oE]
    exact q _ _ (s2.trans s3) (Dat.blI _)
theorem vp {x:Str} {ys:List Str} (h1:RE K ta σ H (.str x)) (h2:RE K tb σ H (.tup (ys.map D.str))):RE K (tOp (rIn K true) ta tb) σ H (.bl (!decide (x ∈ ys))):=fun H1 s Q q =>
  h1 H1 s _ fun v H2 s2 q2=>h2 H2 (s.trans s2) _ fun w H3 s3 q3=>by
    obtain ⟨a,vs,ev,hq,hd⟩:=q3.tupE
    have e:=tq hd
    subst e
    rw [q2.strE]
    refine ⟨a,_,ev,.inr hq,rfl,nz ys,?_⟩
    rw [oE]
    exact q _ _ (s2.trans s3) (Dat.blI _)
theorem pe {x y:Str} (h1:RE K ta σ H (.str x)) (h2:RE K tb σ H (.str y)):RE K (tOp rNe ta tb) σ H (.bl (!decide (x = y))):=fun H1 s Q q =>
  h1 H1 s _ fun v H2 s2 q2=>h2 H2 (s.trans s2) _ fun w H3 s3 q3=>by
    rw [q2.strE,q3.strE]
    refine ⟨rfl,?_⟩
    have e:decide (V.str x = V.str y) = decide (x = y):=by by_cases z:x = y <;> simp [z]
    rw [e]
    exact q _ _ (s2.trans s3) (Dat.blI _)
end
end L2
end
section
namespace L2
open PySem PySem.Spec PyProof.Rows
section
variable {X:Cx}
theorem zw {body:List Stmt} {t:TS} {h:ExceptHandler} {hs:List ExceptHandler} {pos:Pos} (hb:PSs X body t) (hx:X.xe = (fun _ _=>False):=by rfl):PS X (.Try body (h :: hs) [] [] pos) t:=by
  intro pins s σ H D I q
  have w:=hb pins s σ H D I q
  rw [hx] at w
  refine wpAny_Try_except (wpAny_mono w (fun f s1 hf=>?_) fun e s1 z=>z.elim)
  cases f with
  | next =>
    obtain ⟨σ',H',I',q'⟩:=hf
    exact aK pins s1 σ' H' D I' q'
  | ret u=>exact hf
  | brk=>exact hf
  | cont=>exact hf
theorem xm:OpR X (compareOp .LtE) (fun x y H Q=>∃ i j:Str,x = .str i∧y = .str j∧Q (.bl (!decide (j.cps.toList < i.cps.toList))) H):=by
  intro pins s σ H x y v u Q I rx ry h
  obtain ⟨i,j,rfl,rfl,q⟩:=h
  obtain ⟨t,rfl⟩:=rx
  obtain ⟨t',rfl⟩:=ry
  refine PySem.P.le_str ?_
  exact ⟨.bl _,H,I,rfl,q⟩
def Its (x:Str):It:=⟨fun i _=>i < x.cps.size,fun i H v H'=>H' = H∧∃ c,x.cps[i]? = some c∧v = .str ⟨#[c]⟩,fun i _=>i = x.cps.size⟩
theorem nS {P:Program} {w:World} {K:PySem.W.Frag} {tg:Expr} {it:Addr} {n:String} {x:Str} {t:Tok} (hn:["enumerate","zip","dict_itemiterator","dict_reverseitemiterator","odict_iterator","itertools.zip_longest","itertools.pairwise"].contains n = false)
    (W:∀ A:Around,A.handled = none→Walks P w A it [it] [it] x.cps.size (SignAt x) (fun i h=>h.IsStrIter it n x t i))
    (self:∀ (A:Around) (i:Nat) (s:Shared) (Q:Value→Shared→Prop) (E:Value→Shared→Prop),s.heap.IsStrIter it n x t i→Q (.ref it) s→wpAny (model P w) A (pyIter (.ref it)) Q E s) :
    lA P w K tg (Its x) [it] it (fun i h=>h.IsStrIter it n x t i) where
  mem:=by simp
  obj:=fun i h st b hb=>by
    have e:b = it:=by simpa using hb
    subst e
    obtain ⟨o,e,c,d⟩:=st
    exact ⟨o,e,fun v z=>by rw [d] at z; cases z⟩
  keep:=fun i h h' st k=>by
    obtain ⟨o,e,r⟩:=st
    exact ⟨o,k it (by simp) o e,r⟩
  item:=by
    intro X hP hw hK hc i pins s σ H E I hf st hg
    subst hP hw hK
    obtain ⟨f0,f1,f2,f3,f4,f5⟩:=hf it (by simp)
    refine (W X.A (I.ok.hd hc)).item i s _ _ hg st fun v h' tk hv st' kk=>?_
    obtain ⟨c,u,hx,rfl⟩:=hv
    have I1:Inv X pins σ H { s with heap:=h',toks:=tk }:=I.turned (fun b o hb e=>kk b o (by simpa using hb) e) f0 f1 f3 f4 f5
    obtain ⟨o,e,cc,d⟩:=id st'
    exact ⟨_,rfl,qu (s:={ s with heap:=h',toks:=tk }) e cc d hn ⟨.str ⟨#[c]⟩,H,I1,⟨u,rfl⟩,⟨rfl,c,hx,rfl⟩,st',fun b hb=>(hf b hb).1⟩⟩
  done:=by
    intro X hP hw hK hc i pins s σ H E I hf st hg
    subst hP hw hK
    obtain ⟨f0,f1,f2,f3,f4,f5⟩:=hf it (by simp)
    have hg':i = x.cps.size:=hg
    subst hg'
    exact (W X.A (I.ok.hd hc)).done s _ _ st fun h' tk eb=>⟨rfl,I.turned (fun b o hb e=>eb b o (by simpa using hb) e) f0 f1 f3 f4 f5⟩
  self:=self
variable {tg:Expr}
def B1 (tl:TE):TI:=fun σ H R=>tl σ H fun v H1=>∃ x,v = .str x∧R (Its x) H1
theorem Bi {l:Expr} {tl:TE} (hl:PE X l tl):PI X tg l (B1 tl):=by
  intro pins s σ H R I h
  refine thn (hl pins s σ H _ I h) fun v s1 ⟨xv,H1,I1,r1,q1⟩=>?_
  obtain ⟨x,e,q⟩:=q1
  subst e
  obtain ⟨t,rfl⟩:=r1
  have fin:∀ (o:Obj) (n:String),lA X.prog X.w X.K tg (Its x) [s1.heap.objs.size] s1.heap.objs.size (fun i h=>h.IsStrIter s1.heap.objs.size n x t i)→(s1.heap.push o).IsStrIter s1.heap.objs.size n x t 0→PIE X pins σ tg R (.ref s1.heap.objs.size) { s1 with heap:=s1.heap.push o }:=by
    intro o n T st
    refine ⟨s1.heap.objs.size,[s1.heap.objs.size],_,_,H1,rfl,I1.kept (t':=s1.toks) fun b o e=>Heap.get?_push_of_some _ e,T,st,fun b hb=>?_,q⟩
    have e:b = s1.heap.objs.size:=by simpa using hb
    subst e
    exact I1.fpOk (Nat.le_refl _) (I1.hok.fresh (Nat.le_refl _))
  cases ha:x.cps.all (· < 128)
  · exact wpAny_pyIter_wide ha (fin _ "str_iterator" (nS (by decide) (fun A hA=>Walks.strWide hA _ x t) fun A i s Q E st q=>wpAny_pyIter_striter_wide st q) ⟨_,Heap.get?_push_size _ rfl,rfl,rfl⟩)
  · exact wpAny_pyIter_ascii ha (fin _ "str_ascii_iterator" (nS (by decide) (fun A hA=>Walks.strAscii hA _ x t) fun A i s Q E st q=>wpAny_pyIter_striter_ascii st q) ⟨_,Heap.get?_push_size _ rfl,rfl,rfl⟩)
theorem qQ:OpR X (compareOp .NotIn) (fun x y H Q=>∃ k a T,x = .str k∧y = .ref a∧i4 X.K a T∧Q (.bl (!KTD.inKeys k T)) H):=by
  intro pins s σ H x y v u Q I rx ry h
  obtain ⟨k,a,T,ex,ey,t,q⟩:=h
  subst ex ey
  obtain ⟨tk,rfl⟩:=rx
  cases ry
  exact KTD.notin_text (h₀:=s.heap) ⟨t _ I.kIn,fun _ _ e=>e⟩ ⟨.bl _,H,I.tok _,rfl,q⟩
def tW (K:PySem.W.Frag):R2:=fun x y H Q=>∃ a k T z,x = .ref a∧y = .str k∧i4 K a T∧(T.all fun p=>KTD.plain p.2) = true∧KTD.datumAt k T = some (.flat (.str z))∧Q (.str z) H
theorem yV:IxR X (tW X.K):=by
  intro value slice pins s σ H x y v u Q I rx ry h hs
  obtain ⟨a,k,T,z,ex,ey,t,hp,hd,q⟩:=h
  subst ex ey
  obtain ⟨tk,rfl⟩:=ry
  cases rx
  have hm:KTD.inKeys k T = true:=by rw [← KTD.isSome_datumAt,hd]; rfl
  refine KTD.item_textA (h₀:=s.heap) ⟨t _ I.kIn,fun _ _ e=>e⟩ hp hm ?_ hs
  exact each T hd fun t'=>⟨.str z,H,I.tok _,⟨t',rfl⟩,q⟩
where
  each {h:Heap} {k:Str} {P:Value→Prop} {z:Str}:∀ (T:List (Str × KTD.Dat)),KTD.datumAt k T = some (.flat (.str z))→(∀ t,P (.str z t))→KTD.EachL h k P T
    | [],hd,_=>by simp [KTD.datumAt] at hd
    | (x,d) :: T,hd,hP=>by
      have hd':(if decide (k = x) = true then some d else KTD.datumAt k T) = some (.flat (.str z)):=hd
      by_cases hx:k = x
      · rw [if_pos (decide_eq_true hx)] at hd'
        cases hd'
        exact KTD.eachL_hit hx (KTD.opened_str hP)
      · rw [if_neg (by simp [hx])] at hd'
        exact KTD.eachL_miss hx (each T hd' hP)
def uf (K:PySem.W.Frag) (td ty tx:TE):TE:=fun σ H Q=>td σ H fun x H1=>∃ a T,x = .ref a∧i4 K a T∧ty σ H1 fun y H2=>tx σ H2 fun z H3=>∃ k i,y = .str k∧z = .int i∧(∀ p ∈ T,∃ j,p.2 = .flat (.int j)) ∧
  Q (.int (match KTD.datumAt k T with | some (.flat (.int j))=>j | _=>i)) H3
theorem uY {o e f:Expr} {apos cpos:Pos} {td ty tx:TE} (ho:PE X o td) (he:PE X e ty) (hf:PE X f tx) (m:M2 X o "get" apos e f cpos):PE X (.Call (.Attribute o "get" apos) [e,f] [] cpos) (uf X.K td ty tx):=by
  intro pins s σ H Q I h
  refine wpAny_Call_method m.base m.few m.line PySem.F.plainAttrs_dict PySem.F.slot_dict_get PySem.F.type_dict_get (thn (ho pins s σ H _ I h) fun u s1 ⟨x,H1,I1,rx,a,T,ex,tk,q1⟩=>?_)
  subst ex
  obtain rfl:u = Value.ref a:=rx
  have t1:=tk _ I1.kIn
  obtain ⟨lo,ob,es,ep,hob,hex,hdat,hrows⟩:=id t1
  refine ⟨⟨ob,hob,hex.1⟩,fun b eb=>?_,?_⟩
  · cases eb
    exact ⟨ob,hob,hex.2.1⟩
  rw [m.trees]
  refine Calls.callWith_builtin rfl (Calls.evalArgs_plain (Calls.spliced_cons (thn (he pins s1 σ H1 _ I1 q1) fun iv s2 ⟨y,H2,I2,ry,q2⟩ =>
    Calls.spliced_cons (thn (hf pins s2 σ H2 _ I2 q2) fun fv s3 ⟨z,H3,I3,rz,k,i,ey,ez,hT,q3⟩=>Calls.spliced_nil ?_))))
  subst ey ez
  obtain ⟨tok1,rfl⟩:=ry
  obtain ⟨tok2,rfl⟩:=rz
  refine KTD.get2_text (h₀:=s3.heap) ⟨tk _ I3.kIn,fun _ _ e=>e⟩ ?_
  have fin:∀ (D:List (Str × KTD.Dat)),(∀ p ∈ D,∃ j,p.2 = .flat (.int j))→Q (.int (match KTD.datumAt k D with | some (.flat (.int j))=>j | _=>i)) H3 →
      KTD.Each s3.heap k (fun v=>EP X pins σ Q v { s3 with toks:=s3.toks + 1 }) (EP X pins σ Q (.int i tok2) { s3 with toks:=s3.toks + 1 }) D:=by
    intro D
    induction D with
    | nil=>intro _ q; exact KTD.each_nil ⟨.int i,H3,I3.tok _,⟨_,rfl⟩,q⟩
    | cons p D ih =>
      intro hD q
      obtain ⟨x,d⟩:=p
      obtain ⟨j,ej⟩:=hD (x,d) List.mem_cons_self
      have ej':d = .flat (.int j):=ej
      subst ej'
      have ed:KTD.datumAt k ((x,KTD.Dat.flat (.int j)) :: D) = if decide (k = x) = true then some (.flat (.int j)) else KTD.datumAt k D:=rfl
      rw [ed] at q
      by_cases hx:k = x
      · rw [if_pos (decide_eq_true hx)] at q
        exact KTD.each_hit hx (KTD.opened_int fun t=>⟨.int j,H3,I3.tok _,⟨t,rfl⟩,q⟩)
      · rw [if_neg (by simp [hx])] at q
        exact KTD.each_miss hx (ih (fun p hp=>hD p (List.mem_cons_of_mem _ hp)) q)
  exact fin T hT q3
end
end L2
end
section
namespace L2
open PySem PySem.Spec PyProof.Rows
structure vO (P:Program) (w:World) (K:PySem.W.Frag) (a:Addr) (ks:List Str):Prop where
  lk:∃ o,K.lookup a = some o
  tb:∀ h:Heap,K.In h→∃ D,StrTab P w h a D∧D.map (·.1) = ks.map PyData.str
def Itk (ks:List Str):It:=⟨fun i _=>i < ks.length,fun i H v H'=>H' = H∧∃ k,ks[i]? = some k∧v = .str k,fun i _=>i = ks.length⟩
theorem uB {kvs:List (Str × Value)} {D:List (PyData × PyData)} {ks:List Str} (h:PyProof.V.FlatPairs PyData.str kvs D) (e:D.map (·.1) = ks.map PyData.str):kvs.map (·.1) = ks:=by
  induction h generalizing ks with
  | nil =>
    cases ks with
    | nil=>rfl
    | cons k ks=>simp at e
  | cons _ _ ih =>
    cases ks with
    | nil=>simp at e
    | cons k ks =>
      simp only [List.map_cons,List.cons.injEq] at e
      obtain ⟨e1,e2⟩:=e
      injection e1 with e1
      rw [List.map_cons,ih e2,← e1]
theorem yl {P:Program} {w:World} {K:PySem.W.Frag} {tg:Expr} {it d:Addr} {ep:Nat} {kvs:List (Str × Value)} (hD:∀ h:Heap,K.In h→h.DictAt (strKind P w) d kvs ep) :
    lA P w K tg (Itk (kvs.map (·.1))) [it] it (fun i h=>h.IsKeyIter it d i kvs.length ep) where
  mem:=by simp
  obj:=fun i h st b hb=>by
    have e:b = it:=by simpa using hb
    subst e
    obtain ⟨o,e,c,d⟩:=st
    exact ⟨o,e,fun v z=>by rw [d] at z; cases z⟩
  keep:=fun i h h' st k=>by
    obtain ⟨o,e,r⟩:=st
    exact ⟨o,k it (by simp) o e,r⟩
  item:=by
    intro X hP hw hK hc i pins s σ H E I hf st hg
    subst hP hw hK
    obtain ⟨f0,f1,f2,f3,f4,f5⟩:=hf it (by simp)
    have hi:i < kvs.length:=by have z:i < (kvs.map (·.1)).length:=hg; simpa using z
    refine wpAny_pyNext_dict_item st (hD _ I.kIn) (List.getElem?_eq_getElem hi) fun key h' hk st' sb=>?_
    obtain ⟨t,rfl⟩:=Value.isStrOf_shape hk
    have I1:Inv X pins σ H { s with heap:=h' }:=I.turned (t':=s.toks) (fun b o hb e=>(sb.2 b hb).trans e) f0 f1 f3 f4 f5
    refine ⟨_,rfl,PyProof.Rows.letGo_keyiter (s':={ s with heap:=h' }) st' ⟨.str (kvs[i]).1,H,I1,⟨t,rfl⟩,⟨rfl,(kvs[i]).1,?_,rfl⟩,st',fun b hb=>(hf b hb).1⟩⟩
    rw [List.getElem?_map,List.getElem?_eq_getElem hi]
    rfl
  done:=by
    intro X hP hw hK hc i pins s σ H E I hf st hg
    subst hP hw hK
    obtain ⟨f0,f1,f2,f3,f4,f5⟩:=hf it (by simp)
    have hi:i = kvs.length:=by have z:i = (kvs.map (·.1)).length:=hg; simpa using z
    exact wpAny_pyNext_dict_end (I.ok.hd hc) st (hD _ I.kIn) (by simp [hi]) fun h' eb=>⟨rfl,I.turned (t':=s.toks) (fun b o hb e=>eb b o hb e) f0 f1 f3 f4 f5⟩
  self:=fun A i s Q E st q=>wpAny_pyIter_keyiter st q
section
variable {X:Cx} {tg:Expr}
def B2 (P:Program) (w:World) (K:PySem.W.Frag) (tl:TE):TI:=fun σ H R=>tl σ H fun v H1=>∃ a ks,v = .ref a∧vO P w K a ks∧R (Itk ks) H1
theorem Bj {l:Expr} {tl:TE} (hl:PE X l tl):PI X tg l (B2 X.prog X.w X.K tl):=by
  intro pins s σ H R I h
  refine thn (hl pins s σ H _ I h) fun v s1 ⟨xv,H1,I1,r1,q1⟩=>?_
  obtain ⟨a,ks,e,hK,q⟩:=q1
  subst e
  cases r1
  obtain ⟨D,T,hD⟩:=hK.tb _ I1.kIn
  obtain ⟨o,ho⟩:=hK.lk
  obtain ⟨lo,kvs,hdo,hf⟩:=T
  obtain ⟨ep,hat⟩:=hdo.dictAt
  have ek:=uB hf hD
  subst ek
  have hall:∀ h:Heap,X.K.In h→h.DictAt (strKind X.prog X.w) a kvs ep:=fun h x=>by
    obtain ⟨o',es,e1,r⟩:=hat
    have z:=I1.kIn _ _ ho
    rw [e1] at z
    cases z
    exact ⟨_,es,x _ _ ho,r⟩
  refine wpAny_pyIter_dict lo hat ?_
  refine ⟨s1.heap.objs.size,[s1.heap.objs.size],_,_,H1,rfl,I1.kept (t':=s1.toks) fun b o e=>Heap.get?_push_of_some _ e,yl hall,⟨_,Heap.get?_push_size _ rfl,rfl,rfl⟩,fun b hb=>?_,q⟩
  have e:b = s1.heap.objs.size:=by simpa using hb
  subst e
  exact I1.fpOk (Nat.le_refl _) (I1.hok.fresh (Nat.le_refl _))
end
end L2
end
section
namespace L2
open PySem PySem.Spec PyProof.Rows
def RC (K:PySem.W.Frag) (t:TE) (σ:St) (H:Hp) (es:List D):Prop:=∀ H1,Same H H1→∀ Q:VK,(∀ l ys H',H1 l = none→Same H1 H'→H' l = some (.lst ys)→Dats K H' es ys→Q (.ref l) H')→t σ H1 Q
section
variable {K:PySem.W.Frag} {σ:St} {H H':Hp} {d d':D} {ds es:List D} {t u ta tb te tl:TE} {tt uu:TT} {tA:TA} {i j:Int} {b c:Bool} {mk:St→St} {jj:Nat}
theorem RC.mono (h:RC K t σ H es) (e:Same H H'):RC K t σ H' es:=fun H1 s Q q=>h H1 (e.trans s) Q q
theorem RC.use {Q:VK} (h:RC K t σ H es) (q:∀ l ys H',H l = none→Same H H'→H' l = some (.lst ys)→Dats K H' es ys→Q (.ref l) H'):t σ H Q:=h H (Same.refl H) Q q
theorem hZ (h:RA K tA σ H es) (hl:es.length ≤ 1000:=by simp):RC K (kU tA) σ H es:=fun H1 s Q q =>
  mC (h.mono s) (fun p vs H2 s2 hp hd=>q p vs _ (s2.free hp) (s2.trans (aC hp _)) aq ((aC hp _).dats hd)) hl
theorem o8 {cs:List D} (h:RE K tl σ H (.tup cs)) (hc:cs.length ≤ 1000) (es:List D) (hl:es.length = cs.length) (h0:(mk σ).set jj none = mk σ)
    (turn:∀ H1 (i:Nat) c v d,Same H H1→cs[i]? = some c→es[i]? = some d→Dat K H1 c v→RE K te ((mk σ).set jj (some v)) H1 d):RC K (fT (yR K tl) mk (cf jj) eV te) σ H es:=fun H1 s Q q =>
  nK (K:=K) (h.mono s) hc es hl h0 (fun H2 i c v d s2=>turn H2 i c v d (s.trans s2)) (fun l ys H2 hl s2 hy hd=>q l ys H2 hl s2 hy hd)
theorem Bq {x:Str} (h:RE K tl σ H (.str x)) (hc:x.cps.size ≤ 1000) (es:List D) (hl:es.length = x.cps.size) (h0:(mk σ).set jj none = mk σ)
    (turn:∀ H1 (i:Nat) c d,Same H H1→x.cps[i]? = some c→es[i]? = some d→RE K te ((mk σ).set jj (some (.str ⟨#[c]⟩))) H1 d):RC K (fT (B1 tl) mk (cf jj) eV te) σ H es:=fun H1 s Q q=>by
  refine (h.mono s).use fun v4 H4 s4 q4=>?_
  have e:=q4.strE
  subst e
  refine ⟨x,rfl,?_⟩
  refine gH (K:=K) (Q:=Q) (n:=x.cps.size) (item:=fun i=>.str ⟨#[x.cps.getD i 0]⟩) (fun i H' s hi=>⟨hi,fun v H'' y=>⟨y.1,?_⟩⟩) (fun H' s=>rfl) h0 es hl hc (fun i d hi=>?_) (fun l ys H5 hl5 s5=>q l ys H5 (s4.free hl5) (s4.trans s5))
  · obtain ⟨_,c,hc,e⟩:=y
    rw [e,Array.getD_eq_getD_getElem?,hc]
    rfl
  · have hi':i < es.length:=(List.getElem?_eq_some_iff.mp hi).1
    have hc:x.cps[i]? = some (x.cps.getD i 0):=by
      rw [Array.getD_eq_getD_getElem?,Array.getElem?_eq_getElem (by omega)]
      rfl
    exact turn H4 i _ d (s.trans s4) hc hi
theorem Br {P:Program} {w:World} {a:Addr} {ks:List Str} (hK:vO P w K a ks) (hc:ks.length ≤ 1000) (es:List D) (hl:es.length = ks.length) (h0:(mk σ).set jj none = mk σ)
    (turn:∀ H1 (i:Nat) k d,Same H H1→ks[i]? = some k→es[i]? = some d→RE K te ((mk σ).set jj (some (.str k))) H1 d):RC K (fT (B2 P w K (tC (.ref a))) mk (cf jj) eV te) σ H es:=fun H1 s Q q=>by
  refine ⟨a,ks,rfl,hK,?_⟩
  refine gH (K:=K) (Q:=Q) (n:=ks.length) (item:=fun i=>.str (ks.getD i "")) (fun i H' s hi=>⟨hi,fun v H'' y=>⟨y.1,?_⟩⟩) (fun H' s=>rfl) h0 es hl hc (fun i d hi=>?_) q
  · obtain ⟨_,k,hk,e⟩:=y
    rw [e,List.getD_eq_getElem?_getD,hk]
    rfl
  · have hi':i < es.length:=(List.getElem?_eq_some_iff.mp hi).1
    have hk:ks[i]? = some (ks.getD i ""):=by
      rw [List.getD_eq_getElem?_getD,List.getElem?_eq_getElem (by omega)]
      rfl
    exact turn H1 i _ d s hk hi
theorem zA {cs:List D} (h:RC K tl σ H cs) (hc:cs.length ≤ 1000) (es:List D) (hl:es.length = cs.length) (h0:(mk σ).set jj none = mk σ)
    (turn:∀ H1 (i:Nat) c v d,Same H H1→cs[i]? = some c→es[i]? = some d→Dat K H1 c v→RE K te ((mk σ).set jj (some v)) H1 d):RC K (fT (nB K tl) mk (cf jj) eV te) σ H es:=fun H1 s Q q=>by
  refine (h.mono s).use fun l4 ys4 H4 hl4 s4 hy4 hd4=>?_
  have ll:=hd4.length
  refine ⟨l4,rfl,⟨ys4,SqL.of hy4⟩,?_⟩
  refine gH (K:=K) (Q:=Q) (n:=ys4.length) (item:=fun i=>ys4.getD i .non) (fun i H' s hi=>oA i H' (SqL.of (s _ _ hy4)) hi) (fun H' s=>⟨ys4,SqL.of (s _ _ hy4),Nat.le_refl _⟩) h0 es (by omega) (by omega) (fun i d hi=>?_) (fun l ys H5 hl5 s5=>q l ys H5 (s4.free hl5) (s4.trans s5))
  have hi':i < es.length:=(List.getElem?_eq_some_iff.mp hi).1
  have hic:i < cs.length:=by omega
  obtain ⟨vz,ez,hz⟩:=hd4.get (List.getElem?_eq_getElem hic)
  have q:=turn H4 i cs[i] vz d (s.trans s4) (List.getElem?_eq_getElem hic) hi hz
  rw [List.getD_eq_getElem?_getD,ez]
  exact q
theorem hW {R:List D→List D→Prop} {E:XK} (h:RA K tA σ H ds) (e:R ds es):RC K (gQ (iz K R) [] E tA) σ H es:=fun H1 s Q q =>
  h H1 s _ fun vs H2 s2 q2=>⟨ds,es,by rw [List.append_nil]; exact q2,e,fun r us H3 s3 hr hr0 hd=>q r us H3 (s2.free hr0) (s2.trans s3) hr hd⟩
theorem iT {bs:List Bool} (h:RC K t σ H (bs.map D.bl)):RE K (tCB (fun xs H Q=>∃ (l:Addr) (bs:List Bool),xs = [.ref l]∧SqL K H l (bs.map V.bl)∧Q (.bl (bs.all id)) H) (bB t cH)) σ H (.bl (bs.all id)):=fun H1 s Q q =>
  gj ((h.mono s).use fun l ys H' _ s' hy hd=>⟨l,bs,rfl,by rw [← tj hd]; exact SqL.of hy,q _ _ s' (Dat.blI _)⟩)
theorem zC {bs:List Bool} (h:RC K t σ H (bs.map D.bl)):RE K (tCB (fun xs H Q=>∃ (l:Addr) (bs:List Bool),xs = [.ref l]∧SqL K H l (bs.map V.bl)∧Q (.bl (bs.any id)) H) (bB t cH)) σ H (.bl (bs.any id)):=fun H1 s Q q =>
  gj ((h.mono s).use fun l ys H' _ s' hy hd=>⟨l,bs,rfl,by rw [← tj hd]; exact SqL.of hy,q _ _ s' (Dat.blI _)⟩)
theorem vt (h:RC K t σ H es):RE K (tCB (fun xs H Q=>∃ p ys,xs = [.ref p]∧((SqL K H p ys∧∀ l,H l = none→Q (.ref l) (upd H l (.tup ys)))∨(SqT K H p ys∧Q (.ref p) H))) (bB t cH)) σ H (.tup es):=fun H1 s Q q =>
  gj ((h.mono s).use fun l ys H' _ s' hy hd=>⟨l,ys,rfl,.inl ⟨SqL.of hy,fun p hp=>q _ _ (s'.trans (aC hp _)) (Dat.tupI (SqT.of aq) ((aC hp _).dats hd))⟩⟩)
theorem vv (h:RE K t σ H (.tup es)):RE K (tCB (fun xs H Q=>∃ p ys,xs = [.ref p]∧((SqL K H p ys∧∀ l,H l = none→Q (.ref l) (upd H l (.tup ys)))∨(SqT K H p ys∧Q (.ref p) H))) (bB t cH)) σ H (.tup es):=fun H1 s Q q =>
  gj ((h.mono s).use fun v H' s' hd=>by
    obtain ⟨a,vs,e,hq,hds⟩:=hd.tupE
    subst e
    exact ⟨a,vs,rfl,.inr ⟨hq,q _ _ s' (Dat.tupI hq hds)⟩⟩)
theorem zE (h:RC K t σ H es):RE K (tCB (fun xs H Q=>∃ p ys,xs = [.ref p]∧(SqL K H p ys∨SqT K H p ys)∧Q (.int ys.length) H) (bB t cH)) σ H (.int es.length):=fun H1 s Q q =>
  gj ((h.mono s).use fun l ys H' _ s' hy hd=>⟨l,ys,rfl,.inl (SqL.of hy),by rw [← hd.length]; exact q _ _ s' (Dat.intI _)⟩)
theorem zF {x:Str} (h:RE K t σ H (.str x)) (hx:x.length ≤ sizeLine):RE K (tCB (fun xs H Q=>∃ z:Str,xs = [.str z]∧z.length ≤ sizeLine∧Q (.int z.length) H) (bB t cH)) σ H (.int x.length):=fun H1 s Q q =>
  gj ((h.mono s).use fun v H' s' hd=>by
    rw [hd.strE]
    exact ⟨x,rfl,hx,q _ _ s' (Dat.intI _)⟩)
theorem fg {us:TS} {En:Ends} {k:Nat} (h:RC K t σ H es) (q:∀ l ys H',H l = none→Same H H'→H' l = some (.lst ys)→Dats K H' es ys→us En (σ.set k (some (.ref l))) H'):jS (m5 t (cf k)) us En σ H:=h.use q
theorem va {tc:TE} {x y z:Str} {p q':Str→Str→Bool} (h1:RE K ta σ H (.str x)) (h2:RE K tb σ H (.str y)) (h3:p x y = true→RE K tc σ H (.str z)) :
    RE K (pE (fun u v H Q=>∃ i j:Str,u = .str i∧v = .str j∧Q (.bl (p i j)) H) (fun u v H Q=>∃ i j:Str,u = .str i∧v = .str j∧Q (.bl (q' i j)) H) ta tb tc) σ H (.bl (p x y && q' y z)):=fun H1 s Q q =>
  h1 H1 s _ fun v H2 s2 q2=>h2 H2 (s.trans s2) _ fun w H3 s3 q3=>by
    refine ⟨x,y,q2.strE,q3.strE,p x y,rfl,?_⟩
    cases hp:p x y with
    | true =>
      simp only [if_true,Bool.true_and]
      exact h3 hp H3 (s.trans (s2.trans s3)) _ fun z' H4 s4 q4=>⟨y,z,q3.strE,q4.strE,q _ _ (s2.trans (s3.trans s4)) (by rw [hp]; exact Dat.blI _)⟩
    | false =>
      simp only [Bool.false_eq_true,if_false,Bool.false_and]
      exact q _ _ (s2.trans s3) (by rw [hp]; exact Dat.blI _)
theorem qY {k:Str} {a:Addr} {T:List (Str × KTD.Dat)} (h:RE K t σ H (.str k)) (ht:i4 K a T):RE K (tOp (fun x y H Q=>∃ k a T,x = .str k∧y = .ref a∧i4 K a T∧Q (.bl (!KTD.inKeys k T)) H) t (tC (.ref a))) σ H (.bl (!KTD.inKeys k T)):=fun H1 s Q q =>
  h H1 s _ fun v H2 s2 q2=>⟨k,a,T,q2.strE,rfl,ht,q _ _ s2 (Dat.blI _)⟩
theorem vk {k z:Str} {a:Addr} {T:List (Str × KTD.Dat)} (h:RE K t σ H (.str k)) (ht:i4 K a T) (hp:(T.all fun p=>KTD.plain p.2) = true) (e:KTD.datumAt k T = some (.flat (.str z))):RE K (tOp (tW K) (tC (.ref a)) t) σ H (.str z):=fun H1 s Q q =>
  h H1 s _ fun v H2 s2 q2=>⟨a,k,T,z,rfl,q2.strE,ht,hp,e,q _ _ s2 (Dat.strI _)⟩
def mJ (k:Str) (T:List (Str × KTD.Dat)) (i:Int):Int:=match KTD.datumAt k T with | some (.flat (.int j))=>j | _=>i
theorem vq {k:Str} {a:Addr} {T:List (Str × KTD.Dat)} (ht:i4 K a T) (h1:RE K ta σ H (.str k)) (h2:RE K tb σ H (.int i)) (hT:∀ p ∈ T,∃ j,p.2 = .flat (.int j)):RE K (uf K (tC (.ref a)) ta tb) σ H (.int (mJ k T i)):=fun H1 s Q q =>
  ⟨a,T,rfl,ht,h1 H1 s _ fun v H2 s2 q2=>h2 H2 (s.trans s2) _ fun w H3 s3 q3=>⟨k,i,(s3.dat q2).strE,q3.intE,hT,q _ _ (s2.trans s3) (Dat.intI _)⟩⟩
theorem yD {vs:List V} {lo hi:Nat}:pY vs (some (lo:Int)) (some (hi:Int)) = (vs.drop lo).take (hi - lo):=by
  unfold pY
  rw [HT.sIx_nat,HT.sIx_nat]
  apply List.ext_getElem?
  intro i
  simp only [List.getElem?_take,List.getElem?_drop]
  by_cases h1:i < hi - lo
  · rw [if_pos h1]
    by_cases h2:i < min hi vs.length - min lo vs.length
    · rw [if_pos h2]
      congr 1
      omega
    · rw [if_neg h2,List.getElem?_eq_none (by omega)]
  · rw [if_neg h1,if_neg (by omega)]
theorem Dats.dropN:∀ {n:Nat} {ds:List D} {vs:List V},Dats K H ds vs→Dats K H (ds.drop n) (vs.drop n)
  | 0,_,_,h=>h
  | n + 1,[],_,h=>by rw [h.nilE]; exact Dats.nil
  | n + 1,d :: ds,_,h=>by
    obtain ⟨v,r,e,h1,h2⟩:=h.consE
    subst e
    exact Dats.dropN (n:=n) h2
theorem Dats.takeN:∀ {n:Nat} {ds:List D} {vs:List V},Dats K H ds vs→Dats K H (ds.take n) (vs.take n)
  | 0,_,_,h=>by rw [List.take_zero,List.take_zero]; exact Dats.nil
  | n + 1,[],_,h=>by rw [h.nilE]; exact Dats.nil
  | n + 1,d :: ds,_,h=>by
    obtain ⟨v,r,e,h1,h2⟩:=h.consE
    subst e
    exact Dats.cons h1 (Dats.takeN (n:=n) h2)
theorem Bt {lo hi:Nat} (h:RE K t σ H (.tup ds)) (h1:RE K ta σ H (.int lo)) (h2:RE K tb σ H (.int hi)) (hl:1 ≤ lo) (hd:0 < ds.length):RE K (tSl (Bm K) t (ue ta) (ue tb)) σ H (.tup ((ds.drop lo).take (hi - lo))):=fun H1 s Q q =>
  h H1 s _ fun v H2 s2 q2=>h1 H2 (s.trans s2) _ fun v3 H3 s3 q3=>⟨lo,q3.intE,h2 H3 (s.trans (s2.trans s3)) _ fun v4 H4 s4 q4=>⟨hi,q4.intE,by
    obtain ⟨a,vs,ev,hq,hds⟩:=((s3.trans s4).dat q2).tupE
    have ll:=hds.length
    refine ⟨a,vs,ev,hq,fun z=>?_,fun p hp=>?_⟩
    · rw [HT.sIx_nat] at z
      omega
    · rw [yD]
      exact q _ _ (s2.trans (s3.trans (s4.trans (aC hp _)))) (Dat.tupI (SqT.of aq) ((aC hp _).dats (Dats.takeN (Dats.dropN hds))))⟩⟩
end
mutual
def eT (K:PySem.W.Frag):D→Value→Bool
  | .non,u=>(match u with | .none=>true | _=>false)
  | .bl b,u=>(match u with | .bool c=>b == c | _=>false)
  | .int i,u=>(match u with | .int j _=>i == j | _=>false)
  | .str x,u=>(match u with | .str y _=>x == y | _=>false)
  | .tup ds,u=>(match u with | .ref a=>(match K.lookup a with | some ⟨.type "tuple",_,.seq its _,_⟩=>decide (its.size ≤ 1000) && j4 K ds its.toList | _=>false) | _=>false)
  | .lst,_=>false
def j4 (K:PySem.W.Frag):List D→List Value→Bool
  | [],us=>us.isEmpty
  | d :: ds,us=>(match us with | u :: r=>eT K d u && j4 K ds r | []=>false)
end
mutual
theorem kK {K:PySem.W.Frag} (H:Hp):∀ (d:D) (u:Value),eT K d u = true→∃ v,RelV v u∧Dat K H d v
  | .non,u,h=>by
    unfold eT at h
    cases u <;> first | (exact ⟨.non,rfl,Dat.nonI⟩) | cases h
  | .bl b,u,h=>by
    unfold eT at h
    cases u <;> first | cases h | skip
    rename_i c
    have e:b = c:=by simpa using h
    subst e
    exact ⟨.bl b,rfl,Dat.blI _⟩
  | .int i,u,h=>by
    unfold eT at h
    cases u <;> first | cases h | skip
    rename_i j t
    have e:i = j:=by simpa using h
    subst e
    exact ⟨.int i,⟨t,rfl⟩,Dat.intI _⟩
  | .str x,u,h=>by
    unfold eT at h
    cases u <;> first | cases h | skip
    rename_i y t
    have e:x = y:=by simpa using h
    subst e
    exact ⟨.str x,⟨t,rfl⟩,Dat.strI _⟩
  | .tup ds,u,h=>by
    unfold eT at h
    cases u <;> first | cases h | skip
    rename_i a
    dsimp only at h
    split at h
    · rename_i od its n sl e
      rw [Bool.and_eq_true] at h
      obtain ⟨vs,r,hd⟩:=gZ H ds its.toList h.2
      refine ⟨.ref a,rfl,Dat.tupI (.inr ⟨_,its,n,e,rfl,rfl,?_,r⟩) hd⟩
      exact Nat.le_trans (of_decide_eq_true h.1) (by decide)
    · cases h
  | .lst,u,h=>by unfold eT at h; cases h
theorem gZ {K:PySem.W.Frag} (H:Hp):∀ (ds:List D) (us:List Value),j4 K ds us = true→∃ vs,Vals vs us∧Dats K H ds vs
  | [],us,h=>by
    unfold j4 at h
    cases us with
    | nil=>exact ⟨[],.nil,Dats.nil⟩
    | cons u r=>cases h
  | d :: ds,us,h=>by
    unfold j4 at h
    cases us with
    | nil=>cases h
    | cons u r =>
      dsimp only at h
      rw [Bool.and_eq_true] at h
      obtain ⟨v,r1,h1⟩:=kK H d u h.1
      obtain ⟨vs,r2,h2⟩:=gZ H ds r h.2
      exact ⟨v :: vs,.cons r1 r2,Dats.cons h1 h2⟩
end
theorem Cz {K:PySem.W.Frag} {ds:List D} {a:Addr} (h:eT K (.tup ds) (.ref a) = true) (H:Hp):Dat K H (.tup ds) (.ref a):=by
  obtain ⟨v,r,hd⟩:=kK H _ _ h
  obtain ⟨b,vs,e,_⟩:=id hd.tupE
  subst e
  have z:Value.ref a = .ref b:=r
  cases z
  exact hd
theorem my {K:PySem.W.Frag} {σ:St} {H:Hp} {ds:List D} {a:Addr} (h:eT K (.tup ds) (.ref a) = true):RE K (tC (.ref a)) σ H (.tup ds):=fun H1 _ Q q=>q _ _ (Same.refl _) (Cz h H1)
end L2
end
section
namespace L2
open PySem PySem.Spec PyProof.Rows
section
variable {X:Cx}
theorem wt:fM X (.type "range") (fun xs H Q=>∃ n:Nat,xs = [.int n]∧∀ p,H p = none→Q (.ref p) (upd H p (.rng 0 n))):=by
  intro pins s σ H xs us Q I r h
  obtain ⟨n,rfl,q⟩:=h
  obtain ⟨u,rfl,ru⟩:=eY r
  obtain ⟨t,rfl⟩:=ru
  refine call_range_1 ⟨.ref s.heap.objs.size,_,I.laid (fun b o e=>Heap.get?_push_of_some _ e) (Nat.le_refl _) (show ObjOk X.prog X.w _ _ _ (.rng 0 n) from ⟨_,_,_,Heap.get?_push_size _ rfl⟩),rfl,q _ (I.hok.fresh (Nat.le_refl _))⟩
theorem yr {n:Nat} {acc:Array Value} (h:ItemsOf (fun i v=>∃ t,v = .int ((0:Int) + (i:Nat) * 1) t) acc n):Vals ((List.range n).map fun i:Nat=>V.int i) acc.toList:=by
  obtain ⟨hs,hi⟩:=h
  have all:∀ (l:List Value) (k:Nat),(∀ (j:Nat) (v:Value),l[j]? = some v→∃ t,v = Value.int ((0:Int) + ((k + j:Nat):Int) * 1) t)→Vals ((List.range' k l.length).map fun i:Nat=>V.int i) l:=by
    intro l
    induction l with
    | nil=>intro k _; exact .nil
    | cons u l ih =>
      intro k hj
      rw [List.length_cons,List.range'_succ,List.map_cons]
      refine .cons ?_ (ih (k + 1) fun j v e=>?_)
      · obtain ⟨t,e⟩:=hj 0 u rfl
        refine ⟨t,?_⟩
        rw [e]
        congr 1
        simp
      · obtain ⟨t,e'⟩:=hj (j + 1) v (by simpa using e)
        refine ⟨t,?_⟩
        rw [e']
        congr 1
        have:k + (j + 1) = k + 1 + j:=by omega
        rw [this]
  have q:=all acc.toList 0 fun j v e=>by
    rw [Nat.zero_add]
    exact hi j v (by simpa using e)
  rw [List.range_eq_range']
  rw [Array.length_toList,hs] at q
  exact q
theorem mV (hc:X.calm = true):fM X (.type "list") (fun xs H Q=>∃ (p:Addr) (n:Nat),xs = [.ref p]∧H p = some (.rng 0 n)∧n ≤ 1000∧∀ l,H l = none→Q (.ref l) (upd H l (.lst ((List.range n).map fun i:Nat=>V.int i)))):=by
  intro pins s σ H xs us Q I r h
  obtain ⟨p,n,rfl,hp,hn,q⟩:=h
  obtain ⟨u,rfl,rx⟩:=eY r
  cases rx
  obtain ⟨t,u,v,e⟩:=(show ObjOk X.prog X.w H s.heap p (.rng 0 n) from I.hok p _ hp)
  refine call_list_range (n:=n) (I.ok.hd hc) (show IsRange s.heap p 0 n 1 t u v from e) (small_one (by omega) (by omega) (by omega) (by omega)) ?_ (by omega) fun h' tk acc' c' kp e' hacc=>?_
  · rw [rangeSize_one]
    split <;> omega
  · have hv:=yr hacc
    have hl:=hv.length
    refine ⟨.ref s.heap.objs.size,_,I.laid kp (Nat.le_refl _) (show ObjOk X.prog X.w _ h' _ (.lst _) from ⟨?_,acc'.toList,c',hv,by simpa using e'⟩),rfl,q _ (I.hok.fresh (Nat.le_refl _))⟩
    simp only [List.length_map,List.length_range]
    exact Nat.le_trans hn (by decide)
def BJ (K:PySem.W.Frag) (a:Addr) (xs:List V):Prop:=∃ (its:Array Value) (n:Nat),K.lookup a = some ⟨.type "list",none,.seq its n,#[]⟩∧its.size ≤ 1000∧Vals xs its.toList
def aLst (K:PySem.W.Frag) (H:Hp) (a:Addr) (xs:List V):Prop:=H a = some (.lst xs)∨BJ K a xs
theorem aLst.sqL {K:PySem.W.Frag} {H:Hp} {a:Addr} {xs:List V} (h:aLst K H a xs):SqL K H a xs:=by
  rcases h with h | ⟨its,n,e,hz,r⟩
  · exact SqL.of h
  · exact .inr ⟨_,its,n,e,rfl,rfl,rfl,Nat.le_trans hz (by decide),r⟩
theorem aLst.at {pins:List (Addr × Obj)} {σ:St} {H:Hp} {s:Shared} {a:Addr} {xs:List V} (I:Inv X pins σ H s) (h:aLst X.K H a xs):∃ (its:List Value) (n:Nat),Vals xs its∧s.heap.get? a = some { cls:=.type "list",data:=.seq its.toArray n }:=by
  rcases h with h | ⟨its,n,e,hz,r⟩
  · obtain ⟨z,its,n,r,hl,e⟩:=I.lstM h
    exact ⟨its,n,r,e⟩
  · exact ⟨its.toList,n,r,by simpa using I.kIn _ _ e⟩
def Ai (K:PySem.W.Frag):R2:=fun x y H Q=>∃ l b xs zs,x = .ref l∧y = .ref b∧aLst K H l xs∧aLst K H b zs∧xs.length + zs.length ≤ 1000∧∀ p,H p = none→Q (.ref p) (upd H p (.lst (xs ++ zs)))
theorem hE:OpR X (binaryOp .Add) (Ai X.K):=by
  intro pins s σ H x y v u Q I rx ry h
  obtain ⟨l,b,xs,zs,rfl,rfl,hH,hB,hz,q⟩:=h
  cases rx
  cases ry
  obtain ⟨its,n,r,e⟩:=hH.at I
  obtain ⟨its2,n2,r2,e2⟩:=hB.at I
  have l1:=r.length
  have l2:=r2.length
  have hz':xs.length + zs.length ≤ sizeLine:=Nat.le_trans hz (by decide)
  refine PySem.P.add_list e e2 ?_ (by rw [List.size_toArray,List.size_toArray]; omega)
  have ea:its.toArray ++ its2.toArray = (its ++ its2).toArray:=by simp
  rw [ea]
  exact ⟨.ref _,_,I.lnew (t':=s.toks) (r.append r2) (by rw [List.length_append]; omega),rfl,q _ I.fresh⟩
end
section
variable {K:PySem.W.Frag} {σ:St} {H:Hp} {t:TE} {n:Nat}
def lW (K:PySem.W.Frag) (ds:List D) (a:Addr):Bool:=match K.lookup a with
  | some ⟨.type "list",none,.seq its _,sl⟩=>decide (its.size ≤ 1000) && (sl.isEmpty && j4 K ds its.toList)
  | _=>false
theorem oI {K:PySem.W.Frag} {ds:List D} {a:Addr} (h:lW K ds a = true) (H:Hp):∃ vs,BJ K a vs∧Dats K H ds vs:=by
  unfold lW at h
  split at h
  · rename_i its n sl e
    rw [Bool.and_eq_true,Bool.and_eq_true] at h
    obtain ⟨vs,r,hd⟩:=gZ H ds its.toList h.2.2
    have es:sl = #[]:=by simpa using h.2.1
    subst es
    exact ⟨vs,⟨its,n,e,of_decide_eq_true h.1,r⟩,hd⟩
  · cases h
theorem o7 (h:RE K t σ H (.int n)) (hn:n ≤ 1000):RC K (tCB (fun xs H Q=>∃ (p:Addr) (n:Nat),xs = [.ref p]∧H p = some (.rng 0 n)∧n ≤ 1000∧∀ l,H l = none→Q (.ref l) (upd H l (.lst ((List.range n).map fun i:Nat=>V.int i))))
    (bB (tCB (fun xs H Q=>∃ n:Nat,xs = [.int n]∧∀ p,H p = none→Q (.ref p) (upd H p (.rng 0 n))) (bB t cH)) cH)) σ H ((List.range n).map fun i:Nat=>D.int i):=fun H1 s Q q =>
  gj (gj ((h.mono s).use fun v H2 s2 q2=>by
    rw [q2.intE]
    refine ⟨n,rfl,fun p hp=>⟨p,n,rfl,aq,hn,fun l hl=>?_⟩⟩
    have s3:=s2.trans ((aC hp (.rng 0 n)).trans (aC hl (.lst ((List.range n).map fun i:Nat=>V.int i))))
    refine q l _ _ ((s2.trans (aC hp _)).free hl) s3 aq ?_
    have z:∀ m:List Nat,Dats K (upd (upd H2 p (.rng 0 n)) l (.lst ((List.range n).map fun i:Nat=>V.int i))) (m.map fun i:Nat=>D.int i) (m.map fun i:Nat=>V.int i):=by
      intro m
      induction m with
      | nil=>exact Dats.nil
      | cons a m ih=>exact Dats.cons (Dat.intI _) ih
    exact z _))
end
end L2
end
section
namespace L2
open PySem PySem.Spec PyProof.Rows
structure Tri (l0 l1 l2:Addr) (H:Hp) (a b c:List V):Prop where
  h0:H l0 = some (.lst a)
  h1:H l1 = some (.lst b)
  h2:H l2 = some (.lst c)
  n01:l0 ≠ l1
  n02:l0 ≠ l2
  n12:l1 ≠ l2
def But3 (l0 l1 l2:Addr) (H H':Hp):Prop:=∀ b o,b ≠ l0→b ≠ l1→b ≠ l2→H b = some o→H' b = some o
section
variable {K:PySem.W.Frag} {l0 l1 l2:Addr} {H H' H2:Hp} {a b c a' b' c':List V} {v:V}
theorem Same.but3 (e:Same H H'):But3 l0 l1 l2 H H':=fun b o _ _ _ h=>e b o h
theorem But3.trans (x:But3 l0 l1 l2 H H') (y:But3 l0 l1 l2 H' H2):But3 l0 l1 l2 H H2:=fun b o n0 n1 n2 h=>y b o n0 n1 n2 (x b o n0 n1 n2 h)
theorem Tri.same (t:Tri l0 l1 l2 H a b c) (e:Same H H'):Tri l0 l1 l2 H' a b c:=⟨e _ _ t.h0,e _ _ t.h1,e _ _ t.h2,t.n01,t.n02,t.n12⟩
theorem But3.grow (e:But3 l0 l1 l2 H H') (t:Tri l0 l1 l2 H a b c) (t':Tri l0 l1 l2 H' a' b' c'):dv K H H':=by
  have key:∀ (x:Addr) (o:HO),H x = some o→(∀ xs,o ≠ .lst xs)→H' x = some o:=fun x o h ho =>
    e x o (fun z=>by rw [z,t.h0] at h; cases h; exact ho _ rfl) (fun z=>by rw [z,t.h1] at h; cases h; exact ho _ rfl) (fun z=>by rw [z,t.h2] at h; cases h; exact ho _ rfl) h
  refine ⟨fun x xs h=>?_,fun x xs h=>?_⟩
  · rcases h with (h | ⟨o,h⟩) | h
    · exact .inl (.inl (key _ _ h (fun _ z=>by cases z)))
    · exact .inl (.inr ⟨o,key _ _ h (fun _ z=>by cases z)⟩)
    · exact .inr h
  · by_cases z0:x = l0
    · rw [z0]; exact ⟨_,SqL.of t'.h0⟩
    by_cases z1:x = l1
    · rw [z1]; exact ⟨_,SqL.of t'.h1⟩
    by_cases z2:x = l2
    · rw [z2]; exact ⟨_,SqL.of t'.h2⟩
    refine ⟨xs,?_⟩
    rcases h with (h | ⟨o,h⟩) | h
    · exact .inl (.inl (e _ _ z0 z1 z2 h))
    · exact .inl (.inr ⟨o,e _ _ z0 z1 z2 h⟩)
    · exact .inr h
theorem Tri.p0 (t:Tri l0 l1 l2 H a b c):Tri l0 l1 l2 (upd H l0 (.lst (a ++ [v]))) (a ++ [v]) (b ++ []) (c ++ [])∧But3 l0 l1 l2 H (upd H l0 (.lst (a ++ [v]))):=by
  rw [List.append_nil,List.append_nil]
  exact ⟨⟨aq,by rw [aB (Ne.symm t.n01)]; exact t.h1,by rw [aB (Ne.symm t.n02)]; exact t.h2,t.n01,t.n02,t.n12⟩,fun x o n0 _ _ h=>by rw [aB n0]; exact h⟩
theorem Tri.p1 (t:Tri l0 l1 l2 H a b c):Tri l0 l1 l2 (upd H l1 (.lst (b ++ [v]))) (a ++ []) (b ++ [v]) (c ++ [])∧But3 l0 l1 l2 H (upd H l1 (.lst (b ++ [v]))):=by
  rw [List.append_nil,List.append_nil]
  exact ⟨⟨by rw [aB t.n01]; exact t.h0,aq,by rw [aB (Ne.symm t.n12)]; exact t.h2,t.n01,t.n02,t.n12⟩,fun x o _ n1 _ h=>by rw [aB n1]; exact h⟩
theorem Tri.p2 (t:Tri l0 l1 l2 H a b c):Tri l0 l1 l2 (upd H l2 (.lst (c ++ [v]))) (a ++ []) (b ++ []) (c ++ [v])∧But3 l0 l1 l2 H (upd H l2 (.lst (c ++ [v]))):=by
  rw [List.append_nil,List.append_nil]
  exact ⟨⟨by rw [aB t.n02]; exact t.h0,by rw [aB t.n12]; exact t.h1,aq,t.n01,t.n02,t.n12⟩,fun x o _ _ n2 h=>by rw [aB n2]; exact h⟩
theorem Tri.nil (t:Tri l0 l1 l2 H a b c):Tri l0 l1 l2 H (a ++ []) (b ++ []) (c ++ []):=by
  rw [List.append_nil,List.append_nil,List.append_nil]; exact t
theorem gk {te:TE} {us:TS} {En:Ends} {σ:St} {G:Hp} {j:Nat} {l:Addr} {xs:List V} {d:D} (h:RE K te σ G d) (hl:G l = some (.lst xs)) (hx:xs.length ≤ 900)
    (q:∀ y G',But l G G'→G' l = some (.lst (xs ++ [y]))→Dat K G' d y→us En σ G') (hv:σ[j]? = some (some (.ref l)):=by rfl):jS (rj (tBM K "list" o5 (eJ j) (bB te cH))) us En σ G:=by
  refine ⟨_,hv,.inl ⟨rfl,_,SqL.of hl⟩,h.use fun y H1 s1 q1=>?_⟩
  have hl1:=s1 _ _ hl
  refine ⟨l,xs,y,rfl,rfl,hl1,bQ (by omega),?_⟩
  have b:But l H1 (upd H1 l (.lst (xs ++ [y]))):=But.upd (Same.refl _).but
  exact q y _ (s1.but.trans b) aq (Dat.mono (b.grow hl1 aq) _ q1)
theorem ku {σ:St} {j:Nat} {f l:Addr} {x:Str} {kvs:List (Key × V)} {ys:List V} {es:List D} (hf:H f = some (.dK kvs)) (hk:jt kvs (Sum.inr x) = some (.ref l)) (hl:H l = some (.lst ys)) (hd:Dats K H es ys) (hv:σ[j]? = some (some (.ref f)):=by rfl) :
    RE K (tCB (fun xs H Q=>∃ p ys,xs = [.ref p]∧((SqL K H p ys∧∀ l,H l = none→Q (.ref l) (upd H l (.tup ys)))∨(SqT K H p ys∧Q (.ref p) H))) (bB (Aq (eJ j) (tC (.str x))) cH)) σ H (.tup es):=fun H1 s Q q =>
  ⟨_,hv,f,.ref l,rfl,by have g:=DGet.k (k:=Sum.inr x) (s _ _ hf); rw [hk] at g; exact g,l,ys,rfl,.inl ⟨SqL.of (s _ _ hl),fun p hp=>q _ _ (aC hp _) (Dat.tupI (SqT.of aq) ((aC hp _).dats (s.dats hd)))⟩⟩
end
end L2
end
section
namespace L2
open PySem PySem.Spec PyProof.Rows
theorem oF:∀ {ns:List Int} {us:List Value},Vals (ns.map V.int) us→IntsAre us ns
  | [],us,h=>by cases h; exact .nil
  | n :: ns,us,h=>by
    cases h with
    | cons r t =>
      obtain ⟨tk,rfl⟩:=r
      exact .cons n tk (oF t)
section
variable {X:Cx}
theorem pT (hc:X.calm = true):fM X (.builtin "sum") (fun xs H Q=>∃ (l:Addr) (ns:List Int),xs = [.ref l]∧SqL X.K H l (ns.map V.int)∧Q (.int ns.sum) H):=by
  intro pins s σ H xs us Q I r h
  obtain ⟨l,ns,rfl,hq,q⟩:=h
  obtain ⟨u,rfl,ru⟩:=eY r
  cases ru
  obtain ⟨its,rv,p,hz⟩:=I.list hq
  have hi:=oF rv
  obtain ⟨zs,hzs⟩:=hi.allInts.items
  refine sum_intListG (I.ok.hd hc) (show s.heap.IsList l (intItems zs) from hzs ▸ p.isList) fun h' tk t' hk=>?_
  have a1:zs.toList.map (·.1) = ns:=by
    have z:=hi.numsOf
    rw [show its = (intItems zs).toList by rw [← hzs]] at z
    rw [← z,nums_intItems]
  have a2:preSum (numAt zs) zs.size = ns.sum:=by
    rw [preSum_eq,← a1,List.take_of_length_le (by simp)]
  rw [a2]
  exact ⟨.int ns.sum,H,I.kept (t':=tk) hk,⟨t',rfl⟩,q⟩
def Itv (K:PySem.W.Frag) (a:Addr) (xs:List V):It:=⟨fun i H=>i < xs.length∧SqL K H a xs,fun i H x H'=>H' = H∧xs[xs.length - 1 - i]? = some x,fun i _=>i = xs.length⟩
theorem yk {P:Program} {w:World} {K:PySem.W.Frag} {tg:Expr} (a it:Addr) (xs:List V):lA P w K tg (Itv K a xs) [it] it (fun i h=>h.IsRevIter it a ((xs.length:Int) - 1 - (i:Int))) where
  mem:=by simp
  obj:=fun i h st b hb=>by
    have e:b = it:=by simpa using hb
    subst e
    obtain ⟨o,e,c,d⟩:=st
    exact ⟨o,e,fun v z=>by rw [d] at z; cases z⟩
  keep:=fun i h h' st k=>by
    obtain ⟨o,e,r⟩:=st
    exact ⟨o,k it (by simp) o e,r⟩
  item:=by
    intro X hP hw hK hc i pins s σ H E I hf st hg
    subst hP hw hK
    obtain ⟨hi,hq⟩:=hg
    obtain ⟨its,rv,p,hz⟩:=I.list hq
    obtain ⟨f0,f1,f2,f3,f4,f5⟩:=hf it (by simp)
    have lr:=rv.length
    have hx:xs[xs.length - 1 - i]? = some (xs[xs.length - 1 - i]'(by omega)):=List.getElem?_eq_getElem (by omega)
    obtain ⟨u,hu,ru⟩:=rv.get hx
    have e1:(xs.length:Int) - 1 - (i:Int) = ((xs.length - 1 - i:Nat):Int):=by omega
    have st1:s.heap.IsRevIter it a ((xs.length - 1 - i:Nat):Int):=by rw [← e1]; exact st
    refine wpAny_pyNext_rev_item st1 p.isList (x:=u) (by simpa using hu) fun h' st' sb=>?_
    have e2:((xs.length - 1 - i:Nat):Int) - 1 = (xs.length:Int) - 1 - ((i + 1:Nat):Int):=by omega
    rw [e2] at st'
    have I1:Inv X pins σ H { s with heap:=h' }:=I.turned (t':=s.toks) (fun b o hb e=>(sb.2 b hb).trans e) f0 f1 f3 f4 f5
    obtain ⟨o,e,c,d⟩:=id st'
    exact ⟨u,rfl,qu (s:={ s with heap:=h' }) e c d (by decide) ⟨_,H,I1,ru,⟨rfl,hx⟩,st',fun b hb=>(hf b hb).1⟩⟩
  done:=by
    intro X hP hw hK hc i pins s σ H E I hf st hg
    subst hP hw hK
    obtain ⟨f0,f1,f2,f3,f4,f5⟩:=hf it (by simp)
    have hg':i = xs.length:=hg
    subst hg'
    have e1:(xs.length:Int) - 1 - (xs.length:Int) = -1:=by omega
    rw [e1] at st
    exact wpAny_pyNext_rev_end (I.ok.hd hc) st fun h' eb=>⟨rfl,I.turned (t':=s.toks) (fun b o hb e=>eb b o hb e) f0 f1 f3 f4 f5⟩
  self:=fun A i s Q E st q=>wpAny_pyIter_revIter st q
variable {tg:Expr}
def B0 (K:PySem.W.Frag) (ta:TA):TI:=fun σ H R=>ta σ H fun vs H1=>∃ a xs,vs = [.ref a]∧SqL K H1 a xs∧R (Itv K a xs) H1
theorem Bh {a:Expr} {ta:TA} {p pos:Pos} (hg:Gl X "reversed") (hm:X.mg "reversed" = none) (ha:PA X [a] ta) (hs:starEach [a] X.env = [(false,eval a X.env)]:=by rfl):PI X tg (.Call (.Name "reversed" p) [a] [] pos) (B0 X.K ta):=by
  intro pins s σ H R I h
  refine Call_ (jm I hg hm pR (PyProof.Rows.callWith_type1 (thn (ha pos pins s σ H _ I h) fun us s1 ⟨vs,H1,I1,r1,q1⟩=>?_) hs rfl))
  obtain ⟨l,xs,e,hq,q⟩:=q1
  subst e
  obtain ⟨u,rfl,ru⟩:=eY r1
  cases ru
  obtain ⟨its,rv,pl,hz⟩:=I1.list hq
  have lr:=rv.length
  refine call_reversed_list pl.isList ?_
  have st:(s1.heap.push (revObj l ((its.toArray.size:Int) - 1))).IsRevIter s1.heap.objs.size l ((xs.length:Int) - 1 - ((0:Nat):Int)):=⟨_,Heap.get?_push_size _ rfl,rfl,by simp [revObj,lr]⟩
  refine wpAny_pyIter_revIter (s:={ s1 with heap:=s1.heap.push (revObj l ((its.toArray.size:Int) - 1)) }) st ?_
  refine ⟨s1.heap.objs.size,[s1.heap.objs.size],_,_,H1,rfl,I1.kept (t':=s1.toks) fun b o e=>Heap.get?_push_of_some _ e,yk l _ xs,st,fun b hb=>?_,q⟩
  have e:b = s1.heap.objs.size:=by simpa using hb
  subst e
  exact I1.fpOk (Nat.le_refl _) (I1.hok.fresh (Nat.le_refl _))
end
end L2
end
section
namespace L2
open PySem PySem.Spec PyProof.Rows
def met (f:Nat→Str) (i:Nat):List Str:=((List.range i).map f).foldl step_dedup []
theorem iK (f:Nat→Str) (i:Nat):met f (i + 1) = step_dedup (met f i) (f i):=by unfold met; rw [List.range_succ,List.map_append,List.foldl_append]; rfl
theorem ou (l:List Str) (x:Str):(step_dedup l x).length = if l.any (· == x) then l.length else l.length + 1:=by unfold step_dedup; split <;> simp
theorem tE (l:List Str) (x y:Str):(step_dedup l x).any (· == y) = (l.any (· == y) || decide (y = x)):=by
  unfold step_dedup
  split
  · rename_i h
    by_cases e:y = x
    · subst e; rw [h]; rfl
    · rw [decide_eq_false e,Bool.or_false]
  · rw [List.any_append]
    congr 1
    by_cases e:y = x
    · subst e; simp
    · have e':¬ x = y:=fun z=>e z.symm
      simp [e,e']
theorem oJ (f:Nat→Str):∀ i,(met f i).length ≤ i
  | 0=>by simp [met]
  | i + 1=>by rw [iK,ou]; have:=oJ f i; split <;> omega
theorem yp {P:Program} {w:World} {A:Around} {R:Result→Shared→Prop} {it:Addr} {fp wr:List Addr} {G:Array GenState→Array GenState→Prop} {n:Nat} {Pv:Nat→Value→Prop} {St:Nat→Shared→Prop}
    (W:WalksS P w A.in1 it fp wr G n Pv St) (sa:Addr) (nsa:sa ∉ fp) (f:Nat→Str) (hf:∀ i v,Pv i v→∃ t,v = .str (f i) t) (few:n + 1 < scanBound) :
    ∀ (m i:Nat) (s:Shared),n - i = m→i ≤ n→St i s→s.heap.SetOf (strKind P w) sa (fun y=>(met f i).any (· == y)) (met f i).length →
      (∀ s',Moved (sa :: wr) G s s'→s'.heap.SetOf (strKind P w) sa (fun y=>(met f n).any (· == y)) (met f n).length→R (.ok (.ret .none)) s')→codeAny (model P w) A (.builtin "set.update.loop" ⟨[.ref sa,.ref it],[]⟩) R s:=by
  have nw:sa ∉ wr:=fun z=>nsa (W.sub _ z)
  have more:∀ b ∈ wr,b ∈ sa :: wr:=fun b z=>List.mem_cons_of_mem _ z
  intro m
  induction m with
  | zero =>
    intro i s e1 e2 st so fin
    obtain rfl:i = n:=by omega
    refine codeAny_builtin PyProof.Rows.F.entry_set_update_loop ?_
    rw [Around.under_plainId PyProof.Rows.F.plain_set_update_loop _]
    show wpAny _ A.in1 (pyNext (.ref it) >>= _) _ _ s
    refine wpAny_bind (W.done s _ _ st fun s2 mv=>?_)
    show wpAny _ A.in1 (ret Value.none) _ _ s2
    obtain ⟨o,es,ep,tb,g,rest⟩:=so
    exact wpAny_pure (fin s2 (mv.mono more) ⟨o,es,ep,tb,mv.heap sa _ nw g,rest⟩)
  | succ m ih =>
    intro i s e1 e2 st so fin
    have lt:i < n:=by omega
    refine codeAny_builtin PyProof.Rows.F.entry_set_update_loop ?_
    rw [Around.under_plainId PyProof.Rows.F.plain_set_update_loop _]
    show wpAny _ A.in1 (pyNext (.ref it) >>= _) _ _ s
    refine wpAny_bind (W.item i s _ _ lt st fun v s2 pv st2 mv=>?_)
    obtain ⟨tk,rfl⟩:=hf i v pv
    have so2:s2.heap.SetOf (strKind P w) sa (fun y=>(met f i).any (· == y)) (met f i).length:=let ⟨o,es,ep,tb,g,rest⟩:=so; ⟨o,es,ep,tb,mv.heap sa _ nw g,rest⟩
    show wpAny _ A.in1 (holding [Value.str (f i) tk] (setAdd sa (.str (f i) tk)) >>= _) _ _ s2
    refine wpAny_bind (wpAny_holding ?_)
    unfold setAdd
    refine wpAny_holding (wpAny_bind ((strKind P w).pyHash (k:=f i) (strKind_is P w _ _) ?_))
    have rm:(met f i).length + 1 < scanBound:=by have:=oJ f i; omega
    refine wpAny_setAddHashed_of (knd:=strKind P w) (s:={ s2 with toks:=s2.toks + 1 }) (strKind_is P w _ _) rfl so2 rm fun h' sb so3=>?_
    have so4:h'.SetOf (strKind P w) sa (fun y=>(met f (i + 1)).any (· == y)) (met f (i + 1)).length:=SetOf_congr so3 (fun y=>by rw [iK,tE]) (by rw [iK,ou])
    refine wpAny_pure ⟨plainId_quiet PyProof.Rows.F.plain_set_update_loop _,ih (i + 1) _ (by omega) lt (W.frame _ s2 _ _ st2 (Nat.le_succ _) fun b z o g=>?_) so4 fun s3 mv3 so5=>?_⟩
    · rw [sb.2 b (fun q:b = sa=>nsa (by rw [← q]; exact z))]; exact g
    · refine fin s3 (Moved.trans W.gtrans ((mv.mono more).then_heap (Nat.le_succ _) fun b o z g=>?_) mv3) so5
      rw [sb.2 b (fun q:b = sa=>z (by rw [q]; exact List.mem_cons_self))]; exact g
abbrev pA (led:Bool):Obj:={ cls:=.type "set",dict:=none,data:=.set #[] 0 (.fresh 0 0 led) }
theorem uv {P:Program} {w:World} {A:Around} {E:Value→Shared→Prop} {s:Shared} {l:Addr} {items:Array Value} {f:Nat→Str} {Q:Value→Shared→Prop} (hh:A.handled = none) (hl:s.heap.IsList l items)
    (hi:∀ (i:Nat) (v:Value),items[i]? = some v→∃ t,v = .str (f i) t) (few:items.size + 1 < scanBound)
    (fin:∀ (h':Heap) (tk:Nat),h'.SetOf (strKind P w) s.heap.objs.size (fun y=>(met f items.size).any (· == y)) (met f items.size).length→(∀ b o,b < s.heap.objs.size→s.heap.get? b = some o→h'.get? b = some o)→Q (.ref s.heap.objs.size) { s with heap:=h',toks:=tk }) :
    wpAny (model P w) A (call (.type "set") [.ref l]) Q E s:=by
  obtain ⟨c,tl,mro⟩:=PySem.F.called_set.mro
  have made:=PySem.F.called_set.made
  have sub:=PySem.F.called_set.sub
  refine wpAny_call (codeAny_of_tree ?_)
  show wpAny _ _ (callAny (.type "set") _) _ _ _
  refine wpAny_pure ⟨Code.quiet_builtin _ (by decide +kernel),codeAny_builtin PySem.F.entry_type_call ?_⟩
  rw [Around.under_plain (weight_type_call_type "set" [.ref l] []) rfl]
  have k1:=PySem.F.called_set.notType
  have k2:=PySem.F.called_set.canCreate
  have k3:=PySem.F.typeCall_set_1 (.ref l)
  repeat (any_goals (first | assumption | wp_step))
  refine codeAny_mono (code_set_new_1 (.ref l) (E:=E) (Q₁:=fun obj s1=>∃ led:Bool,obj = .ref s.heap.objs.size∧s1 = { s with heap:=s.heap.push (pA led) }) fun led=>⟨led,rfl,rfl⟩) fun r s1 hr=>?_
  cases r with
  | error e=>exact hr
  | ok fl =>
    cases fl with
    | ret obj =>
      obtain ⟨led,rfl,rfl⟩:=hr
      have g0:(s.heap.push (pA led)).get? s.heap.objs.size = some (pA led):=Heap.get?_push_size _ rfl
      have ty:Shared.TypeIs { s with heap:=s.heap.push (pA led) } (.ref s.heap.objs.size) "set":=⟨_,g0,rfl⟩
      have k4:=PySem.F.called_set.init.lookup
      have k5:=PySem.F.called_set.init.bind (.ref s.heap.objs.size)
      repeat (any_goals (first | assumption | wp_step))
      refine codeAny_mono (codeAny_call_builtin (R:=wants (fun r s2=>r = .none∧∃ h' tk,s2 = { s with heap:=h',toks:=tk }∧h'.SetOf (strKind P w) s.heap.objs.size (fun y=>(met f items.size).any (· == y)) (met f items.size).length ∧
          (∀ b o,b < s.heap.objs.size→s.heap.get? b = some o→h'.get? b = some o)) E) PySem.F.called_set.init.plain PySem.F.entry_set_init (check_set_init_1 ty ?_)) fun r2 s2 hr2=>?_
      · obtain ⟨ol,g1,g2,nl,g3⟩:=hl
        obtain ⟨oc,od,ob,os⟩:=ol
        simp only at g2 g3
        subst g2; subst g3
        have g4:(s.heap.push (pA led)).get? l = some { cls:=.type "list",dict:=od,data:=.seq items nl,slots:=os }:=Heap.get?_push_of_some _ g1
        have m1:=PySem.F.sub_list_set
        have m2:=PySem.F.sub_list_frozenset
        have m3:(Value.type "list" == Value.type "dict") = false:=by decide
        have il:(s.heap.push (pA led)).IsList l items:=⟨_,g4,rfl,nl,rfl⟩
        unfold Builtin.«set.__init__» noKeywords Builtin.Frozenset.updateFrom
        generalize hPI:pyIter = PI
        wp_walk
        subst hPI
        refine wpAny_pyIter_list il (wpAny_bind (wpAny_runValue ?_))
        have ll:l < s.heap.objs.size:=Heap.lt_size g1
        have h3:A.in1.in1.in1.handled = none:=by simp [hh]
        have n1:l ≠ (s.heap.push (pA led)).objs.size:=by rw [Heap.size_push]; exact Nat.ne_of_lt (Nat.lt_succ_of_lt ll)
        have n2:s.heap.objs.size ∉ [(s.heap.push (pA led)).objs.size,l]:=by rw [Heap.size_push]; simp only [List.mem_cons,List.mem_singleton,List.not_mem_nil,or_false,not_or]; exact ⟨Nat.ne_of_lt (Nat.lt_succ_self _),Nat.ne_of_gt ll⟩
        refine yp ((Walks.list h3 _ l n1 items).toS) s.heap.objs.size n2 f hi few (items.size - 0) 0 _ (by omega) (Nat.zero_le _) ⟨⟨_,Heap.get?_push_size _ rfl,rfl,rfl⟩,(il.push _)⟩ ?so ?fi
        case so=>exact SetOf_congr ((setObjOf_fresh (knd:=strKind P w) led).setOf (Heap.get?_push_of_some _ g0) (by unfold scanBound; omega)) (fun _=>rfl) rfl
        case fi =>
          intro s' mv so
          obtain ⟨h',g',d',tk',os'⟩:=s'
          obtain rfl:g' = s.gens:=mv.gens
          obtain rfl:d' = s.drawn:=mv.drawn
          obtain rfl:os' = s.os:=mv.os
          show wpAny _ _ _ _ _ _
          refine wpAny_pure ?_
          show wpAny _ _ (ret Value.none) _ _ _
          refine wpAny_pure ⟨rfl,h',tk',rfl,so,fun b o z g=>?_⟩
          have z1:b ≠ s.heap.objs.size:=Nat.ne_of_lt z
          have z2:b ≠ (s.heap.push (pA led)).objs.size:=by rw [Heap.size_push]; exact Nat.ne_of_lt (Nat.lt_succ_of_lt z)
          exact mv.heap b o (by simp only [List.mem_cons,List.mem_singleton,List.not_mem_nil,or_false,not_or]; exact ⟨z1,z2⟩) (Heap.get?_push_of_some _ (Heap.get?_push_of_some _ g))
      · cases r2 with
        | error e=>exact hr2
        | ok fl2 =>
          cases fl2 with
          | ret r =>
            obtain ⟨rfl,h',tk,rfl,so,kp⟩:=hr2
            repeat (any_goals (first | assumption | wp_step))
            exact fin _ _ so kp
          | _=>exact hr2.elim
    | _=>exact hr.elim
def sF (a:Addr) (n:Nat) (h:Heap):Prop:=∃ o es ep t,h.get? a = some o∧o.ExactSet∧o.data = .set es ep t∧t.fits es.size = true∧es.size = n
section
variable {X:Cx}
theorem ub:∀ {zs:List Str} {us:List Value} (i:Nat) (v:Value),Vals (zs.map V.str) us→us[i]? = some v→∃ t,v = .str (zs.getD i "") t
  | [],us,i,v,h,e=>by cases h; simp at e
  | z :: zs,us,i,v,h,e=>by
    cases h with
    | cons r t =>
      obtain ⟨tk,rfl⟩:=r
      cases i with
      | zero =>
        have e':Value.str z tk = v:=by simpa using e
        exact ⟨tk,e'.symm⟩
      | succ i =>
        obtain ⟨t',e'⟩:=ub (zs:=zs) i v t (by simpa using e)
        exact ⟨t',by simpa using e'⟩
def oq (zs:List Str):Nat:=(met (fun i=>zs.getD i "") zs.length).length
theorem uw (hc:X.calm = true):fM X (.type "set") (fun xs H Q=>∃ (l:Addr) (zs:List Str),xs = [.ref l]∧SqL X.K H l (zs.map V.str)∧zs.length ≤ 100∧∀ p,H p = none→Q (.ref p) (upd H p (.ext (sF p (oq zs))))):=by
  intro pins s σ H xs us Q I r h
  obtain ⟨l,zs,rfl,hq,hz,q⟩:=h
  obtain ⟨u,rfl,ru⟩:=eY r
  cases ru
  obtain ⟨its,rv,p,_⟩:=I.list hq
  have lr:=rv.length
  rw [List.length_map] at lr
  refine uv (f:=fun i=>zs.getD i "") (I.ok.hd hc) p.isList (fun i v e=>ub i v rv (by simpa using e)) (by unfold scanBound; simp; omega) fun h' tk so kp=>?_
  have so':sF s.heap.objs.size (oq zs) h':=by
    obtain ⟨o,es,ep,t,a1,a2,a3,_,_,_,a4,a5⟩:=so
    refine ⟨o,es,ep,t,a1,a2,a3,a4,?_⟩
    rw [a5]
    unfold oq
    rw [lr]
    simp
  refine ⟨.ref s.heap.objs.size,_,I.laid (t':=tk) (fun b o e=>kp b o (Heap.lt_size e) e) (Nat.le_refl _) (show ObjOk X.prog X.w _ h' _ (.ext (sF s.heap.objs.size (oq zs))) from ⟨so',?_,fun h1 h2 z k=>?_⟩),rfl,q _ (I.hok.fresh (Nat.le_refl _))⟩
  · obtain ⟨o,_,_,_,a1,_⟩:=so'
    exact ⟨o,a1⟩
  · obtain ⟨o,es,ep,t,a1,rest⟩:=z
    exact ⟨o,es,ep,t,k _ a1,rest⟩
theorem pS:fM X (.builtin "len") (fun xs H Q=>∃ (p:Addr) (n:Nat),xs = [.ref p]∧H p = some (.ext (sF p n))∧n ≤ 1000∧Q (.int n) H):=by
  intro pins s σ H xs us Q I r h
  obtain ⟨p,n,rfl,hp,hn,q⟩:=h
  obtain ⟨u,rfl,ru⟩:=eY r
  cases ru
  obtain ⟨⟨o,es,ep,t,a1,a2,a3,a4,a5⟩,_⟩:=(show ObjOk X.prog X.w H s.heap p (.ext (sF p n)) from I.hok p _ hp)
  subst a5
  exact call_len_set a1 a2 a3 a4 (by omega) ⟨.int (es.size:Nat),H,I.tok _,⟨_,rfl⟩,q⟩
end
end L2
end
section
namespace L2
open PySem PySem.Spec PyProof.Rows
theorem Same.aLst {K:PySem.W.Frag} {H H':Hp} {a:Addr} {xs:List V} (e:Same H H') (h:aLst K H a xs):aLst K H' a xs:=h.elim (fun z=>.inl (e _ _ z)) .inr
def LD (K:PySem.W.Frag) (H:Hp) (ds:List D) (v:V):Prop:=∃ a vs,v = .ref a∧aLst K H a vs∧Dats K H ds vs
theorem Same.ld {K:PySem.W.Frag} {H H':Hp} {ds:List D} {v:V} (e:Same H H') (h:LD K H ds v):LD K H' ds v:=by
  obtain ⟨a,vs,e1,h1,h2⟩:=h
  exact ⟨a,vs,e1,e.aLst h1,e.dats h2⟩
theorem LD.lst {K:PySem.W.Frag} {H:Hp} {ds:List D} {v:V} (h:LD K H ds v):Dat K H .lst v:=by
  obtain ⟨a,vs,rfl,h1,_⟩:=h
  exact Dat.lstI h1.sqL
theorem LD.of {K:PySem.W.Frag} {H:Hp} {ds:List D} {a:Addr} {vs:List V} (h:H a = some (.lst vs)) (hd:Dats K H ds vs):LD K H ds (.ref a):=⟨a,vs,rfl,.inl h,hd⟩
inductive Ar where
  | d (x:D)
  | l (ds:List D)
def ArI (K:PySem.W.Frag) (H:Hp):Ar→V→Prop
  | .d x,v=>Dat K H x v
  | .l ds,v=>LD K H ds v
inductive Ars (K:PySem.W.Frag) (H:Hp):List Ar→List V→Prop
  | nil:Ars K H [] []
  | cons {a v as vs}:ArI K H a v→Ars K H as vs→Ars K H (a :: as) (v :: vs)
theorem Same.ari {K:PySem.W.Frag} {H H':Hp} {a:Ar} {v:V} (e:Same H H') (h:ArI K H a v):ArI K H' a v:=by
  cases a with
  | d x=>exact e.dat h
  | l ds=>exact e.ld h
theorem Ars.length {K:PySem.W.Frag} {H:Hp} {as:List Ar} {vs:List V} (h:Ars K H as vs):as.length = vs.length:=by
  induction h with
  | nil=>rfl
  | cons _ _ ih=>simp [ih]
theorem AI {K:PySem.W.Frag} {H:Hp} {a:Ar} {vs:List V} (h:Ars K H [a] vs):∃ u,vs = [u]∧ArI K H a u:=by
  cases h with
  | cons h1 h2=>cases h2; exact ⟨_,rfl,h1⟩
theorem n6 {K:PySem.W.Frag} {H:Hp} {a b:Ar} {vs:List V} (h:Ars K H [a,b] vs):∃ u v,vs = [u,v]∧ArI K H a u∧ArI K H b v:=by
  cases h with
  | cons h1 h2=>obtain ⟨v,rfl,q⟩:=AI h2; exact ⟨_,v,rfl,h1,q⟩
theorem oa {K:PySem.W.Frag} {H:Hp} {a b c:Ar} {vs:List V} (h:Ars K H [a,b,c] vs):∃ u v w,vs = [u,v,w]∧ArI K H a u∧ArI K H b v∧ArI K H c w:=by
  cases h with
  | cons h1 h2=>obtain ⟨v,w,rfl,q,q'⟩:=n6 h2; exact ⟨_,v,w,rfl,h1,q,q'⟩
theorem Cw {K:PySem.W.Frag} {H:Hp} {a b c d:Ar} {vs:List V} (h:Ars K H [a,b,c,d] vs):∃ u v w x,vs = [u,v,w,x]∧ArI K H a u∧ArI K H b v∧ArI K H c w∧ArI K H d x:=by
  cases h with
  | cons h1 h2=>obtain ⟨v,w,x,rfl,q,q',q''⟩:=oa h2; exact ⟨_,v,w,x,rfl,h1,q,q',q''⟩
def spA (K:PySem.W.Frag) (R:List Ar→D→Prop):Sp:=fun vs H Q _=>∃ as d,Ars K H as vs∧R as d∧∀ v H',Same H H'→Dat K H' d v→Q v H'
def mG (K:PySem.W.Frag) (R:List Ar→List D→Prop):Sp:=fun vs H Q _=>∃ as es,Ars K H as vs∧R as es∧∀ r us H',Same H H'→H' r = some (.lst us)→H r = none→Dats K H' es us→Q (.ref r) H'
def RL (K:PySem.W.Frag) (t:TE) (σ:St) (H:Hp) (ds:List D):Prop:=∀ H1,Same H H1→∀ Q:VK,(∀ v H',Same H1 H'→LD K H' ds v→Q v H')→t σ H1 Q
def RB (K:PySem.W.Frag) (t:TA) (σ:St) (H:Hp) (as:List Ar):Prop:=∀ H1,Same H H1→∀ Q:List V→Hp→Prop,(∀ vs H',Same H1 H'→Ars K H' as vs→Q vs H')→t σ H1 Q
section
variable {K:PySem.W.Frag} {σ:St} {H H':Hp} {d d':D} {ds es:List D} {t u ta tb te tl:TE} {tt uu:TT} {tA:TA} {i j:Int} {b c:Bool} {mk:St→St} {jj:Nat} {ar:List Ar}
theorem RL.mono (h:RL K t σ H es) (e:Same H H'):RL K t σ H' es:=fun H1 s Q q=>h H1 (e.trans s) Q q
theorem RL.use {Q:VK} (h:RL K t σ H es) (q:∀ v H',Same H H'→LD K H' es v→Q v H'):t σ H Q:=h H (Same.refl H) Q q
theorem RB.use {Q:List V→Hp→Prop} (h:RB K tA σ H ar) (q:∀ vs H',Same H H'→Ars K H' ar vs→Q vs H'):tA σ H Q:=h H (Same.refl H) Q q
theorem bK:RB K cH σ H []:=fun H1 _ Q q=>q _ _ (Same.refl _) .nil
theorem cR (h:RE K t σ H d) (r:RB K tA σ H ar):RB K (bB t tA) σ H (.d d :: ar):=fun H1 s Q q =>
  h H1 s _ fun v H2 s2 q2=>r H2 (s.trans s2) _ fun vs H3 s3 q3=>q _ _ (s2.trans s3) (.cons (s3.ari (a:=.d d) q2) q3)
theorem dB (h:RL K t σ H ds) (r:RB K tA σ H ar):RB K (bB t tA) σ H (.l ds :: ar):=fun H1 s Q q =>
  h H1 s _ fun v H2 s2 q2=>r H2 (s.trans s2) _ fun vs H3 s3 q3=>q _ _ (s2.trans s3) (.cons (s3.ari (a:=.l ds) q2) q3)
theorem aT {k:Nat} {v:V} (h:LD K H ds v) (e:σ[k]? = some (some v):=by rfl):RL K (eJ k) σ H ds:=fun H1 s Q q=>⟨v,e,q _ _ (Same.refl _) (s.ld h)⟩
theorem nM (h:RC K t σ H es):RL K t σ H es:=fun H1 s Q q=>h H1 s _ fun l ys H' _ s' hy hd=>q _ _ s' (LD.of hy hd)
theorem x8 {a:Addr} (h:lW K ds a = true):RL K (tC (.ref a)) σ H ds:=fun H1 _ Q q=>by
  obtain ⟨vs,h1,h2⟩:=oI h H1
  exact q _ _ (Same.refl _) ⟨a,vs,rfl,.inr h1,h2⟩
theorem bP {R:List Ar→D→Prop} {E:XK} (h:RB K tA σ H ar) (e:R ar d):RE K (gQ (spA K R) [] E tA) σ H d:=fun H1 s Q q =>
  h H1 s _ fun vs H2 s2 q2=>⟨ar,d,by rw [List.append_nil]; exact q2,e,fun v H3 s3 q3=>q _ _ (s2.trans s3) q3⟩
theorem fq {R:List Ar→List D→Prop} {E:XK} (h:RB K tA σ H ar) (e:R ar es):RC K (gQ (mG K R) [] E tA) σ H es:=fun H1 s Q q =>
  h H1 s _ fun vs H2 s2 q2=>⟨ar,es,by rw [List.append_nil]; exact q2,e,fun r us H3 s3 hr hr0 hd=>q r us H3 (s2.free hr0) (s2.trans s3) hr hd⟩
theorem e9 {k:Nat} (h1:RL K ta σ H ds) (h2:RE K tb σ H (.int k)) (e:ds[k]? = some d):RE K (tOp (sA K) ta tb) σ H d:=fun H1 s Q q =>
  h1 H1 s _ fun v H2 s2 q2=>h2 H2 (s.trans s2) _ fun w H3 s3 q3=>by
    obtain ⟨a,vs,ev,hq,hd⟩:=s3.ld q2
    obtain ⟨x,ex,hx⟩:=hd.get e
    exact ⟨a,vs,k,x,ev,q3.intE,hq.sqL,fG ex,q _ _ (s2.trans s3) hx⟩
theorem Dats.snocE {b:D}:∀ {as:List D} {vs:List V},Dats K H (as ++ [b]) vs→∃ us v,vs = us ++ [v]∧Dats K H as us∧Dat K H b v
  | [],vs,h=>by
    obtain ⟨v,rfl,q⟩:=fZ h
    exact ⟨[],v,rfl,Dats.nil,q⟩
  | a :: as,vs,h=>by
    obtain ⟨v,r,rfl,h1,h2⟩:=h.consE
    obtain ⟨us,w,rfl,q1,q2⟩:=Dats.snocE (as:=as) h2
    exact ⟨v :: us,w,rfl,Dats.cons h1 q1,q2⟩
theorem kr (h1:RL K ta σ H (ds ++ [d])) (h2:RE K tb σ H (.int (-1))):RE K (tOp (sA K) ta tb) σ H d:=fun H1 s Q q =>
  h1 H1 s _ fun v H2 s2 q2=>h2 H2 (s.trans s2) _ fun w H3 s3 q3=>by
    obtain ⟨a,vs,ev,hq,hd⟩:=s3.ld q2
    obtain ⟨us,x,rfl,hu,hx⟩:=hd.snocE
    exact ⟨a,_,-1,x,ev,q3.intE,hq.sqL,v7 us x,q _ _ (s2.trans s3) hx⟩
theorem iU (h:RL K t σ H es):RE K (tCB (fun xs H Q=>∃ p ys,xs = [.ref p]∧(SqL K H p ys∨SqT K H p ys)∧Q (.int ys.length) H) (bB t cH)) σ H (.int es.length):=fun H1 s Q q =>
  gj ((h.mono s).use fun v H' s' hd=>by
    obtain ⟨l,ys,rfl,hy,hd⟩:=hd
    exact ⟨l,ys,rfl,.inl hy.sqL,by rw [← hd.length]; exact q _ _ s' (Dat.intI _)⟩)
theorem wu:∀ {ns:List Int} {vs:List V},Dats K H (ns.map D.int) vs→vs = ns.map V.int
  | [],vs,h=>by rw [Dats.nilE h]; rfl
  | n :: ns,vs,h=>by
    obtain ⟨v,r,e,h1,h2⟩:=h.consE
    rw [e,h1.intE,wu h2]
    rfl
theorem t7 {ns:List Int} (h:RL K t σ H (ns.map D.int)):RE K (tCB (fun xs H Q=>∃ (l:Addr) (ns:List Int),xs = [.ref l]∧SqL K H l (ns.map V.int)∧Q (.int ns.sum) H) (bB t cH)) σ H (.int ns.sum):=fun H1 s Q q =>
  gj ((h.mono s).use fun v H' s' hd=>by
    obtain ⟨l,ys,rfl,hy,hd⟩:=hd
    exact ⟨l,ns,rfl,by rw [← wu hd]; exact hy.sqL,q _ _ s' (Dat.intI _)⟩)
def isN:D→Bool
  | .non=>true
  | _=>false
theorem tL {v:V} (h:Dat K H d v):decide (v = .non) = isN d:=by
  cases d with
  | non=>rw [h.nonE]; rfl
  | bl b=>rw [h.blE]; rfl
  | int i=>rw [h.intE]; rfl
  | str x=>rw [h.strE]; rfl
  | tup ds=>obtain ⟨a,vs,e,_⟩:=h.tupE; rw [e]; rfl
  | lst=>obtain ⟨a,vs,e,_⟩:=h.lstE; rw [e]; rfl
theorem iO (h:RE K ta σ H d):RE K (tOp (fun x y H Q=>y = .non∧Q (.bl (decide (x = .non))) H) ta (tC .non)) σ H (.bl (isN d)):=fun H1 s Q q =>
  h H1 s _ fun v H2 s2 q2=>⟨rfl,by rw [tL q2]; exact q _ _ s2 (Dat.blI _)⟩
theorem tY (h:RE K ta σ H d):RE K (tOp (fun x y H Q=>y = .non∧Q (.bl (!decide (x = .non))) H) ta (tC .non)) σ H (.bl (!isN d)):=fun H1 s Q q =>
  h H1 s _ fun v H2 s2 q2=>⟨rfl,by rw [tL q2]; exact q _ _ s2 (Dat.blI _)⟩
theorem gL {cs:List D} (h:RL K tl σ H cs) (hc:cs.length ≤ 1000) (es:List D) (hl:es.length = cs.length) (h0:(mk σ).set jj none = mk σ)
    (turn:∀ H1 (i:Nat) c v d,Same H H1→cs[i]? = some c→es[i]? = some d→Dat K H1 c v→RE K te ((mk σ).set jj (some v)) H1 d):RC K (fT (nB K tl) mk (cf jj) eV te) σ H es:=fun H1 s Q q=>by
  refine (h.mono s).use fun v4 H4 s4 q4=>?_
  obtain ⟨l4,ys4,rfl,hy4,hd4⟩:=q4
  have ll:=hd4.length
  refine ⟨l4,rfl,⟨ys4,hy4.sqL⟩,?_⟩
  refine gH (K:=K) (Q:=Q) (n:=ys4.length) (item:=fun i=>ys4.getD i .non) (fun i H' s hi=>oA i H' (s.seq hy4.sqL) hi) (fun H' s=>⟨ys4,s.seq hy4.sqL,Nat.le_refl _⟩) h0 es (by omega) (by omega) (fun i d hi=>?_) (fun l ys H5 hl5 s5=>q l ys H5 (s4.free hl5) (s4.trans s5))
  have hi':i < es.length:=(List.getElem?_eq_some_iff.mp hi).1
  have hic:i < cs.length:=by omega
  obtain ⟨vz,ez,hz⟩:=hd4.get (List.getElem?_eq_getElem hic)
  have q:=turn H4 i cs[i] vz d (s.trans s4) (List.getElem?_eq_getElem hic) hi hz
  rw [List.getD_eq_getElem?_getD,ez]
  exact q
theorem hX (h1:RL K ta σ H ds) (h2:RL K tb σ H es) (hl:ds.length + es.length ≤ 1000):RC K (tOp (Ai K) ta tb) σ H (ds ++ es):=fun H1 s Q q =>
  h1 H1 s _ fun v H2 s2 q2=>h2 H2 (s.trans s2) _ fun w H3 s3 q3=>by
    obtain ⟨a,xs,rfl,ha,da⟩:=s3.ld q2
    obtain ⟨b,ys,rfl,hb,db⟩:=q3
    have l1:=da.length
    have l2:=db.length
    exact ⟨a,b,xs,ys,rfl,rfl,ha,hb,by omega,fun p hp=>q p _ _ ((s2.trans s3).free hp) (s2.trans (s3.trans (aC hp _))) aq ((aC hp _).dats (Dats.append da db))⟩
end
section
variable {K:PySem.W.Frag} {σ:St} {H H':Hp} {d d':D} {ds es:List D} {t u ta tb te tl:TE}
theorem vm {zs:List Str} (h:RC K t σ H (zs.map D.str)) (hz:zs.length ≤ 100):RE K (tCB (fun xs H Q=>∃ (p:Addr) (n:Nat),xs = [.ref p]∧H p = some (.ext (sF p n))∧n ≤ 1000∧Q (.int n) H)
    (bB (tCB (fun xs H Q=>∃ (l:Addr) (zs:List Str),xs = [.ref l]∧SqL K H l (zs.map V.str)∧zs.length ≤ 100∧∀ p,H p = none→Q (.ref p) (upd H p (.ext (sF p (oq zs))))) (bB t cH)) cH)) σ H (.int (oq zs)):=fun H1 s Q q =>
  gj (gj ((h.mono s).use fun l ys H2 _ s2 hy hd=>by
    refine ⟨l,zs,rfl,by rw [← tq hd]; exact SqL.of hy,hz,fun p hp=>⟨p,oq zs,rfl,aq,?_,q _ _ (s2.trans (aC hp _)) (Dat.intI _)⟩⟩
    have:=oJ (fun i=>zs.getD i "") zs.length
    unfold oq
    omega))
theorem tF (zs:List Str):∀ i,i ≤ zs.length→((∀ y,(met (fun i=>zs.getD i "") i).any (· == y) = decide (y ∈ zs.take i))∧((met (fun i=>zs.getD i "") i).length = i↔(zs.take i).Nodup))
  | 0,_=>⟨fun y=>by simp [met],by simp [met]⟩
  | i + 1,h=>by
    obtain ⟨i1,i2⟩:=tF zs i (by omega)
    have hle:=oJ (fun i=>zs.getD i "") i
    have hi:i < zs.length:=h
    have et:zs.take (i + 1) = zs.take i ++ [zs[i]]:=by rw [List.take_add_one,List.getElem?_eq_getElem hi]; rfl
    have eg:zs.getD i "" = zs[i]:=by rw [List.getD_eq_getElem?_getD,List.getElem?_eq_getElem hi]; rfl
    refine ⟨fun y=>?_,?_⟩
    · rw [iK,tE,i1,et]
      simp only [eg,List.mem_append,List.mem_singleton]
      by_cases h1:y ∈ zs.take i <;> by_cases h2:y = zs[i] <;> simp [h1,h2]
    · rw [iK,ou,i1,et]
      simp only [eg]
      rw [List.nodup_append]
      by_cases hm:zs[i] ∈ zs.take i
      · rw [if_pos (decide_eq_true hm)]
        constructor
        · intro z; omega
        · rintro ⟨_,_,z⟩
          exact absurd rfl (z _ hm _ (List.mem_singleton.mpr rfl))
      · rw [if_neg (by simpa using hm)]
        constructor
        · intro z
          refine ⟨i2.mp (by omega),by simp,?_⟩
          rintro a ha b hb rfl
          rw [List.mem_singleton.mp hb] at ha
          exact hm ha
        · rintro ⟨z,_⟩
          have:=i2.mpr z
          omega
theorem yF (zs:List Str):oq zs = zs.length↔zs.Nodup:=by
  have h:=(tF zs zs.length (Nat.le_refl _)).2
  rw [List.take_length] at h
  exact h
end
def kZ (K:PySem.W.Frag):V→List V→Hp→VK→Prop:=fun x vs H Q=>∃ l xs y ds d j,x = .ref l∧vs = [y]∧aLst K H l xs∧Dats K H ds xs∧Dat K H d y∧cM ds = true∧noL d = true∧bJ ds ≤ 20∧xs.length ≤ 1000 ∧
  (∃ e,ds[j]? = some e∧eqD e d = true)∧(∀ (m:Nat) e,m < j→ds[m]? = some e→eqD e d = false)∧Q (.int (j:Nat)) H
section
variable {X:Cx}
theorem uO {k:Nat} (hr:Room k X.A):MtM X "list.index" (kZ X.K):=by
  intro pins s σ H x vs v us Q I rx rv h
  obtain ⟨l,xs,y,ds,d,j,rfl,rfl,hH,hds,hd,n1,n2,dp,hx,⟨e0,he0,hit⟩,hno,q⟩:=h
  cases rx
  obtain ⟨u,rfl,ru⟩:=eY rv
  obtain ⟨its,n,r,e⟩:=hH.at I
  have hl:=r.length
  have ll:=hds.length
  have item:∀ (m:Nat) (w:Value),its[m]? = some w→∃ g,ds[m]? = some g∧∃ xv,RelV xv w∧Dat X.K H g xv:=fun m w hw=>by
    have hm:m < its.length:=(List.getElem?_eq_some_iff.mp hw).1
    obtain ⟨g,hg,dg⟩:=hds.getV (i:=m) (v:=xs[m]'(by omega)) (List.getElem?_eq_getElem (by omega))
    obtain ⟨w',hw',rr⟩:=r.get (i:=m) (x:=xs[m]'(by omega)) (List.getElem?_eq_getElem (by omega))
    rw [hw] at hw'
    cases hw'
    exact ⟨g,hg,_,rr,dg⟩
  have relInj:∀ {x1 x2:V} {w:Value},RelV x1 w→RelV x2 w→x1 = x2:=fun {x1 x2 w} h1 h2=>RelV.inj h1 h2
  classical
  let eq:Value→Bool:=fun w=>if hw:∃ m:Nat,its[m]? = some w then (match ds[Classical.choose hw]? with | some g=>eqD g d | none=>false) else false
  have eqAt:∀ (m:Nat) (w:Value) (g:D),its[m]? = some w→ds[m]? = some g→eq w = eqD g d:=fun m w g hw hg=>by
    have hw':∃ m:Nat,its[m]? = some w:=⟨m,hw⟩
    show (if hw:∃ m:Nat,its[m]? = some w then _ else false) = _
    rw [dif_pos hw']
    have hc:=Classical.choose_spec hw'
    obtain ⟨g',hg',xv',r1,d1⟩:=item _ w hc
    obtain ⟨g2,hg2,xv,r2,d2⟩:=item m w hw
    rw [hg] at hg2
    cases hg2
    rw [hg']
    have ex:=relInj r1 r2
    subst ex
    have:=oo I g' g (gI n1 hg') d1 d2 (gI n1 hg)
    rw [this]
  have hj:j < ds.length:=(List.getElem?_eq_some_iff.mp he0).1
  have hu:X.A.in1.units + 20 + 1 < cLine:=by
    have:=hr.un
    show X.A.units + 1 + 20 + 1 < cLine
    omega
  refine call_meets PySem.F.slot_list_index ⟨_,e,rfl⟩ PySem.F.entry_list_index (PySem.F.args_list_index_2 _ _) (SeqAt.list_indexAt l its.toArray n none #[] u eq j (by simp; omega) (by omega) ?_ ?_) ⟨e,?_,?_⟩
  · have hw:its[j]? = some (its[j]'(by omega)):=List.getElem?_eq_getElem (by omega)
    have:=eqAt j _ e0 hw he0
    simpa [this] using hit
  · intro m hm hmj
    have hm':m < its.length:=by simpa using hm
    have hw:its[m]? = some (its[m]'hm'):=List.getElem?_eq_getElem hm'
    obtain ⟨g,hg,_⟩:=item m _ hw
    have:=eqAt m _ g hw hg
    simpa [this] using hno m g hmj hg
  · intro w hw
    obtain ⟨m,hm,rfl⟩:=Array.getElem_of_mem hw
    have hm':m < its.length:=by simpa using hm
    have hw2:its[m]? = some (its[m]'hm'):=List.getElem?_eq_getElem hm'
    obtain ⟨g,hg,xv,r1,d1⟩:=item m _ hw2
    have z1:its.toArray[m] = its[m]'hm':=by simp
    rw [z1,eqAt m _ g hw2 hg]
    exact rO I 20 X.A.in1 g d xv y _ u hu (Nat.le_trans (jh hg) dp) (gI n1 hg) n2 d1 hd r1 ru
  · exact ⟨.int (j:Nat),H,I.tok _,⟨_,rfl⟩,q⟩
theorem uP {k:Nat} (hr:Room k X.A):MtR X "list.index" (kZ X.K):=uO hr
end
section
variable {K:PySem.W.Frag} {σ:St} {H:Hp} {te:TE}
theorem xU {k j:Nat} {v:V} {ds:List D} {d:D} (hv:LD K H ds v) (h:RE K te σ H d) (n1:cM ds = true) (n2:noL d = true) (dp:bJ ds ≤ 20) (hl:ds.length ≤ 1000) (h1:∃ e,ds[j]? = some e∧eqD e d = true) (h2:∀ (m:Nat) e,m < j→ds[m]? = some e→eqD e d = false) (e:σ[k]? = some (some v):=by rfl) :
    RE K (tBM K "list" (kZ K) (eJ k) (bB te cH)) σ H (.int (j:Nat)):=fun H1 s Q q=>by
  obtain ⟨a,vs,rfl,hq,hd⟩:=s.ld hv
  have ll:=hd.length
  refine ⟨_,e,.inl ⟨rfl,_,hq.sqL⟩,h H1 s _ fun y H2 s2 q2=>?_⟩
  exact ⟨a,vs,y,ds,d,j,rfl,rfl,s2.aLst hq,s2.dats hd,q2,n1,n2,dp,by omega,h1,h2,q _ _ s2 (Dat.intI _)⟩
end
theorem yN {K:PySem.W.Frag} {a:Addr} {xs:List V} {g:TG} {tb:TS} {D:Ends} {σ:St} {H:Hp} (Pv:Nat→St→Hp→Prop) (h0:Pv 0 σ H) (hl:∀ i σ H,i ≤ xs.length→Pv i σ H→SqL K H a xs)
    (hs:∀ i x σ H,i < xs.length→xs[xs.length - 1 - i]? = some x→Pv i σ H→g x σ H fun σ2 H2=>tb { D with nx:=Pv (i + 1),ct:=Pv (i + 1),bk:=D.nx } σ2 H2) (hd:∀ σ H,Pv xs.length σ H→D.nx σ H) :
    ∃ W:Nat→Nat→St→Hp→Prop,(∃ m,W 0 m σ H)∧∀ i m σ H,W i m σ H →
      ((Itv K a xs).stop i H∧D.nx σ H)∨((Itv K a xs).go i H∧∃ N:St→Hp→Prop,(∀ σ' H',N σ' H'→∃ m',m' < m∧W (i + 1) m' σ' H')∧∀ x H',(Itv K a xs).yld i H x H'→g x σ H' fun σ2 H2=>tb { D with nx:=N,ct:=N,bk:=D.nx } σ2 H2):=by
  refine ⟨fun i m σ H=>m = xs.length - i∧i ≤ xs.length∧Pv i σ H,⟨xs.length,by simp,Nat.zero_le _,h0⟩,?_⟩
  rintro i m σ H ⟨rfl,hi,p⟩
  have q:=hl i σ H hi p
  by_cases hlt:i < xs.length
  · refine .inr ⟨⟨hlt,q⟩,Pv (i + 1),fun σ' H' p'=>⟨xs.length - (i + 1),by omega,rfl,hlt,p'⟩,fun x H' y=>?_⟩
    obtain ⟨e,y⟩:=y
    subst e
    exact hs i x σ _ hlt y p
  · have e:i = xs.length:=by omega
    subst e
    exact .inl ⟨rfl,hd σ H p⟩
theorem kJ {J:It} {n:Nat} {item:Nat→V} {j:Nat} {tt:TT} {te:TE} {σ0:St} {H1:Hp} {Q:VK} (Ok:Hp→Prop)
    (go:∀ i H',Ok H'→i < n→J.go i H'∧∀ x H'',J.yld i H' x H''→H'' = H'∧x = item i) (stop:∀ H',Ok H'→J.stop n H') (h0:σ0.set j none = σ0)
    (D:Addr) (Pn:Nat→Hp→Prop) (p0:Pn 0 (upd H1 D (.lst []))) (ok:∀ i H',i ≤ n→Pn i H'→Ok H')
    (turn:∀ i H',i < n→Pn i H'→tt (σ0.set j (some (item i))) H' fun b H3=>if b = true then te (σ0.set j (some (item i))) H3 fun v H4=>∃ ys,H4 D = some (.lst ys)∧ys.length < sizeLine∧(∃ z,σ0.set j (some (item i)) = σ0.set j z)∧Pn (i + 1) (upd H4 D (.lst (ys ++ [v]))) else (∃ z,σ0.set j (some (item i)) = σ0.set j z)∧Pn (i + 1) H3)
    (fin:∀ H',Pn n H'→Q (.ref D) H') :
    ∃ W:Nat→Nat→St→Hp→Prop,(∃ m,W 0 m σ0 (upd H1 D (.lst [])))∧∀ i m σ' H',W i m σ' H' →
      (J.stop i H'∧Q (.ref D) H') ∨
      (J.go i H'∧∃ Nx:St→Hp→Prop,(∀ σ'' H'',Nx σ'' H''→∃ m',m' < m∧W (i + 1) m' σ'' H'')∧∀ x H'',J.yld i H' x H''→cf j x σ' H'' fun σ2 H2=>tt σ2 H2 fun b H3 =>
        if b = true then te σ2 H3 fun v H4=>∃ ys,H4 D = some (.lst ys)∧ys.length < sizeLine∧Nx σ2 (upd H4 D (.lst (ys ++ [v]))) else Nx σ2 H3):=by
  refine ⟨fun i m σ' H'=>m = n - i∧i ≤ n∧(∃ z,σ' = σ0.set j z)∧Pn i H',⟨n,by omega,Nat.zero_le _,⟨none,h0.symm⟩,p0⟩,?_⟩
  rintro i m σ' H' ⟨rfl,hi,⟨z,rfl⟩,p⟩
  have o:=ok i H' hi p
  by_cases hlt:i < n
  · obtain ⟨g,y⟩:=go i H' o hlt
    refine .inr ⟨g,fun σ'' H''=>(∃ z,σ'' = σ0.set j z)∧Pn (i + 1) H'',fun σ'' H'' q=>⟨n - (i + 1),by omega,rfl,hlt,q.1,q.2⟩,fun x H'' yx=>?_⟩
    obtain ⟨e1,e2⟩:=y x H'' yx
    subst e1 e2
    simp only [cf,jR]
    exact turn i _ hlt p
  · have e:i = n:=by omega
    subst e
    exact .inl ⟨stop H' o,fin H' p⟩
theorem Be {X:Cx} {o e:Expr} {es:List Expr} {to:TE} {t:TA} {name:Str} {apos cpos:Pos} {T id:String} {r:V→List V→Hp→VK→Prop} (K:PySem.W.Frag) (hK:X.K = K) (pa:PlainAttrs T) (slot:Slot T name id) (hty:typeOf (.builtin id) = pure (.type "method_descriptor")) (hm:MtR X id r) (ho:PE X o to) (ha:PA X (e :: es) t)
    (hbase:attributeBase o name X.env (eval o X.env) = eval o X.env:=by rfl)
    (hfew:((backTo cpos (starEach (e :: es) X.env)).all (fun x=>!x.1) && (backToKw cpos (keywordEach [] X.env)).all (fun x=>x.1.isSome)
      && decide ((e :: es).length + ([]:List Keyword).length + (if ([]:List Keyword).isEmpty then 0 else 1) < 30)) = true:=by rfl)
    (hline:(apos.endLine == cpos.line) = true:=by rfl) (hs:starEach (e :: es) X.env = (false,eval e X.env) :: starEach es X.env:=by rfl) (hplain:(backTo cpos (starEach es X.env)).any (·.1) = false:=by rfl) :
    PE X (.Call (.Attribute o name apos) (e :: es) [] cpos) (tBM K T r to t):=by
  subst hK
  exact cZ pa slot hty hm ho ha hbase hfew hline hs hplain
theorem bS (a b:D) (r q:List D):cW (a :: r) (b :: q) = (eqD a b && cW r q):=by rw [cW]
theorem cA:cW [] [] = true:=by rw [cW]
theorem cU (b:D) (q:List D):cW [] (b :: q) = false:=by unfold cW; rfl
theorem ck (a:D) (r:List D):cW (a :: r) [] = false:=by unfold cW; rfl
theorem d3 (a b:List D):eqD (.tup a) (.tup b) = cW a b:=by rw [eqD]
theorem dZ (a b:Str):eqD (.str a) (.str b) = decide (a = b):=by
  unfold eqD
  by_cases h:a = b <;> simp [h]
theorem dY (a b:Int):eqD (.int a) (.int b) = decide (a = b):=by
  unfold eqD
  by_cases h:a = b <;> simp [h]
theorem kM {K:PySem.W.Frag} {tl te:TE} {tt:TT} {mk:St→St} {j:Nat} {σ:St} {H:Hp} {Q:VK} (M:Addr→List V→Hp→Prop) (h:∀ R:VK,(∀ r us H1,H1 r = some (.lst us)→M r us H1→R (.ref r) H1)→tl σ H R) (h0:(mk σ).set j none = mk σ)
    (body:∀ r us H1 l,H1 r = some (.lst us)→M r us H1→H1 l = none→∃ Pn:Nat→Hp→Prop,Pn 0 (upd H1 l (.lst []))∧(∀ i G,i ≤ us.length→Pn i G→SqL K G r us) ∧
      (∀ i G,i < us.length→Pn i G→tt ((mk σ).set j (some (us.getD i .non))) G fun b H3=>if b = true then te ((mk σ).set j (some (us.getD i .non))) H3 fun v H4=>∃ ys,H4 l = some (.lst ys)∧ys.length < sizeLine∧(∃ z,(mk σ).set j (some (us.getD i .non)) = (mk σ).set j z)∧Pn (i + 1) (upd H4 l (.lst (ys ++ [v]))) else (∃ z,(mk σ).set j (some (us.getD i .non)) = (mk σ).set j z)∧Pn (i + 1) H3) ∧
      ∀ G,Pn us.length G→Q (.ref l) G):fT (nB K tl) mk (cf j) tt te σ H Q:=by
  refine h _ fun r us H1 hr hM=>⟨r,rfl,⟨us,SqL.of hr⟩,fun l hl=>?_⟩
  obtain ⟨Pn,b1,b2,b3,b4⟩:=body r us H1 l hr hM hl
  exact kJ (J:=Itl K r) (n:=us.length) (item:=fun i=>us.getD i .non) (fun G=>SqL K G r us) (fun i G o hi=>oA i G o hi) (fun G o=>⟨us,o,Nat.le_refl _⟩) h0 l Pn b1 b2 b3 b4
end L2
end
section
namespace L2
open PySem PySem.Spec PyProof.Rows
section
variable {P:Program} {w:World} {H H':Hp} {h h1 h2:Heap} {a b T:Addr} {o:HO} {fs:List Addr}
theorem ObjOk.has (x:ObjOk P w H h a o):∃ u,h.get? a = some u:=by
  cases o with
  | lst xs=>obtain ⟨_,_,_,_,e⟩:=x; exact ⟨_,e⟩
  | tup xs=>obtain ⟨_,_,_,ob,e,_⟩:=x; exact ⟨ob,e⟩
  | dK kvs=>obtain ⟨_,_,_,_,o,_,_,e,_⟩:=x; exact ⟨_,e⟩
  | dT kvs=>obtain ⟨_,_,_,_,o,_,_,e,_⟩:=x; exact ⟨_,e⟩
  | set S n=>obtain ⟨o,_,_,_,e,_⟩:=x; exact ⟨_,e⟩
  | ins C dx fs=>obtain ⟨_,_,_,e,_⟩:=x; exact ⟨_,e⟩
  | own y=>exact x
  | xd fs=>obtain ⟨_,⟨_,_,_,e,_⟩,_⟩:=x; exact ⟨_,e⟩
  | rng lo hi=>obtain ⟨_,_,_,e⟩:=x; exact ⟨_,e⟩
  | frz ob u=>obtain ⟨e,_⟩:=x; exact ⟨_,e⟩
  | tbl ps=>exact ⟨_,(show h.get? a = some _ from x)⟩
  | met f y=>exact ⟨_,(show h.get? a = some _ from x)⟩
  | ext φ=>obtain ⟨_,e,_⟩:=x; exact e
theorem HOk.empty (x:HOk P w H h) (e:h.get? a = none):H a = none:=by
  cases q:H a with
  | none=>rfl
  | some u =>
    obtain ⟨v,r⟩:=(x a u q).has
    rw [e] at r; cases r
def Trc (h:Heap) (e T:Addr) (cls a0:Value):Prop :=
  ∃ oe vs oT ts,h.get? e = some oe∧(oe.cls = cls∧vs[0]? = some a0)∧oe.data = .fields vs∧vs[1]? = some (.ref T)∧T ≠ e∧h.get? T = some oT∧oT.data = .fields ts∧ts[3]? = some .none
def CX1 (P:Program) (w:World):CXT:=fun outer H s E e s' =>
  ∃ a T cls a0 H',e = .ref a∧s'.os = s.os∧AllBare s'.gens∧Un (frs outer) [] H H' s.heap s'.heap∧HOk P w H' s'.heap ∧
    (s.heap.get? a = none∧s.heap.get? T = none∧H' a = none∧H' T = none)∧Trc s'.heap a T cls a0∧E cls none H'
theorem yo (U:Un fs [] H H' h h1) (ha:h.get? a = none) (hT:h.get? T = none) (k:∀ b o,h1.get? b = some o→b ≠ a→b ≠ T→b ∉ fs→h2.get? b = some o)
    (sl:∀ b o,h1.get? b = some o→b ∈ fs→∃ sl,h2.get? b = some { o with slots:=sl }):Un fs [] H H' h h2:=by
  have na:∀ b o,h.get? b = some o→b ≠ a:=fun b o q z=>by rw [z,ha] at q; cases q
  have nT:∀ b o,h.get? b = some o→b ≠ T:=fun b o q z=>by rw [z,hT] at q; cases q
  refine ⟨fun b o q n hb hx=>k b o (U.keep b o q n hb hx) (na b o q) (nT b o q) hb,fun b o q n hb hx=>?_,U.free,fun b o q hx=>?_,U.tups,U.frzs,U.tbls⟩
  · obtain ⟨s1,e1⟩:=U.slot b o q n hb hx
    obtain ⟨s2,e2⟩:=sl b _ e1 hb
    exact ⟨s2,e2⟩
  · obtain ⟨o1,e1⟩:=U.there b o q hx
    by_cases hb:b ∈ fs
    · obtain ⟨s2,e2⟩:=sl b _ e1 hb
      exact ⟨_,e2⟩
    · exact ⟨o1,k b o1 e1 (na b o q) (nT b o q) hb⟩
theorem wJ (O:HOk P w H h1) (ha:H a = none) (hT:H T = none) (hf:∀ b ∈ fs,H b = none) (k:∀ b o,h1.get? b = some o→b ≠ a→b ≠ T→b ∉ fs→h2.get? b = some o):HOk P w H h2:=fun c u e =>
  (O c u e).stay (fun b v hb q=>by
    have hn:H b ≠ none:=by
      rcases hb with z | z
      · rw [z,e]; exact fun y=>nomatch y
      · rw [z]; exact fun y=>nomatch y
    exact k b v q (fun z=>hn (by rw [z]; exact ha)) (fun z=>hn (by rw [z]; exact hT)) fun z=>hn (hf b z)) (fun _ q=>q) fun _ _ q=>q
theorem AV {base:Heap} {l:List Env} {cls a0:Value} (F:h.FunFrames base l) (t:Trc h a T cls a0):Heap.FlyingW (PySem.W.hideAll h (a :: T :: frs l)) l a cls a0 h:=by
  obtain ⟨oe,vs,oT,ts,he,hc,hd,hv,hne,hT,hdT,h3⟩:=t
  exact ⟨fun b o q=>PySem.W.of_hideAll _ q,PySem.W.hideAll_none _ (.head _),PySem.W.funFrames_hide F fun env hm b hb=>.tail _ (.tail _ (List.mem_filterMap.mpr ⟨env,hm,hb⟩)),
    oe,vs,T,oT,ts,he,hc,hd,hv,PySem.W.hideAll_none _ (.tail _ (.head _)),hne,hT,hdT,h3⟩
theorem ql {base:Heap} {l l':List Env} {cls a0:Value} (F:h.FunFrames base l) (x:Heap.FlyingW (PySem.W.hideAll h (a :: T :: frs l)) l' a cls a0 h2) (U:h.UpToSlots h2) :
    ∃ T2,Trc h2 a T2 cls a0∧(T2 = T∨h.get? T2 = none)∧(∀ b o,h.get? b = some o→b ≠ a→b ≠ T→b ∉ frs l→h2.get? b = some o)∧(∀ b o,h.get? b = some o→b ∈ frs l→∃ sl,h2.get? b = some { o with slots:=sl }):=by
  obtain ⟨f1,f2,f3,oe,vs,T2,oT,ts,he,hc,hd,hv,hn,hne,hT,hdT,h3⟩:=x
  have sl:∀ b o,h.get? b = some o→b ∈ frs l→∃ sl,h2.get? b = some { o with slots:=sl }:=fun b o q hb=>by
    obtain ⟨_,o',ho',hnf⟩:=F.mem hb
    rw [q] at ho'; cases ho'
    exact U b o q hnf
  refine ⟨T2,⟨oe,vs,oT,ts,he,hc,hd,hv,hne,hT,hdT,h3⟩,?_,fun b o q n1 n2 n3=>f1 b o (PySem.W.hideAll_get _ q fun z=>?_),sl⟩
  · cases q:h.get? T2 with
    | none=>exact .inr rfl
    | some o =>
      refine .inl ?_
      by_cases m:T2 ∈ a :: T :: frs l
      · rcases List.mem_cons.mp m with z | m
        · exact absurd z hne
        · rcases List.mem_cons.mp m with z | m
          · exact z
          · obtain ⟨_,o',ho',hnf⟩:=F.mem m
            rw [q] at ho'; cases ho'
            obtain ⟨s2,e2⟩:=sl T2 o q m
            rw [hT] at e2; cases e2
            exact absurd hdT (hnf ts)
      · rw [PySem.W.hideAll_get _ q m] at hn; cases hn
  · rcases List.mem_cons.mp z with z | z
    · exact n1 z
    · rcases List.mem_cons.mp z with z | z
      · exact n2 z
      · exact n3 z
end
section
variable {X:Cx} {pins:List (Addr × Obj)} {σ:St} {H:Hp} {s s':Shared} {E:XK} {e:Value}
theorem CX1.behind (I:Inv X pins σ H s) (x:CX1 X.prog X.w X.stack H s E e s'):∃ a T cls a0 H',e = .ref a∧E cls none H'∧s.heap.get? a = none∧H' a = none∧Inv X pins σ H' s' ∧
    Heap.FlyingW (PySem.W.hideAll s'.heap (a :: T :: frs X.stack)) X.stack a cls a0 s'.heap ∧
    ∀ h2 l',Heap.FlyingW (PySem.W.hideAll s'.heap (a :: T :: frs X.stack)) l' a cls a0 h2→s'.heap.UpToSlots h2 →
      ∃ T2,Inv X pins σ H' { s' with heap:=h2 }∧Trc h2 a T2 cls a0∧s.heap.get? T2 = none∧H' T2 = none∧Un (frs X.stack) [] H H' s.heap h2:=by
  obtain ⟨a,T,cls,a0,H',he,os,bare,un,hok,⟨sa,sT,na,nT⟩,tr,q⟩:=x
  have J:Inv X pins σ H' s':=I.call' (ch:=[]) os un hok bare (fun b z=>absurd z (by simp))
  refine ⟨a,T,cls,a0,H',he,q,sa,na,J,AV J.stack tr,fun h2 l' fl up=>?_⟩
  obtain ⟨T2,t2,hT2,k2,sl2⟩:=ql J.stack fl up
  have nT2:H' T2 = none:=by
    rcases hT2 with z | z
    · rw [z]; exact nT
    · exact hok.empty z
  have sT2:s.heap.get? T2 = none:=by
    rcases hT2 with z | z
    · rw [z]; exact sT
    · cases q:s.heap.get? T2 with
      | none=>rfl
      | some o =>
        obtain ⟨o',r⟩:=un.there T2 o q (by simp)
        rw [z] at r; cases r
  exact ⟨T2,I.call' (s':={ s' with heap:=h2 }) (ch:=[]) os (yo un sa sT k2 sl2) (wJ hok na nT J.stkFree k2) bare (fun b z=>absurd z (by simp)),t2,sT2,nT2,yo un sa sT k2 sl2⟩
end
theorem Ah {P:Program} {w:World} {K:PySem.W.Frag} {mg:Str→Option Value} {base:Heap} {N:List Str} {qual:Str} {scope:Scope} {f:Addr} {cd:Value} {A:Around} {outer:List Env} {s:Shared} {H:Hp} {E:XK} :
    ja (CX1 P w) (jg (CX1 P w) P w K mg base N qual scope f cd A outer s H E) E:=by
  intro pins σ H1 s1 e s' I x
  obtain ⟨a,T,cls,a0,H',rfl,q,sa,na,J,fl,back⟩:=CX1.behind I x
  refine wpAny_leaves_onW (L:=s.heap.objs.size) I.ok.frames rfl fl fun h2 f2 up=>?_
  obtain ⟨T2,J2,t2,sT2,nT2,_⟩:=back h2 _ f2 up
  have up0:∀ b,s1.heap.get? b = none→s.heap.get? b = none:=fun b z=>by
    cases q:s.heap.get? b with
    | none=>rfl
    | some o =>
      obtain ⟨o',r⟩:=I.base.there b o q (by show b ∉ ([]:List Addr); simp)
      rw [z] at r; cases r
  exact ⟨a,T2,cls,a0,H',rfl,J2.os,J2.bare,J2.base,J2.hok,⟨up0 a sa,up0 T2 sT2,na,nT2⟩,t2,q⟩
def Fre (h:Heap) (e:Addr) (cls a0:Value):Prop:=∃ oe vs,h.get? e = some oe∧(oe.cls = cls∧vs[0]? = some a0)∧oe.data = .fields vs∧vs[1]? = some .none
def CXn (P:Program) (w:World):CXT:=fun outer H s E e s' =>
  ∃ a cls a0 H',e = .ref a∧s'.os = s.os∧AllBare s'.gens∧Un (frs outer) [] H H' s.heap s'.heap∧HOk P w H' s'.heap ∧
    (s.heap.get? a = none∧H' a = none)∧Fre s'.heap a cls a0∧E cls none H'
theorem BH {P:Program} {w:World} {K:PySem.W.Frag} {mg:Str→Option Value} {base:Heap} {N:List Str} {qual:Str} {scope:Scope} {f:Addr} {cd:Value} {A:Around} {outer:List Env} {s:Shared} {H:Hp} {E:XK} :
    ja (CXn P w) (jg (CX1 P w) P w K mg base N qual scope f cd A outer s H E) E:=by
  intro pins σ H1 s1 e s' I x
  obtain ⟨a,cls,a0,H',rfl,os,bare,un,hok,⟨sa,na⟩,⟨oe,vs,he,⟨hc,h0⟩,hd,hv⟩,q⟩:=x
  have J:Inv (jg (CX1 P w) P w K mg base N qual scope f cd A outer s H E) pins σ H' s':=I.call' (ch:=[]) os un hok bare (fun b z=>absurd z (by simp))
  subst hc
  refine wpAny_leaving_firstW (base:=PySem.W.hideAll s'.heap (a :: a :: frs (envOfC qual scope s.heap.objs.size f cd :: outer))) (L:=s.heap.objs.size) (a0:=a0) I.ok.frames
    (PySem.W.funFrames_hide J.stack fun env hm b hb=>.tail _ (.tail _ (List.mem_filterMap.mpr ⟨env,hm,hb⟩))) rfl he (fun b o q=>PySem.W.of_hideAll _ q) (PySem.W.hideAll_none _ (.head _)) hd hv h0 fun h2 L2=>?_
  obtain ⟨k1,k2,k3,k4⟩:=L2
  obtain ⟨T2,t2,hT2,kk,sl2⟩:=ql (T:=a) J.stack (show Heap.FlyingW _ _ a oe.cls a0 h2 from ⟨k1,PySem.W.hideAll_none _ (.head _),k2,k3⟩) k4
  have neT:T2 ≠ a:=by obtain ⟨_,_,_,_,_,_,_,_,z,_⟩:=t2; exact z
  have nT:s'.heap.get? T2 = none:=hT2.resolve_left neT
  have sT:s1.heap.get? T2 = none:=by
    cases q:s1.heap.get? T2 with
    | none=>rfl
    | some o =>
      obtain ⟨o',r⟩:=un.there T2 o q (by simp)
      rw [nT] at r; cases r
  have up0:∀ b,s1.heap.get? b = none→s.heap.get? b = none:=fun b z=>by
    cases q:s.heap.get? b with
    | none=>rfl
    | some o =>
      obtain ⟨o',r⟩:=I.base.there b o q (by show b ∉ ([]:List Addr); simp)
      rw [z] at r; cases r
  have J2:Inv (jg (CX1 P w) P w K mg base N qual scope f cd A outer s H E) pins σ H' { s' with heap:=h2 } :=
    I.call' (s':={ s' with heap:=h2 }) (ch:=[]) os (yo un sa sa kk sl2) (wJ hok na na J.stkFree kk) bare (fun b z=>absurd z (by simp))
  exact ⟨a,T2,oe.cls,a0,H',rfl,J2.os,J2.bare,J2.base,J2.hok,⟨up0 a sa,up0 T2 sT,na,hok.empty nT⟩,t2,q⟩
def qa (K:PySem.W.Frag) (C:Addr) (bmB:List Value) (newId:String) (ini:Option Value):Bool:=match K.lookup C with
  | some ⟨.type "type",_,.cls cd,slots⟩=>(match cd.mro,slots.toList with
    | .ref C' :: bm,[_,_,_,_,some (.builtin n),_]=>C' == C && n == newId && !cd.hasDel && PySem.W.tailIn K bmB bm && PySem.W.nsOkIn K cd.ns && PySem.W.nsIn K cd.ns "__init__" == some ini
    | _,_=>false)
  | _=>false
theorem r8 {K:PySem.W.Frag} {h:Heap} {N:Addr} {mg:Str→Option Value} {n:Str} {v:Value} (X:K.In h) (G:h.Ns N mg) (e:PySem.W.nsIn K N n = some (some v)):mg n = some v:=by
  obtain ⟨o,es,ep,ho,hd,_,hf⟩:=G
  unfold PySem.W.nsIn at e
  split at e
  · rename_i c d es' n' sl q
    have:=X _ _ q
    rw [ho] at this
    cases this
    cases hd
    split at e
    · rename_i en he
      rw [← hf]
      unfold nsFind findBy
      rw [← Array.find?_toList,he]
      cases e
      rfl
    · split at e <;> cases e
  · cases e
theorem AU {K:PySem.W.Frag} {h:Heap} {C:Addr} {bmB:List Value} {newId:String} {ini:Option Value} (X:K.In h) (q:qa K C bmB newId ini = true) :
    ∃ bm N nm qn bs hd sn sub ab col dd k0 k1 k2 k3 k5 mN,h.get? C = some (excClassObj nm qn C N bs bm hd sn sub ab col dd k0 k1 k2 k3 k5 newId)∧h.Ns N mN∧mN "__init__" = ini∧OwnTail h bmB bm:=by
  unfold qa at q
  split at q
  · rename_i dd cd sl ho
    split at q
    · rename_i C' bm k0 k1 k2 k3 n k5 hm hs
      rw [Bool.and_eq_true,Bool.and_eq_true,Bool.and_eq_true,Bool.and_eq_true,Bool.and_eq_true] at q
      obtain ⟨⟨⟨⟨⟨e1,e2⟩,hdel⟩,ht⟩,hok⟩,hni⟩:=q
      obtain rfl:=beq_iff_eq.mp e1
      obtain rfl:=beq_iff_eq.mp e2
      have hni:=beq_iff_eq.mp hni
      obtain ⟨cnm,cbs,mro,ns,cqn,chd,csn,csub,cab,ccol,del⟩:=cd
      have hsl:sl.toList.toArray = [k0,k1,k2,k3,some (.builtin n),k5].toArray:=by rw [hs]
      rw [Array.toArray_toList] at hsl
      subst hsl
      have hm:mro = .ref C' :: bm:=hm
      have hde:del = false:=by
        have z:(!del) = true:=hdel
        cases del with
        | true=>cases z
        | false=>rfl
      clear hdel
      subst hm hde
      have hN:h.Ns ns (h.nsMap ns):=.of_isNs (PySem.W.isNs_of_in X hok)
      refine ⟨bm,ns,cnm,cqn,cbs,chd,csn,csub,cab,ccol,dd,k0,k1,k2,k3,k5,_,X _ _ ho,hN,?_,PySem.W.tail_of_in X ht⟩
      cases ini with
      | none=>exact PySem.W.ns_none_of X hN hni
      | some v=>exact r8 X hN hni
    · cases q
  · cases q
theorem xF {X:Cx} {C:Addr} {E:XK} {x:Str} {np cpos pos:Pos} {e₀:Expr} {rest:List Expr} {ta:TA} {B Bn newId nid initId inN:String} {bmB bmN:List Value}
    (Fn:ExcBaseFacts Bn newId inN bmN) (hBn:bmB.contains (.type Bn) = true) (F:ExcBaseFacts B nid initId bmB) (hc:qa X.K C bmB newId none = true)
    (ht:ja (CXn X.prog X.w) X E) (hg:Gl X x) (hm:X.mg x = some (.ref C)) (ha:PA X (e₀ :: rest) ta) (hcalm:X.calm = true:=by rfl)
    (he:starEach (e₀ :: rest) X.env = (false,eval e₀ X.env) :: starEach rest X.env:=by rfl)
    (hplain:(backTo cpos (starEach rest X.env)).any (·.1) = false:=by rfl) (hd:(x == ("__debug__":Str)) = false:=by decide) :
    PS X (.Raise (some (.Call (.Name x np) (e₀ :: rest) [] cpos)) none pos) (fun _ σ H=>ta σ H fun vs H1=>vs.length ≤ sizeLine∧E (.ref C) none H1):=by
  intro pins s σ H D I h
  obtain ⟨bm,N,nm,qn,bs,hdd,sn,sub,ab,col,dd,k0,k1,k2,k3,k5,mN,hC,hN,hni,T⟩:=AU I.mod.kin hc
  refine wpAny_Raise_call_subU (C:=C) (nm:=nm) (q:=qn) (N:=N) (bs:=bs) (bm:=bm) (hdct:=hdd) (sn:=sn) (sub:=sub) (ab:=ab) (col:=col) (dd:=dd) (k0:=k0) (k1:=k1) (k2:=k2) (k3:=k3) (k5:=k5)
    Fn hBn F (mN:=mN) (T.hasType F.hasBase) (I.ok.hd hcalm) (by rw [he]; show (false || (backTo cpos (starEach rest X.env)).any (·.1)) = false; rw [hplain]; rfl) hni (iQ I hg hm ⟨rfl,?_⟩ hd)
  have w:=ha cpos pins s σ H _ I h
  rw [he] at w ⊢
  refine Calls.evalArgs_plain (thn w fun us s2 ⟨vs,H1,I1,r,z,q⟩=>⟨rfl,by rw [← r.length]; exact z,I1.bk _ _ hC,hN.keeps I1.bk,T.keeps I1.bk,fun h' e hm=>?_⟩)
  obtain ⟨t,h1,h2,h3⟩:=hm.there
  exact ht pins σ H1 s2 _ _ I1 ⟨e,.ref C,.ref t,H1,rfl,rfl,I1.bare,Un.kept hm.keeps,I1.hok.kept hm.keeps,⟨hm.new,I1.hok.empty hm.new⟩,⟨_,_,h1,⟨rfl,rfl⟩,rfl,rfl⟩,q⟩
def nX (CX:CXT) (X:Cx) (E:St→XK):Prop:=∀ (pins:List (Addr × Obj)) (σ:St) (H:Hp) (s:Shared) (e:Value) (s':Shared),Inv X pins σ H s→CX X.stack H s (E σ) e s'→X.xe e s'
section
variable {X:Cx} {CX:CXT} {k:Nat} {f C:Addr} {fd:FuncData} {ps:List Str} {sp:Sp} {dvs:List V} {ds:List Value} {E:St→XK} {x m:Str} {p pos apos:Pos} {e o:Expr} {es:List Expr} {ta:TE} {t:TA}
theorem zL {pins:List (Addr × Obj)} {σ:St} {H:Hp} {s:Shared} {Q:VK} {us:List Value} {vs:List V} (F:FnOk X.prog X.w X.K X.mg X.base CX k f fd ps sp) (hr:Room k X.A) (hb:Binds X.K fd ps ds) (hd:Vals dvs ds) (hx:nX CX X E)
    (I:Inv X pins σ H s) (r:Vals vs us) (h:sp (vs ++ dvs) H Q (E σ)):wpAny (model X.prog X.w) X.A (call (.ref f) us) (EP X pins σ Q) X.xe s:=by
  have r2:Vals (vs ++ dvs) (us ++ ds):=r.append hd
  have hl:(us ++ ds).length = ps.length:=by rw [← r2.length]; exact F.len _ _ _ _ h
  refine wpAny_call (codeAny_mono (F.run X.A X.stack s H ⟨us,[]⟩ (us ++ ds) (vs ++ dvs) Q (E σ) hr I.env0 (hb s us I.kIn hl) r2 h) fun r s' hq=>?_)
  cases r with
  | error e=>exact hx pins σ H s e s' I hq
  | ok fl =>
    cases fl with
    | ret u=>exact I.after hq
    | next=>exact False.elim hq
    | brk=>exact False.elim hq
    | cont=>exact False.elim hq
end
def Cx.hand (X:Cx) (e:Value):Cx:={ X with A:=X.A.mark (some e),calm:=false,xe:=fun _ _=>False }
theorem Cx.Ok.hand {X:Cx} {e:Value} (o:X.Ok):(X.hand e).Ok :=
  ⟨o.mod,o.kind,o.glob,o.blt,o.above,o.inj,o.has,o.cab,(fun z=>nomatch z),o.frames,o.stk,o.exf,o.bs,o.bsz,o.noex,o.exfs,o.funs,o.frf⟩
section
variable {X:Cx} {pins pins':List (Addr × Obj)} {σ:St} {H:Hp} {s:Shared} {xe:Value→Shared→Prop} {e:Value}
theorem Inv.hand (I:Inv X pins σ H s):Inv (X.hand e) pins σ H s:=⟨I.ok.hand,I.os,I.bare,I.base,I.loc,I.cell,I.free,I.freeC,I.pin,I.hok,I.len⟩
theorem Inv.unhand (o:X.Ok) (I:Inv (X.hand e) pins σ H s):Inv X pins σ H s:=⟨o,I.os,I.bare,I.base,I.loc,I.cell,I.free,I.freeC,I.pin,I.hok,I.len⟩
theorem Inv.inTry (I:Inv X pins σ H s):Inv { X with pn:=X.pn ++ pins,xe:=xe } [] σ H s :=
  ⟨⟨I.ok.mod,I.ok.kind,I.ok.glob,I.ok.blt,I.ok.above,I.ok.inj,I.ok.has,I.ok.cab,I.ok.hd,I.ok.frames,I.ok.stk,I.ok.exf,I.ok.bs,I.ok.bsz,I.ok.noex,I.ok.exfs,I.ok.funs,I.ok.frf⟩,I.os,I.bare,I.base,I.loc,I.cell,I.free,I.freeC,
    fun p hp=>I.pin p (by simpa using hp),I.hok,I.len⟩
theorem Inv.outTry (o:X.Ok) (I:Inv { X with pn:=X.pn ++ pins,xe:=xe } pins' σ H s):Inv X pins σ H s :=
  ⟨o,I.os,I.bare,I.base,I.loc,I.cell,I.free,I.freeC,fun p hp=>I.pin p (List.mem_append_left _ hp),I.hok,I.len⟩
end
end L2
end
section
namespace L2
open PySem PySem.Spec PySem.Calls PyProof.Rows PySem.W PySem.Builtin PySem.Builtin.ObjectAttr PySem.Builtin.Getset_descriptor
section
variable {prog:Program} {w:World} {A:Around} {E:Value→Shared→Prop} {s:Shared} {K:Frag} {x D:Addr} {ox:Obj} {od:Option Obj} {name:Str}
theorem v9 (o:Value):bindSpecial (.builtin "BaseException.__getattribute__") o = pure (.builtin "BaseException.__getattribute__",[o]):=PySem.F.attr_ValueError.ga.bind o
structure nV (K:Frag) (D:Addr):Prop where
  ga:findIn K (.ref D) "__getattribute__" = some (some (.builtin "BaseException.__getattribute__"))
  gt:findIn K (.ref D) "__getattr__" = some none
  dct:hasDictIn K D = true
  a:findIn K (.ref D) "__class__" = some (some (.builtin "object.__class__"))
  n:specialIn K (.builtin "object.__class__") "__get__" = some (some (.builtin "getset_descriptor.__get__"))
  tk:takesIn K (.builtin "object.__class__") = some true
  m:mroIn K D (.type "object") = some true
  b:mroIn K D (.type "BaseException") = some true
theorem yW {R:Result→Shared→Prop} {tp:Value} (X:K.In s.heap) (L0:Looks (model prog w) s.heap (typeOf (.ref x)) (.ref D)) (hm:mroIn K D (.type "object") = some true)
    (h:R (.ok (.ret (.ref D))) s):codeAny (model prog w) A (.call (.builtin "getset_descriptor.__get__") ⟨[.builtin "object.__class__",.ref x,tp],[]⟩) R s:=by
  obtain ⟨hh,g,dr,t,os⟩:=s
  have L1:=looks_mroIn (M:=model prog w) X hm
  refine codeAny_call_builtin KF.slot_gs.plain KF.entry_gs ?_
  refine KF.slot_gs.check _ _ _ _ _ _ _ _ KF.type_class (KF.args_gs _ _ _) ?_
  unfold «getset_descriptor.__get__»
  unfold descrGet
  rw [dga_obj]
  refine wpAny_bind (wpAny_pure ?_)
  unfold descrGetter descrCheckInstance
  unfold descrNameAndClass isInstance
  simp only [KF.owner_class]
  repeat lk
  refine ⟨Code.quiet_builtin _ (by decide +kernel),?_⟩
  refine codeAny_builtin KF.entry_class ?_
  unfold Builtin.«object.__class__» shownTypeOf
  repeat lk
  exact h
theorem wN {M:Model} {h:Heap} (X:K.In h) (kx:nV K D):Looks M h (Builtin.ObjectAttr.find (.ref x) (.ref D) "__class__") (.bind (.builtin "getset_descriptor.__get__") (.builtin "object.__class__")):=by
  have L1:=looks_findIn (M:=M) X kx.a
  have L2:Looks M h (Builtin.ObjectAttr.getOf (some (.builtin "object.__class__"))) (some (.builtin "getset_descriptor.__get__")):=looks_specialIn X kx.n
  have L3:=looks_takesIn (M:=M) X kx.tk
  unfold Builtin.ObjectAttr.find
  refine L1.andThen (L2.andThen ?_)
  unfold Builtin.ObjectAttr.dataDescriptor?
  refine Looks.andThen (a:=some (.builtin "getset_descriptor.__get__",.builtin "object.__class__")) (L3.andThen .now) ?_
  exact Looks.tag .now
theorem uE {Q:Option Value→Shared→Prop} (X:K.In s.heap) (L0:Looks (model prog w) s.heap (typeOf (.ref x)) (.ref D)) (kx:nV K D)
    (h:Q (some (.ref D)) { s with toks:=s.toks + 1 }):wpAny (model prog w) A (getAttr? (.ref x) "__class__") Q E s:=by
  obtain ⟨hh,g,d,t,os⟩:=s
  have L1:=looks_findIn (M:=model prog w) X kx.ga
  have L2:=looks_findIn (M:=model prog w) X kx.gt
  have L3:=wN (M:=model prog w) (x:=x) X kx
  have L4:Looks (model prog w) hh (isInstance (.ref x) (.type "BaseException")) true:=L0.andThen (looks_mroIn X kx.b)
  unfold getAttr? getAttrBy? getAttrBy
  refine wpAny_bind (wpAny_mkText (wpAny_bind (wpAny_attempt (wpAny_holding ?_))))
  refine wpAny_bind (L0.at ?_)
  refine wpAny_bind (L1.at ?_)
  show wpAny _ _ (getAttrByItsOwn _ _ _ _ _ _) _ _ _
  unfold getAttrByItsOwn hookBefore
  refine wpAny_bind ?_
  show wpAny _ _ (typeLookup (.ref D) "__getattr__") _ _ _
  refine L2.at (wpAny_bind (wpAny_attempt (wpAny_holding ?_)))
  show wpAny _ _ (boundAndCalled _ _ _) _ _ _
  unfold boundAndCalled
  rw [v9]
  refine wpAny_bind (wpAny_pure (wpAny_call ?_))
  refine codeAny_call_builtin PySem.F.attr_ValueError.ga.plain PySem.F.entry_bexc_ga (@check_slot (model prog w) _ _ _ "BaseException.__getattribute__" "BaseException" "__getattribute__" (.ref x) _ [] _ (by decide +kernel) (by decide +kernel) L4 (PySem.F.args_bexc_ga _ _) ?_)
  refine wpAny_bind (wpAny_pure (wpAny_bind (wpAny_pure (wpAny_bind (L0.at (wpAny_bind (L3.at ?_)))))))
  show wpAny _ _ (holding [Value.builtin "object.__class__"] (call (.builtin "getset_descriptor.__get__") [.builtin "object.__class__",.ref x,.ref D]) >>= ret) _ _ _
  refine wpAny_bind (wpAny_holding (wpAny_call (yW (s:=⟨hh,g,d,t + 1,os⟩) X L0 kx.m ?_)))
  refine wpAny_pure ?_
  refine handed_on rfl ?_
  exact wpAny_pure h
end
def nW (x:Addr) (D:Addr):HO:=.ext fun h=>∃ oe,h.get? x = some oe∧oe.cls = .ref D
theorem rQ {M:Model} {h:Heap} {x D:Addr} (q:∃ oe,h.get? x = some oe∧oe.cls = .ref D):Looks M h (typeOf (.ref x)) (.ref D):=by
  obtain ⟨oe,he,hc⟩:=q
  rw [← hc]
  exact (Looks.ld he).andThen .now
theorem wQ {K:Frag} {x D:Addr} (kx:nV K D):KitX K (.ref x) (.ref D) (fun h=>∃ oe,h.get? x = some oe∧oe.cls = .ref D) where
  ty:=fun _ _ _ q=>rQ q
  it:=fun _ _ X _=>by
    obtain ⟨cdD,hcD,_⟩:=any_some kx.dct
    unfold clsIn at hcD
    split at hcD
    · rename_i c' d' cd' sl' ho
      intro A' Q' E' s' k q
      unfold isType loadHead
      have ho':=k _ _ (X _ _ ho)
      exact wpAny_bind (wpAny_loadPart ho' (wpAny_pure q))
    · cases hcD
  ne:=fun h tp dd its n sl X htp=>by
    obtain ⟨cdD,hcD,_⟩:=any_some kx.dct
    refine Bool.eq_false_iff.mpr fun q=>?_
    cases beq_iff_eq.mp q
    unfold clsIn at hcD
    split at hcD
    · rename_i c' d' cd' sl' ho
      have z:=(X _ _ ho).symm.trans htp
      cases z
    · cases hcD
  ca:=fun X q k=>uE X (rQ q) kx k
theorem rY {X:Cx} {pins:List (Addr × Obj)} {σ:St} {H:Hp} {s:Shared} {A:Around} {E:Value→Shared→Prop} {Q:Value→Shared→Prop} {c:Value} {b:Bool} {x D:Addr} (I:Inv X pins σ H s) (hx:H x = some (nW x D)) (kx:nV X.K D)
    (e:kitOne X.K (.ref D) c = some b) (h:∀ tk,Q (.bool b) { s with toks:=tk }):wpAny (model X.prog X.w) A (call (.builtin "isinstance") [.ref x,c]) Q E s:=by
  obtain ⟨q,_,_⟩:=(show ObjOk X.prog X.w H s.heap x (nW x D) from I.hok x _ hx)
  exact kia_one (wQ kx) I.kIn q e (fun z=>nomatch z) h
section
variable {X:Cx} {pins:List (Addr × Obj)} {σ:St} {H H':Hp} {s s2:Shared} {a:Addr} {o:HO}
theorem HOk.track {P:Program} {w:World} {h:Heap} (hok:HOk P w H h) (na:H a = none) (new:ObjOk P w (upd H a o) h a o):HOk P w (upd H a o) h:=fun b u e=>by
  by_cases hb:b = a
  · subst hb
    rw [aq] at e; cases e
    exact new
  · rw [aB hb] at e
    exact (hok b u e).stay (fun _ _ _ q=>q) (fun c q=>by rw [aB (av q na)]; exact q) fun c xs q=>by rw [aB (av q na)]; exact q
theorem Inv.track (I:Inv X pins σ H s) (J:Inv X pins σ H' s2) (un:Un (frs X.stack) [] H H' s.heap s2.heap) (sa:s.heap.get? a = none) (na:H' a = none) (new:ObjOk X.prog X.w (upd H' a o) s2.heap a o):Inv X pins σ (upd H' a o) s2:=by
  have nb:∀ b u,s.heap.get? b = some u→b ≠ a:=fun b u q z=>by rw [z,sa] at q; cases q
  refine I.call' (ch:=[]) (J.os.trans I.os.symm) ⟨un.keep,un.slot,fun b u q n hx=>by rw [aB (nb b u q)]; exact un.free b u q n hx,un.there,fun b xs q=>?_,fun b u xs q=>?_,fun b ps q=>?_⟩ (J.hok.track na new) J.bare (fun b z=>absurd z (by simp))
  · have z:=un.tups b xs q
    rw [aB (av z na)]; exact z
  · have z:=un.frzs b u xs q
    rw [aB (av z na)]; exact z
  · obtain ⟨m,z⟩:=un.tbls b ps q
    exact ⟨m,by rw [aB (av z na)]; exact z⟩
theorem Inv.gone {M:Model} {A:Around} {E:Value→Shared→Prop} {i:Nat} {n:Str} {pos:Pos} {Q:Unit→Shared→Prop} (I:Inv X pins σ H s) (hN:X.N.Nodup) (hi:X.N[i]? = some n) (hl:X.env.kindOf n = some .local)
    (h:∀ s',Inv X pins (σ.set i none) H s'→Q () s'):wpAny M A (do bindName X.env n .none; unbindBehindTheSuite X.env n pos) Q E s:=by
  obtain ⟨m,hn,hlo⟩:=id I.loc
  obtain ⟨oL,_,_,hoL,_⟩:=id hn
  have cne:=I.cne
  refine wpAny_nameGoes_keeps hl hn (by rw [I.ok.kind]; rfl) fun h' v hn' hs=>h _ ?_
  have hok:HOk X.prog X.w H h':=fun b ob e=>by
    refine (I.hok b ob e).stay (fun c w' hc q=>(hs.2 c ?_).trans q) (fun _ q=>q) fun _ _ q=>q
    rintro rfl
    rcases hc with z | z
    · rw [← z,I.free] at e; cases e
    · rw [I.free] at z; cases z
  refine ⟨I.ok,I.os,I.bare,⟨fun b o e n hb hx=>?_,fun b o e n hb hx=>?_,I.base.free,fun b o e hx=>?_,I.base.tups,I.base.frzs,I.base.tbls⟩,⟨_,hn',fun j y v' e1 e2 e3=>?_⟩,fun y c e=>?_,I.free,I.freeC,fun p hp=>?_,hok,by simpa using I.len⟩
  · exact (hs.2 b (Nat.ne_of_lt (Nat.lt_of_lt_of_le (Heap.lt_size e) I.ok.above))).trans (I.base.keep b o e n hb hx)
  · obtain ⟨sl,e1⟩:=I.base.slot b o e n hb hx
    exact ⟨sl,(hs.2 b (Nat.ne_of_lt (Nat.lt_of_lt_of_le (Heap.lt_size e) I.ok.above))).trans e1⟩
  · obtain ⟨o',e1⟩:=I.base.there b o e hx
    exact ⟨o',(hs.2 b (Nat.ne_of_lt (Nat.lt_of_lt_of_le (Heap.lt_size e) I.ok.above))).trans e1⟩
  · by_cases hj:j = i
    · subst hj
      rw [List.getElem?_set] at e2
      simp at e2
    · rw [List.getElem?_set_ne (Ne.symm hj)] at e2
      obtain ⟨u',r',q⟩:=hlo j y v' e1 e2 e3
      refine ⟨u',r',?_⟩
      rcases q with ⟨k,e⟩ | ⟨k,c,e,z⟩
      · refine .inl ⟨k,?_⟩
        have:y ≠ n:=fun e=>hj (mf hN e1 (e ▸ hi))
        simp [this,e]
      · exact .inr ⟨k,c,e,z.sameBut hs (cne y c e)⟩
  · obtain ⟨w',z⟩:=I.cell y c e
    exact ⟨w',z.sameBut hs (cne y c e)⟩
  · obtain ⟨e,n,ne,nf,d⟩:=I.pin p hp
    exact ⟨(hs.2 p.1 ne).trans e,n,ne,nf,d⟩
end
def Ends.gone (D:Ends) (i:Nat):Ends:={ nx:=fun σ H=>D.nx (σ.set i none) H,rt:=D.rt,bk:=fun σ H=>D.bk (σ.set i none) H,ct:=fun σ H=>D.ct (σ.set i none) H }
theorem xG {X:Cx} {body:List Stmt} {t:(St→XK)→TS} {th:TS} {x n:Str} {i:Nat} {C:Value} {np hpos pos:Pos} {b₀:Stmt} {suite:List Stmt}
    (hb:∀ (pn:List (Addr × Obj)) (xe:Value→Shared→Prop) (E:St→XK),nX (CX1 X.prog X.w) { X with pn:=pn,xe:=xe } E→PSs { X with pn:=pn,xe:=xe } body (t E))
    (hg:Gl X x) (hm:X.mg x = some C) (hN:X.N.Nodup) (hi:X.N[i]? = some n) (hl:X.env.kindOf n = some .local) (hh:∀ e:Value,PSs (X.hand e) (b₀ :: suite) th)
    (hst:X.stack = X.env :: X.outer:=by rfl) (hfr:X.env.frame = some X.env.locals:=by rfl) (hd:(x == ("__debug__":Str)) = false:=by decide) :
    PS X (.Try body [.ExceptHandler (some (.Name x np)) (some n) (b₀ :: suite) hpos] [] [] pos)
      (fun D σ H=>t (fun σ' cls _ H'=>PySem.W.exmOne X.K cls C = some true∧∃ Dx,cls = .ref Dx∧∀ a,H' a = none→th (D.gone i) (σ'.set i (some (.ref a))) (upd H' a (nW a Dx))) D σ H):=by
  intro pins s σ H D I h
  refine wpAny_Try_except (wpAny_mono (hb (X.pn ++ pins) (fun e s₁=>wpAny (model X.prog X.w) X.A (noteFrame e X.env) (fun _ s₂=>wpAny (model X.prog X.w) X.A (setFlight e none) (fun _ s₃ =>
    wpAny (model X.prog X.w) X.A (handleBy e X.env [.ExceptHandler (some (.Name x np)) (some n) (b₀ :: suite) hpos]) (SP X pins D) X.xe s₃) X.xe s₂) X.xe s₁) _ ?_ [] s σ H D I.inTry h) (fun f s1 hf=>?_) fun e s1 z=>z)
  · intro pins' σ' H1 s1 e s2 I1 x1
    obtain ⟨a,T,cls,a0,H',rfl,⟨hx,Dx,rfl,q⟩,sa,na,J,fl,back⟩:=CX1.behind I1 x1
    have ok:=I.ok
    have fr:X.A.frames = some (X.env :: X.outer):=by rw [← hst]; exact ok.frames
    refine wpAny_looks_onW fr hfr (by rw [← hst]; exact fl) fun h4 held up4=>wpAny_landsW held fun h5 fl5 up5=>?_
    obtain ⟨T5,J5,t5,sT5,nT5,_⟩:=back h5 _ fl5 (up4.trans up5)
    have I5:Inv X pins σ' H' { s2 with heap:=h5 }:=J5.outTry ok
    have LT:PySem.W.Looks (model X.prog X.w) h5 (typeOf (.ref a)) (.ref Dx):=by
      obtain ⟨oe,vs,oT,ts,he,⟨hc,_⟩,_⟩:=t5
      exact rQ ⟨oe,he,hc⟩
    refine wpAny_handleBy_cons (codeAny_handlers_test (iQ (X:=X.hand (.ref a)) I5.hand hg hm ?_ hd)) (by intro q; cases q)
    refine (PySem.W.exm_one I5.kIn LT hx).here ?_
    refine codeAny_handlers_suite_as (lands_againW fl5 fun h6 fl6 up6=>?_)
    obtain ⟨T6,J6,t6,_,_,un6⟩:=back h6 _ fl6 ((up4.trans up5).trans up6)
    have I6:Inv X pins σ' (upd H' a (nW a Dx)) { s2 with heap:=h6 }:=by
      refine Inv.track (s:=s1) (H:=H1) (I1.outTry ok) (J6.outTry ok) un6 sa na ?_
      obtain ⟨oe,vs,oT,ts,he,⟨hc,_⟩,_⟩:=t6
      exact ⟨⟨oe,he,hc⟩,⟨oe,he⟩,fun h1 h2 ⟨o1,e1,c1⟩ k=>⟨o1,k o1 e1,c1⟩⟩
    refine gP (X:=X.hand (.ref a)) (v:=.ref a) (I6.hand (e:=.ref a)) hN hi (.inl hl) rfl (fun s7 I7=>?_) (.inr hl)
    refine wpAny_mono (hh (.ref a) pins s7 _ _ (D.gone i) I7 (q a na)) (fun f s3 hs=>?_) (fun _ _ z=>z.elim)
    cases f with
    | next=>obtain ⟨σ3,H3,I3,q3⟩:=hs; exact Inv.gone (I3.unhand ok) hN hi hl fun s' J'=>⟨_,H3,J',q3⟩
    | brk=>obtain ⟨σ3,H3,I3,q3⟩:=hs; exact Inv.gone (I3.unhand ok) hN hi hl fun s' J'=>⟨_,H3,J',q3⟩
    | cont=>obtain ⟨σ3,H3,I3,q3⟩:=hs; exact Inv.gone (I3.unhand ok) hN hi hl fun s' J'=>⟨_,H3,J',q3⟩
    | ret u=>obtain ⟨v,σ3,H3,I3,r3,q3⟩:=hs; exact Inv.gone (I3.unhand ok) hN hi hl fun s' J'=>⟨v,_,H3,J',r3,q3⟩
  · cases f with
    | next=>obtain ⟨σ3,H3,I3,q3⟩:=hf; exact aK pins s1 σ3 H3 D (I3.outTry I.ok) q3
    | brk=>obtain ⟨σ3,H3,I3,q3⟩:=hf; exact ⟨σ3,H3,I3.outTry I.ok,q3⟩
    | cont=>obtain ⟨σ3,H3,I3,q3⟩:=hf; exact ⟨σ3,H3,I3.outTry I.ok,q3⟩
    | ret u=>obtain ⟨v,σ3,H3,I3,r3,q3⟩:=hf; exact ⟨v,σ3,H3,I3.outTry I.ok,r3,q3⟩
end L2
end
section
namespace L2
open PySem PySem.Spec PySem.Calls PyProof.Rows
section
variable {P:Program} {w:World} {K:PySem.W.Frag} {mg:Str→Option Value} {base:Heap}
theorem Fun.ok1 {x qual:Str} {st:Stmt} {f:Addr} {fd:FuncData} {N ps:List Str} {k:Nat} {sp:Sp} (F:Fun K x qual st f fd) (S:aU N ps (aw st)) (len:∀ vs H Q E,sp vs H Q E→vs.length = ps.length)
    (hbody:∀ (cdv:Value) (A:Around) (outer:List Env) (s:Shared) (H:Hp) (vs:List V) (Q:VK) (E:XK),Room k (A.deeper (envOfC qual (aw st) s.heap.objs.size f cdv))→sp vs H Q E →
      ∃ t,PSs (jg (CX1 P w) P w K mg base N qual (aw st) f cdv A outer s H E) (gb st) t∧t { nx:=fun _ H'=>Q .non H',rt:=Q } (dW N vs) H):FnOk P w K mg base (CX1 P w) (k + 1) f fd ps sp:=by
  obtain ⟨oc,od,kV,doc,pm,an,cdv,ct,osl,rfl,lk,hcd⟩:=F.ex
  exact Aa lk hcd S len fun A outer s H vs Q E hr hsp=>hbody cdv A outer s H vs Q E hr hsp
structure RoomH (k:Nat) (A:Around):Prop where
  dp:A.depth + 3 * k + 5 < recursionLimit
  un:A.units + 16 * k + 200 < cLine
theorem Room.h {k:Nat} {A:Around} (r:Room k A):RoomH k A:=⟨r.dp,r.un⟩
theorem RoomH.mark {k:Nat} {A:Around} {e:Option Value} (r:RoomH k A):RoomH k (A.mark e):=⟨r.dp,r.un⟩
theorem RoomH.deeper {k:Nat} {A:Around} (r:RoomH (k + 1) A) (env:Env):RoomH k (A.deeper env) :=
  ⟨by have:=r.dp; show A.depth + 1 + 3 * k + 5 < _; omega,by have:=r.un; show A.units + 3 + 16 * k + 200 < _; omega⟩
structure sR (P:Program) (w:World) (K:PySem.W.Frag) (mg:Str→Option Value) (base:Heap) (k:Nat) (f:Addr) (fd:FuncData) (ps:List Str) (sp:Sp):Prop where
  len:∀ vs H Q E,sp vs H Q E→vs.length = ps.length
  run:∀ (A:Around) (outer:List Env) (s:Shared) (H:Hp) (args:Args) (us:List Value) (vs:List V) (Q:VK) (E:XK),RoomH k A→uh P w K mg base A outer s H→BindsTo s fd args (ps.zip us)→Vals vs us→sp vs H Q E →
    codeAny (model P w) A (.call (.ref f) args) (CR CX0 outer P w H s Q E) s
def Cx.uncalm (X:Cx):Cx:={ X with calm:=false,xe:=fun _ _=>False }
theorem Fun.okH {x qual:Str} {st:Stmt} {f:Addr} {fd:FuncData} {N ps:List Str} {k:Nat} {sp:Sp} (F:Fun K x qual st f fd) (S:aU N ps (aw st)) (len:∀ vs H Q E,sp vs H Q E→vs.length = ps.length)
    (hbody:∀ (cdv:Value) (A:Around) (outer:List Env) (s:Shared) (H:Hp) (vs:List V) (Q:VK) (E:XK),RoomH k (A.deeper (envOfC qual (aw st) s.heap.objs.size f cdv))→sp vs H Q E →
      ∃ t,PSs (jg CX0 P w K mg base N qual (aw st) f cdv A outer s H E).uncalm (gb st) t∧t { nx:=fun _ H'=>Q .non H',rt:=Q } (dW N vs) H):sR P w K mg base (k + 1) f fd ps sp:=by
  obtain ⟨oc,od,kV,doc,pm,an,cdv,ct,osl,rfl,lk,hcd⟩:=F.ex
  refine ⟨len,fun A outer s H args us vs Q E hr e0 hb r hsp=>?_⟩
  have hl:=len _ _ _ _ hsp
  have KX:K.In s.heap:=e0.mod.kin.keeps fun b o e=>(e0.bs b o e).1
  have lim:s.heap.NoLimit:=e0.mod.nolimit.keeps fun b o e=>(e0.bs b o e).1
  have hkind:∀ y ∈ ps.zip us,(aw st).names.lookup y.1 = some .local∨((aw st).names.lookup y.1 = some .cell∧((cellsFrom (s.heap.objs.size + 1) (aw st).names []).lookup y.1).isSome = true):=fun ⟨n,v⟩ hy=>by
    rcases S.par n (List.of_mem_zip hy).1 with q | q
    · exact .inl q
    · exact .inr ⟨q,PySem.W.cellsFrom_some _ _ _ (.inl q)⟩
  refine codeAny_call_function (by have:=hr.dp; omega) (KX _ _ lk) rfl S.co S.gen rfl (PySem.W.codeRec_of KX hcd) (hb _ _ _ _ ?_)
  refine wpAny_newFunctionEnv_cells S.kind hkind fun env he s1 x=>?_
  subst he
  refine ⟨lim.keeps x.toInCall.keep,codeAny_func ?_⟩
  obtain ⟨t,ht,hq⟩:=hbody cdv A outer s H vs Q E (hr.deeper _) hsp
  have e1:uh P w K mg base { A with handled:=none } outer s H:=⟨e0.frames,e0.mod,e0.bs,e0.bsz,e0.funs,e0.frf,e0.hok,e0.bare⟩
  have I0:Inv (jg CX0 P w K mg base N qual (aw st) f cdv { A with handled:=none } outer s H E) [] (dW N vs) H s1:=nD S rfl e1 hl r x
  have I:Inv (jg CX0 P w K mg base N qual (aw st) f cdv A outer s H E).uncalm [] (dW N vs) H s1 :=
    ⟨⟨I0.ok.mod,I0.ok.kind,I0.ok.glob,I0.ok.blt,I0.ok.above,I0.ok.inj,I0.ok.has,I0.ok.cab,(fun z=>nomatch z),Around.frames_deeper e0.frames,I0.ok.stk,I0.ok.exf,I0.ok.bs,I0.ok.bsz,I0.ok.noex,I0.ok.exfs,I0.ok.funs,I0.ok.frf⟩,
      I0.os,I0.bare,I0.base,I0.loc,I0.cell,I0.free,I0.freeC,I0.pin,I0.hok,I0.len⟩
  refine wpAny_mono (ht [] s1 (dW N vs) H _ I hq) (fun fl s' hs=>?_) fun e s' hs=>hs.elim
  have fin:∀ {σ':St} {H':Hp} {v:V} {u:Value},Inv (jg CX0 P w K mg base N qual (aw st) f cdv A outer s H E).uncalm [] σ' H' s'→RelV v u→Q v H'→CE outer P w H s Q u s' :=
    fun {σ' H' v u} J rv q=>⟨v,H',J.os,J.bare,J.base,J.hok,rv,q⟩
  cases fl with
  | ret u =>
    obtain ⟨v,σ',H',J,rv,q⟩:=hs
    exact fin J rv q
  | next =>
    obtain ⟨σ',H',J,q⟩:=hs
    exact fin (v:=V.non) (u:=Value.none) J rfl q
  | brk =>
    obtain ⟨_,_,_,q⟩:=hs
    exact False.elim q
  | cont =>
    obtain ⟨_,_,_,q⟩:=hs
    exact False.elim q
end
section
variable {X:Cx} {k:Nat} {f:Addr} {fd:FuncData} {ps:List Str} {sp:Sp} {dvs:List V} {ds:List Value} {E:XK} {x:Str} {p pos:Pos} {e:Expr} {es:List Expr} {t:TA}
theorem xq (F:sR X.prog X.w X.K X.mg X.base k f fd ps sp) (hr:RoomH k X.A) (hg:Gl X x) (hm:X.mg x = some (.ref f)) (hk:PySem.W.keepIn X.K (.ref f) = true) (hb:Binds X.K fd ps ds) (hd:Vals dvs ds)
    (ha:PA X (e :: es) t) (hdb:(x == ("__debug__":Str)) = false:=by decide) (he:starEach (e :: es) X.env = (false,eval e X.env) :: starEach es X.env:=by rfl) (hpl:(backTo pos (starEach es X.env)).any (·.1) = false:=by rfl) :
    PE X (.Call (.Name x p) (e :: es) [] pos) (gQ sp dvs E t):=by
  intro pins s σ H Q I h
  refine wpAny_Call_Name_kw (iQ I hg hm ?_ hdb)
  refine PySem.W.callWith_K (h₀:=X.base) I.ok.mod.kin hk (thn (ha pos pins s σ H _ I h) fun us s1 ⟨vs,H1,I1,r,q⟩=>⟨I1.kIn,?_⟩) he hpl
  have r2:Vals (vs ++ dvs) (us ++ ds):=r.append hd
  have hl:(us ++ ds).length = ps.length:=by rw [← r2.length]; exact F.len _ _ _ _ q
  refine wpAny_call (codeAny_mono (F.run X.A X.stack s1 H1 ⟨us,[]⟩ (us ++ ds) (vs ++ dvs) Q E hr I1.env0 (hb s1 us I1.kIn hl) r2 q) fun r s' hq=>?_)
  cases r with
  | error e=>exact False.elim hq
  | ok fl =>
    cases fl with
    | ret u=>exact I1.after hq
    | next=>exact False.elim hq
    | brk=>exact False.elim hq
    | cont=>exact False.elim hq
end
end L2
end
section
namespace L2
open PySem PySem.Spec PySem.Calls PyProof.Rows
def blV (bs:List Bool):List V:=bs.map V.bl
theorem pF:∀ {bs:List Bool} {us:List Value},Vals (blV bs) us→us = bs.map Value.bool
  | [],_,.nil=>rfl
  | b :: bs,_,.cons r t=>by
    have e:=pF (bs:=bs) t
    rw [e,show _ = Value.bool b from r]
    rfl
theorem mB {h:Heap}:∀ (bs:List Bool),∃ as,ReadsAll h (bs.map Value.bool) (bs.map PyData.bool) as
  | []=>⟨_,.nil⟩
  | b :: bs=>let ⟨_,r⟩:=mB bs; ⟨_,.cons (.bool b) r⟩
theorem rG:∀ (bs:List Bool),(bs.map PyData.bool).all Shape.bool.has = true
  | []=>rfl
  | b :: bs=>by rw [List.map_cons,List.all_cons,rG bs]; rfl
theorem pX:∀ (bs:List Bool),(bs.map Value.bool).countP (isBoolOf true) = bs.count true
  | []=>rfl
  | b :: bs=>by
    rw [List.map_cons,List.countP_cons,pX bs,List.count_cons]
    cases b <;> rfl
section
variable {X:Cx}
theorem uM:MtM X "list.count" (fun x vs H Q=>∃ l bs,x = .ref l∧vs = [.bl true]∧H l = some (.lst (blV bs))∧Q (.int (bs.count true:Nat)) H):=by
  intro pins s σ H x vs v us Q I rx rv h
  obtain ⟨l,bs,rfl,rfl,hH,q⟩:=h
  cases rx
  obtain ⟨u,rfl,ru⟩:=eY rv
  obtain rfl:u = Value.bool true:=ru
  obtain ⟨_,its,n,r,e⟩:=(show ObjOk X.prog X.w H s.heap l (.lst (blV bs)) from I.hok l _ hH)
  obtain rfl:=pF r
  obtain ⟨as,ra⟩:=mB (h:=s.heap) bs
  refine call_meets PySem.F.slot_list_count ⟨_,e,rfl⟩ PySem.F.entry_list_count (PySem.F.args_list_count_2 _ _) (SeqAt.list_countAt l (bs.map Value.bool).toArray n none #[] (.bool true) (isBoolOf true)) ⟨e,fun y hy=>eq_isBoolOf true ra (rG bs) y (by simpa using hy) _ _,?_⟩
  rw [show ∀ (x:List Value),x.toArray.toList = x from fun _=>rfl,pX]
  exact ⟨.int _,H,I.tok _,⟨_,rfl⟩,q⟩
theorem uN:MtM X "list.index" (fun x vs H Q=>∃ l bs j,x = .ref l∧vs = [.bl true]∧H l = some (.lst (blV bs))∧bs.length ≤ 1000∧bs[j]? = some true∧(∀ m,m < j→bs[m]? = some false)∧Q (.int (j:Nat)) H):=by
  intro pins s σ H x vs v us Q I rx rv h
  obtain ⟨l,bs,j,rfl,rfl,hH,hlen,hj,hno,q⟩:=h
  cases rx
  obtain ⟨u,rfl,ru⟩:=eY rv
  obtain rfl:u = Value.bool true:=ru
  obtain ⟨_,its,n,r,e⟩:=(show ObjOk X.prog X.w H s.heap l (.lst (blV bs)) from I.hok l _ hH)
  obtain rfl:=pF r
  obtain ⟨as,ra⟩:=mB (h:=s.heap) bs
  obtain ⟨hj',hjt⟩:=List.getElem?_eq_some_iff.mp hj
  refine call_meets PySem.F.slot_list_index ⟨_,e,rfl⟩ PySem.F.entry_list_index (PySem.F.args_list_index_2 _ _) (SeqAt.list_indexAt l (bs.map Value.bool).toArray n none #[] (.bool true) (isBoolOf true) j (by simpa using hj') (by omega) ?_ ?_) ⟨e,fun y hy=>eq_isBoolOf true ra (rG bs) y (by simpa using hy) _ _,?_⟩
  · simp [hjt,isBoolOf]
  · intro m hm hmj
    obtain ⟨hm',hmf⟩:=List.getElem?_eq_some_iff.mp (hno m hmj)
    simp [hmf,isBoolOf]
  · exact ⟨.int _,H,I.tok _,⟨_,rfl⟩,q⟩
end
def clV:V→Value
  | .ref a=>.ref a
  | .ty n=>.type n
  | _=>.none
theorem bO {X:Cx}:fM X (.builtin "isinstance") (fun xs H Q=>∃ x D c b,xs = [.ref x,c]∧((∃ a,c = .ref a)∨∃ n,c = .ty n)∧H x = some (nW x D)∧nV X.K D∧PySem.W.kitOne X.K (.ref D) (clV c) = some b∧Q (.bl b) H):=by
  intro pins s σ H xs us Q I r h
  obtain ⟨x,D,c,b,rfl,hc,hx,kx,e,q⟩:=h
  cases r with
  | cons r1 rt =>
    obtain ⟨u,rfl,ru⟩:=eY rt
    obtain rfl:=(show _ = Value.ref x from r1)
    have hu:u = clV c:=by
      rcases hc with ⟨a,rfl⟩ | ⟨n,rfl⟩
      · exact ru
      · exact ru
    subst hu
    exact rY I hx kx e fun tk=>⟨.bl b,H,I.tok _,rfl,q⟩
end L2
end
section
namespace L2
open PySem PySem.Spec PySem.Calls PyProof.Rows
section
variable {P:Program} {w:World} {K:PySem.W.Frag} {mg:Str→Option Value} {base:Heap}
end
section
variable {X:Cx} {CX:CXT} {k:Nat} {f C:Addr} {fd:FuncData} {ps ks:List Str} {sp:Sp} {E:St→XK} {x m:Str} {p pos apos kpos:Pos} {e o:Expr} {es:List Expr} {kws:List Keyword} {te ta:TE} {t tk:TA} {nm:Option Str}
  {g:List Value→List Value→List Value} {gV:List V→List V→List V}
end
section
variable {K:PySem.W.Frag} {σ:St} {H:Hp} {tA tK:TA} {ds es fs:List D} {d e:D} {dvs:List V} {R:List D→D→Prop} {B:List D→Addr→Prop} {E:XK} {Q:VK} {C:Addr} {gV:List V→List V→List V} {ta tb:TE}
theorem zD (h1:RE K ta σ H d) (h2:RE K tb σ H e) (n1:noL d = true) (n2:noL e = true) (dp:dS d ≤ 20):RE K (tOp (Bl K false) ta tb) σ H (.bl (eqD d e)):=fun H1 s Q q =>
  h1 H1 s _ fun v H2 s2 q2=>h2 H2 (s.trans s2) _ fun w H3 s3 q3=>⟨d,e,s3.dat q2,q3,n1,n2,dp,q _ _ (s2.trans s3) (Dat.blI _)⟩
theorem cy {x D:Addr} {c:V} {b:Bool} {i:Nat} (hx:H x = some (nW x D)) (kx:nV K D) (kit:PySem.W.kitOne K (.ref D) (clV c) = some b) (hc:(∃ a,c = .ref a)∨∃ n,c = .ty n) (e:σ[i]? = some (some (.ref x)):=by rfl) :
    RE K (tCB (fun xs H Q=>∃ x D c b,xs = [.ref x,c]∧((∃ a,c = .ref a)∨∃ n,c = .ty n)∧H x = some (nW x D)∧nV K D∧PySem.W.kitOne K (.ref D) (clV c) = some b∧Q (.bl b) H) (bB (eJ i) (bB (tC c) cH))) σ H (.bl b):=fun H1 s Q q =>
  ⟨_,e,x,D,c,b,rfl,hc,s _ _ hx,kx,kit,q _ _ (Same.refl _) (Dat.blI _)⟩
theorem ve {i:Nat} {l:Addr} {bs:List Bool} (hl:H l = some (.lst (blV bs))) (e:σ[i]? = some (some (.ref l)):=by rfl) :
    RE K (tBM K "list" (fun x vs H Q=>∃ l bs,x = .ref l∧vs = [.bl true]∧H l = some (.lst (blV bs))∧Q (.int (bs.count true:Nat)) H) (eJ i) (bB (tC (.bl true)) cH)) σ H (.int (bs.count true:Nat)):=fun H1 s Q q =>
  ⟨_,e,.inl ⟨rfl,_,SqL.of (s _ _ hl)⟩,l,bs,rfl,rfl,s _ _ hl,q _ _ (Same.refl _) (Dat.intI _)⟩
theorem vj {i j:Nat} {l:Addr} {bs:List Bool} (hl:H l = some (.lst (blV bs))) (hn:bs.length ≤ 1000) (h1:bs[j]? = some true) (h2:∀ m,m < j→bs[m]? = some false) (e:σ[i]? = some (some (.ref l)):=by rfl) :
    RE K (tBM K "list" (fun x vs H Q=>∃ l bs j,x = .ref l∧vs = [.bl true]∧H l = some (.lst (blV bs))∧bs.length ≤ 1000∧bs[j]? = some true∧(∀ m,m < j→bs[m]? = some false)∧Q (.int (j:Nat)) H) (eJ i) (bB (tC (.bl true)) cH)) σ H (.int (j:Nat)):=fun H1 s Q q =>
  ⟨_,e,.inl ⟨rfl,_,SqL.of (s _ _ hl)⟩,l,bs,j,rfl,rfl,s _ _ hl,hn,h1,h2,q _ _ (Same.refl _) (Dat.intI _)⟩
end
section
variable {X:Cx}
end
end L2
end
section
namespace L2
open PySem PySem.Spec PySem.Calls PyProof.Rows PySem.W PySem.Builtin PySem.Builtin.ObjectAttr
section
variable {prog:Program} {w:World} {A:Around} {E:Value→Shared→Prop} {K:Frag} {C fI:Addr} {us:List Value}
end
section
variable {h:Heap} {x b:Addr} {o:Obj} {vs:Array Value}
end
section
variable {prog:Program} {w:World} {A:Around} {E:Value→Shared→Prop} {s:Shared} {K:Frag} {x C:Addr} {ox:Obj} {name:Str} {v:Value} {vs:Array Value}
end
section
variable {X:Cx} {pins:List (Addr × Obj)} {σ:St} {H:Hp} {s s':Shared} {C fI e:Addr} {fd:FuncData} {k:Nat} {ps:List Str} {a0:Value}
end
end L2
end
section
namespace L2
open PySem PySem.Spec PySem.Calls PyProof.Rows
abbrev cD (h:Heap) (it t:Addr) (i:Nat):Prop:=h.get? it = some { cls:=.type "tuple_iterator",dict:=none,data:=.fields #[.ref t,rawInt i],slots:=#[] }
section
variable {prog:Program} {w:World} {A:Around} {E:Value→Shared→Prop} {s:Shared} {it t:Addr} {i:Nat} {items:Array Value}
theorem jq {x:Value} {Q:Value→Shared→Prop} (a1:cD s.heap it t i) (a2:s.heap.IsTuple t items) (hx:items[i]? = some x)
    (q:∀ h',cD h' it t (i + 1)→Heap.SameBut it s.heap h'→Q x { s with heap:=h' }):wpAny (model prog w) A (Builtin.SmallTypes.nextOf (.ref it)) Q E s:=by
  have ty:s.TypeIs (.ref it) "tuple_iterator":=⟨_,a1,rfl⟩
  obtain ⟨⟨c2,d2,dt2,s2⟩,a2,hc,n,hd⟩:=a2
  obtain rfl:c2 = .type "tuple":=hc
  obtain rfl:dt2 = .seq items n:=hd
  unfold Builtin.SmallTypes.nextOf
  refine wpAny_bind (wpAny_callSpecial?_slot (name:=Str.ofString "__next__") ty PySem.F.slot_tuple_iterator_next (wpAny_call_entry PySem.F.slot_tuple_iterator_next ty PySem.F.entry_tuple_iterator_next ?_ (PySem.F.args_tuple_iterator_next_1 _)))
  obtain ⟨h0,g0,d0,t0,o0⟩:=s
  unfold cD rawInt at a1
  wp_walk
  rw [Int.toNat_natCast,hx]
  refine wpAny_bind (wpAny_setField_rec a1 (by simp) fun h' b1 b2=>wpAny_pure ⟨x,rfl,wpAny_pure (q h' ?_ b2)⟩)
  show h'.get? it = some _
  have e:((i + 1:Nat):Int) = (i:Int) + 1:=by omega
  rw [e]
  exact b1
theorem sL {Q:Value→Shared→Prop} (hh:A.handled = none) (a1:cD s.heap it t i) (a2:s.heap.IsTuple t items) (hx:items[i]? = none)
    (q:∀ h' e,Heap.ExtBut it s.heap h'→(∃ o,h'.get? e = some o∧o.cls = .type "StopIteration")→E (.ref e) { s with heap:=h' }):wpAny (model prog w) A (Builtin.SmallTypes.nextOf (.ref it)) Q E s:=by
  have ty:s.TypeIs (.ref it) "tuple_iterator":=⟨_,a1,rfl⟩
  obtain ⟨⟨c2,d2,dt2,s2⟩,a2,hc,n,hd⟩:=a2
  obtain rfl:c2 = .type "tuple":=hc
  obtain rfl:dt2 = .seq items n:=hd
  unfold Builtin.SmallTypes.nextOf
  refine wpAny_bind (wpAny_callSpecial?_slot (name:=Str.ofString "__next__") ty PySem.F.slot_tuple_iterator_next (wpAny_call_entry PySem.F.slot_tuple_iterator_next ty PySem.F.entry_tuple_iterator_next ?_ (PySem.F.args_tuple_iterator_next_1 _)))
  obtain ⟨h0,g0,d0,t0,o0⟩:=s
  unfold cD rawInt at a1
  wp_walk
  rw [Int.toNat_natCast,hx]
  refine wpAny_bind (wpAny_rule (wpAny_bind (wpAny_setField_rec a1 (by simp) fun h' b1 b2=>?_)))
  unfold Builtin.SmallTypes.stopIteration
  wp_walk
  exact wpAny_raiseNew_none hh (q _ _ ((b2.extBut.push _).push _) ⟨_,Heap.get?_push_size _ rfl,rfl⟩)
end
abbrev yg (t:Addr):Obj:={ cls:=.type "tuple_iterator",data:=.fields #[.ref t,.int 0 0] }
theorem Inv.turnedL {X:Cx} {pins:List (Addr × Obj)} {σ:St} {H:Hp} {s:Shared} {h':Heap} {t':Nat} {its:List Addr} (I:Inv X pins σ H s) (k:∀ b o,b ∉ its→s.heap.get? b = some o→h'.get? b = some o)
    (ok:∀ b ∈ its,H b = none∧b ≠ X.env.locals∧(b ∈ X.ex∨X.s₀.heap.objs.size ≤ b)∧(∀ x c,X.env.cells.lookup x = some c→c ≠ b)∧∀ p ∈ X.pn ++ pins,p.1 ≠ b):Inv X pins σ H { s with heap:=h',toks:=t' }:=by
  have out:∀ b u,H b = some u→b ∉ its:=fun b u e z=>by rw [(ok b z).1] at e; cases e
  refine I.step (g':=s.gens) (d':=s.drawn) (ch:=its) (fun b hb=>⟨(ok b hb).2.2.1,(ok b hb).2.1,(ok b hb).2.2.2⟩) (fun b o _ _ hc e _=>k b o hc e) (fun b o _ _ hc e _=>⟨o.slots,k b o hc e⟩) (fun _ _ _ _ n=>n)
    (fun b o hc e=>⟨o,k b o hc e⟩) (fun _ _ e=>e) (fun _ _ _ e=>e) (fun b ps e=>⟨#[],by rw [Array.append_empty]; exact e⟩) (fun m hm=>?_) (fun b u e=>?_) I.bare
  · obtain ⟨o,es,ep,ho,r⟩:=hm
    exact ⟨o,es,ep,k _ o (fun z=>(ok _ z).2.1 rfl) ho,r⟩
  · refine (I.hok b u e).stay (fun c v hc q=>k c v ?_ q) (fun _ q=>q) fun _ _ q=>q
    rcases hc with z | z
    · rw [z]; exact out b u e
    · exact out c _ z
end L2
end
section
namespace L2
open PySem PySem.Spec PySem.Calls PyProof.Rows
section
variable {prog:Program} {w:World} {A:Around} {E:Value→Shared→Prop} {s:Shared} {z TI TO i1 i2 t1 t2:Addr} {k:Nat} {xs ys:Array Value}
theorem vM {x y a b:Value} {Q:Value→Shared→Prop} (hz:IsZip s.heap z TI TO .none) (hI:IsPair s.heap TI (.ref i1) (.ref i2)) (hO:IsPair s.heap TO a b) (h1:cD s.heap i1 t1 k) (h2:cD s.heap i2 t2 k)
    (l1:s.heap.IsTuple t1 xs) (l2:s.heap.IsTuple t2 ys) (hx:xs[k]? = some x) (hy:ys[k]? = some y) (D:ZipApart z TI TO i1 i2 t1 t2)
    (q:∀ h',IsZip h' z TI TO (rawInt s.heap.objs.size)→IsPair h' TO x y→cD h' i1 t1 (k + 1)→cD h' i2 t2 (k + 1)→h'.get? s.heap.objs.size = some { cls:=.type "tuple",data:=.seq #[x,y] } →
      (∀ b o,b ≠ z→b ≠ TO→b ≠ i1→b ≠ i2→s.heap.get? b = some o→h'.get? b = some o)→Q (.ref s.heap.objs.size) { s with heap:=h' }):wpAny (model prog w) A (Builtin.«zip.__next__» ⟨[.ref z],[]⟩) (fun fin s'=>∃ v,fin = .done (.ret v)∧Q v s') E s:=by
  show wpAny _ _ (field (.ref z) 2 >>= _) _ _ _
  refine wpAny_bind (wpAny_field hz rfl rfl ?_)
  show wpAny _ _ (field (.ref z) 3 >>= _) _ _ _
  refine wpAny_bind (wpAny_field hz rfl rfl ?_)
  refine wpAny_bind (wpAny_seqItems hI rfl ?_)
  refine wpAny_bind (wpAny_bind (wpAny_field hz rfl rfl (wpAny_pure ?_)))
  refine wpAny_bind (wpAny_rule ?_)
  refine wpAny_bind (wpAny_field hz rfl rfl ?_)
  refine wpAny_bind (wpAny_setField_rec hz (by simp) fun ha za sa=>?_)
  replace za:IsZip ha z TI TO .ellipsis:=za
  rw [show (#[Value.ref i1,Value.ref i2]:Array Value).toList.zipIdx = [(.ref i1,0),(.ref i2,1)] from rfl,List.forIn_cons]
  have h1a:cD ha i1 t1 k:=(sa.2 i1 D.i1z).trans h1
  have h2a:cD ha i2 t2 k:=(sa.2 i2 D.i2z).trans h2
  have l1a:ha.IsTuple t1 xs:=l1.extBut sa.extBut D.l1z
  have l2a:ha.IsTuple t2 ys:=l2.extBut sa.extBut D.l2z
  have hOa:IsPair ha TO a b:=(sa.2 TO D.TOz).trans hO
  refine wpAny_bind (wpAny_bind (wpAny_bind (wpAny_onRaise (wpAny_bind (jq (s:={ s with heap:=ha }) h1a l1a hx fun hb h1b sb=>wpAny_pure ?_)))))
  replace sb:Heap.SameBut i1 ha hb:=sb
  have hOb:IsPair hb TO a b:=(sb.2 TO D.TOi1).trans hOa
  refine wpAny_bind (wpAny_seqItems (s:={ s with heap:=hb }) hOb rfl ?_)
  refine wpAny_bind (wpAny_updateSeq_pair (s:={ s with heap:=hb }) hOb fun hc hOc sc=>?_)
  replace sc:Heap.SameBut TO hb hc:=sc
  replace hOc:IsPair hc TO x b:=hOc
  refine wpAny_bind (wpAny_letGo (wpAny_pure ?_))
  have h2c:cD hc i2 t2 k:=(sc.2 i2 (Ne.symm D.TOi2)).trans ((sb.2 i2 (Ne.symm D.i12)).trans h2a)
  have l2c:hc.IsTuple t2 ys:=(l2a.extBut sb.extBut D.l2i1).extBut sc.extBut D.l2TO
  show wpAny _ _ (forIn [(Value.ref i2,1)] _ _) _ _ _
  rw [List.forIn_cons]
  refine wpAny_bind (wpAny_bind (wpAny_onRaise (wpAny_bind (jq (s:={ s with heap:=hc }) h2c l2c hy fun hd h2d sd=>wpAny_pure ?_))))
  replace sd:Heap.SameBut i2 hc hd:=sd
  have hOd:IsPair hd TO x b:=(sd.2 TO D.TOi2).trans hOc
  refine wpAny_bind (wpAny_seqItems (s:={ s with heap:=hd }) hOd rfl ?_)
  refine wpAny_bind (wpAny_updateSeq_pair (s:={ s with heap:=hd }) hOd fun he hOe se=>?_)
  replace se:Heap.SameBut TO hd he:=se
  replace hOe:IsPair he TO x y:=hOe
  refine wpAny_bind (wpAny_letGo (wpAny_pure ?_))
  show wpAny _ _ (forIn [] _ _) _ _ _
  rw [List.forIn_nil]
  refine wpAny_pure ?_
  show wpAny _ _ (seqItems? (.ref TO) >>= _) _ _ _
  refine wpAny_bind (wpAny_seqItems (s:={ s with heap:=he }) hOe rfl ?_)
  refine wpAny_bind (wpAny_newTuple ?_)
  have sze:he.objs.size = s.heap.objs.size:=by rw [se.1,sd.1,sc.1,sb.1,sa.1]
  have ze:IsZip he z TI TO .ellipsis:=(se.2 z (Ne.symm D.TOz)).trans ((sd.2 z (Ne.symm D.i2z)).trans ((sc.2 z (Ne.symm D.TOz)).trans ((sb.2 z (Ne.symm D.i1z)).trans za)))
  have zf:IsZip (he.push { cls:=.type "tuple",data:=.seq #[x,y] }) z TI TO .ellipsis:=Heap.get?_push_of_some _ ze
  have tf:(he.push { cls:=.type "tuple",data:=.seq #[x,y] }).get? s.heap.objs.size = some { cls:=.type "tuple",data:=.seq #[x,y] }:=Heap.get?_push_at sze.symm rfl
  have of:IsPair (he.push { cls:=.type "tuple",data:=.seq #[x,y] }) TO x y:=Heap.get?_push_of_some _ hOe
  have f1:cD (he.push { cls:=.type "tuple",data:=.seq #[x,y] }) i1 t1 (k + 1):=Heap.get?_push_of_some _ ((se.2 i1 (Ne.symm D.TOi1)).trans ((sd.2 i1 D.i12).trans ((sc.2 i1 (Ne.symm D.TOi1)).trans h1b)))
  have f2:cD (he.push { cls:=.type "tuple",data:=.seq #[x,y] }) i2 t2 (k + 1):=Heap.get?_push_of_some _ ((se.2 i2 (Ne.symm D.TOi2)).trans h2d)
  have kf:∀ b o,b ≠ z→b ≠ TO→b ≠ i1→b ≠ i2→s.heap.get? b = some o→(he.push { cls:=.type "tuple",data:=.seq #[x,y] }).get? b = some o:=fun b o n1 n2 n3 n4 e =>
    Heap.get?_push_of_some _ ((se.2 b n2).trans ((sd.2 b n4).trans ((sc.2 b n2).trans ((sb.2 b n3).trans ((sa.2 b n1).trans e)))))
  generalize he.push { cls:=.type "tuple",data:=.seq #[x,y] } = hf at zf tf of f1 f2 kf
  have lz:z < s.heap.objs.size:=Heap.lt_size hz
  show wpAny _ _ (Builtin.SmallTypes.ownedTupleHandOut (.ref z) (.ref he.objs.size) >>= _) _ _ _
  rw [sze]
  refine wpAny_bind (wpAny_bind (wpAny_setField_rec (s:={ s with heap:=hf }) zf (by simp) fun hg zg sg=>wpAny_setField_rec (s:={ s with heap:=hg }) zg (by simp) fun hh zh sh=>wpAny_pure ⟨_,rfl,?_⟩))
  replace sg:Heap.SameBut z hf hg:=sg
  replace sh:Heap.SameBut z hg hh:=sh
  have on:∀ b,b ≠ z→hh.get? b = hf.get? b:=fun b n=>(sh.2 b n).trans (sg.2 b n)
  refine q hh zh ?_ ?_ ?_ ?_ fun b o n1 n2 n3 n4 e=>(on b n1).trans (kf b o n1 n2 n3 n4 e)
  · exact (on TO D.TOz).trans of
  · exact (on i1 D.i1z).trans f1
  · exact (on i2 D.i2z).trans f2
  · exact (on _ (Nat.ne_of_gt lz)).trans tf
theorem vK {a b:Value} {Q:Fin→Shared→Prop} (hh:A.handled = none) (hz:IsZip s.heap z TI TO .none) (hI:IsPair s.heap TI (.ref i1) (.ref i2)) (hO:IsPair s.heap TO a b) (h1:cD s.heap i1 t1 k)
    (l1:s.heap.IsTuple t1 xs) (hx:xs[k]? = none) (D:ZipApart z TI TO i1 i2 t1 t2)
    (q:∀ h' e,(∀ b o,b ≠ z→b ≠ i1→s.heap.get? b = some o→h'.get? b = some o)→(∃ o,h'.get? e = some o∧o.cls = .type "StopIteration")→E (.ref e) { s with heap:=h' }):wpAny (model prog w) A (Builtin.«zip.__next__» ⟨[.ref z],[]⟩) Q E s:=by
  show wpAny _ _ (field (.ref z) 2 >>= _) _ _ _
  refine wpAny_bind (wpAny_field hz rfl rfl ?_)
  show wpAny _ _ (field (.ref z) 3 >>= _) _ _ _
  refine wpAny_bind (wpAny_field hz rfl rfl ?_)
  refine wpAny_bind (wpAny_seqItems hI rfl ?_)
  refine wpAny_bind (wpAny_bind (wpAny_field hz rfl rfl (wpAny_pure ?_)))
  refine wpAny_bind (wpAny_rule ?_)
  refine wpAny_bind (wpAny_field hz rfl rfl ?_)
  refine wpAny_bind (wpAny_setField_rec hz (by simp) fun ha za sa=>?_)
  replace za:IsZip ha z TI TO .ellipsis:=za
  rw [show (#[Value.ref i1,Value.ref i2]:Array Value).toList.zipIdx = [(.ref i1,0),(.ref i2,1)] from rfl,List.forIn_cons]
  have h1a:cD ha i1 t1 k:=(sa.2 i1 D.i1z).trans h1
  have l1a:ha.IsTuple t1 xs:=l1.extBut sa.extBut D.l1z
  refine wpAny_bind (wpAny_bind (wpAny_bind (wpAny_onRaise (wpAny_bind (sL (s:={ s with heap:=ha }) hh h1a l1a hx fun hb e sb he=>?_)))))
  replace sb:Heap.ExtBut i1 ha hb:=sb
  have zb:IsZip hb z TI TO .ellipsis:=sb z _ (Ne.symm D.i1z) za
  obtain ⟨oe,hoe,hce⟩:=he
  have nez:e ≠ z:=fun y=>by rw [y,zb] at hoe; cases hoe; simp at hce
  refine wpAny_setField_rec (s:={ s with heap:=hb }) zb (by simp) fun hc zc sc=>q hc e (fun b o n1 n2 hb'=>?_) ⟨oe,(sc.2 e nez).trans hoe,hce⟩
  exact (sc.2 b n1).trans (sb b o n2 ((sa.2 b n1).trans hb'))
end
theorem yv (t1 t2:Addr) (xs ys:Array Value) :
    Meets (Builtin.«zip.__new__» ⟨[.type "zip",.ref t1,.ref t2],[]⟩) (fun _ R s=>s.heap.IsTuple t1 xs∧s.heap.IsTuple t2 ys ∧
      ∀ h',IsZip h' (s.heap.objs.size + 4) (s.heap.objs.size + 2) (s.heap.objs.size + 3) .none→IsPair h' (s.heap.objs.size + 2) (.ref s.heap.objs.size) (.ref (s.heap.objs.size + 1))→IsPair h' (s.heap.objs.size + 3) .none .none →
        cD h' s.heap.objs.size t1 0→cD h' (s.heap.objs.size + 1) t2 0→(∀ b o,s.heap.get? b = some o→h'.get? b = some o)→R (.ok (.ret (.ref (s.heap.objs.size + 4)))) { s with heap:=h' }) :=
  .of_wp fun _ _ _ _ s q=>by
    obtain ⟨h0,g0,d0,t0,o0⟩:=s
    obtain ⟨a1,a2,q⟩:=q
    have self1:=sub_zip
    have b1:Heap.IsTuple (Shared.heap ⟨h0,g0,d0,t0,o0⟩) t1 xs:=a1
    have b2:Heap.IsTuple (Shared.heap ⟨h0.push (yg t1),g0,d0,t0,o0⟩) t2 ys:=Heap.IsTuple.push a2 _
    wp_walk using wpAny_pyIter_tuple b1,wpAny_pyIter_tuple b2
    refine ⟨_,rfl,?_⟩
    have n1:(h0.push (yg t1)).objs.size = h0.objs.size + 1:=Heap.size_push _ _
    simp only [Heap.size_push]
    refine q _ ?_ ?_ ?_ ?_ ?_ fun b o e=>?_
    · exact Heap.get?_push_at (by simp [Heap.size_push]) rfl
    · exact Heap.get?_push_of_some _ (Heap.get?_push_of_some _ (Heap.get?_push_at (by simp [Heap.size_push]) rfl))
    · exact Heap.get?_push_of_some _ (Heap.get?_push_at (by simp [Heap.size_push]) rfl)
    · exact Heap.get?_push_of_some _ (Heap.get?_push_of_some _ (Heap.get?_push_of_some _ (Heap.get?_push_of_some _ (Heap.get?_push_at (by simp [Heap.size_push]) rfl))))
    · exact Heap.get?_push_of_some _ (Heap.get?_push_of_some _ (Heap.get?_push_of_some _ (Heap.get?_push_at (by simp [Heap.size_push]) rfl)))
    · exact Heap.get?_push_of_some _ (Heap.get?_push_of_some _ (Heap.get?_push_of_some _ (Heap.get?_push_of_some _ (Heap.get?_push_of_some _ e))))
theorem uy {prog:Program} {w:World} {A:Around} {E:Value→Shared→Prop} {s:Shared} {t1 t2:Addr} {xs ys:Array Value} {Q:Value→Shared→Prop} (a1:s.heap.IsTuple t1 xs) (a2:s.heap.IsTuple t2 ys)
    (q:∀ h',IsZip h' (s.heap.objs.size + 4) (s.heap.objs.size + 2) (s.heap.objs.size + 3) .none→IsPair h' (s.heap.objs.size + 2) (.ref s.heap.objs.size) (.ref (s.heap.objs.size + 1))→IsPair h' (s.heap.objs.size + 3) .none .none →
      cD h' s.heap.objs.size t1 0→cD h' (s.heap.objs.size + 1) t2 0→(∀ b o,s.heap.get? b = some o→h'.get? b = some o)→Q (.ref (s.heap.objs.size + 4)) { s with heap:=h' }):wpAny (model prog w) A (call (.type "zip") [.ref t1,.ref t2]) Q E s :=
  callType_new PySem.F.called_zip (by decide) (PySem.F.typeCall_zip_2 _ _) (PySem.F.newCall_zip_2 _ _) (fun o=>PySem.F.args_object_init_3 o _ _) PySem.F.entry_zip_new (yv t1 t2 xs ys) ⟨a1,a2,fun h' z1 z2 z3 z4 z5 kk=>⟨⟨_,z1,rfl⟩,q h' z1 z2 z3 z4 z5 kk⟩⟩
def Itz (K:PySem.W.Frag) (a b:Addr) (xs ys:List V):It:=⟨fun i H=>i < xs.length∧i < ys.length∧SqT K H a xs∧SqT K H b ys,fun i H x H'=>∃ p u v,H p = none∧x = .ref p∧xs[i]? = some u∧ys[i]? = some v∧H' = upd H p (.tup [u,v]),fun i H=>i = xs.length∧SqT K H a xs⟩
theorem ym {P:Program} {w:World} {K:PySem.W.Frag} {elts:List Expr} {c1} {ps:Pos} (a b z TI TO i1 i2:Addr) (xs ys:List V) (D:ZipApart z TI TO i1 i2 a b):lA P w K (.Tuple elts c1 ps) (Itz K a b xs ys) [z,TI,TO,i1,i2] z
    (fun i h=>∃ c d,IsZip h z TI TO .none∧IsPair h TI (.ref i1) (.ref i2)∧IsPair h TO c d∧cD h i1 a i∧cD h i2 b i) where
  mem:=by simp
  obj:=fun i h ⟨c,d,q1,q2,q3,q4,q5⟩ b hb=>by
    simp only [List.mem_cons,List.not_mem_nil,or_false] at hb
    rcases hb with rfl | rfl | rfl | rfl | rfl
    · exact ⟨_,q1,fun v e=>by cases e⟩
    · exact ⟨_,q2,fun v e=>by cases e⟩
    · exact ⟨_,q3,fun v e=>by cases e⟩
    · exact ⟨_,q4,fun v e=>by cases e⟩
    · exact ⟨_,q5,fun v e=>by cases e⟩
  keep:=fun i h h' ⟨c,d,q1,q2,q3,q4,q5⟩ k=>⟨c,d,k z (by simp) _ q1,k TI (by simp) _ q2,k TO (by simp) _ q3,k i1 (by simp) _ q4,k i2 (by simp) _ q5⟩
  item:=by
    intro X hP hw hK hc i pins s σ H E I hf st hg
    subst hP hw hK
    obtain ⟨c,d,q1,q2,q3,q4,q5⟩:=st
    obtain ⟨hi,hj,ha,hb⟩:=hg
    obtain ⟨us,ru,pu,_⟩:=I.tuple ha
    obtain ⟨vs,rv,pv,_⟩:=I.tuple hb
    have hx:xs[i]? = some xs[i]:=List.getElem?_eq_getElem hi
    have hy:ys[i]? = some ys[i]:=List.getElem?_eq_getElem hj
    obtain ⟨u,hu,r1⟩:=ru.get hx
    obtain ⟨v,hv,r2⟩:=rv.get hy
    have ty:s.TypeIs (.ref z) "zip":=⟨_,q1,rfl⟩
    unfold pyNext
    refine wpAny_bind (wpAny_attempt (wpAny_callSpecial?_slot (name:=Str.ofString "__next__") ty PySem.F.slot_zip_next (wpAny_call_entry PySem.F.slot_zip_next ty PySem.F.entry_zip_next ?_ (PySem.F.args_zip_next_1 _))))
    refine vM (x:=u) (y:=v) q1 q2 q3 q4 q5 (show s.heap.IsTuple a us.toArray from pu) (show s.heap.IsTuple b vs.toArray from pv) (by simpa using hu) (by simpa using hv) D fun h' w1 w2 w3 w4 w5 w6=>wpAny_pure ⟨_,rfl,?_⟩
    refine wpAny_letOwnedTupleGo_zip (s:={ s with heap:=h' }) w1 fun h2 e2 same=>?_
    replace same:Heap.SameBut z h' h2:=same
    have lz:z < s.heap.objs.size:=Heap.lt_size q1
    have lTI:TI < s.heap.objs.size:=Heap.lt_size q2
    have lTO:TO < s.heap.objs.size:=Heap.lt_size q3
    have l1:i1 < s.heap.objs.size:=Heap.lt_size q4
    have l2:i2 < s.heap.objs.size:=Heap.lt_size q5
    have low:∀ b ∈ [z,TI,TO,i1,i2],b < s.heap.objs.size:=fun b hb=>by
      simp only [List.mem_cons,List.not_mem_nil,or_false] at hb
      rcases hb with rfl | rfl | rfl | rfl | rfl <;> assumption
    have tup2:h2.get? s.heap.objs.size = some { cls:=.type "tuple",data:=.seq #[u,v] }:=(same.2 _ (Nat.ne_of_gt lz)).trans w5
    have I1:Inv X pins σ (upd H s.heap.objs.size (.tup [xs[i],ys[i]])) { s with heap:=s.heap.push { cls:=.type "tuple",data:=.seq #[u,v] },toks:=s.toks } :=
      I.laid (o:=.tup [xs[i],ys[i]]) (fun b ob q=>Heap.get?_push_of_some _ q) (Nat.le_refl _) ⟨by rw [sizeLine_eq]; simp,[u,v],.cons r1 (.cons r2 .nil),IsTup.new _ _⟩
    have frees:∀ b,b < s.heap.objs.size→upd H s.heap.objs.size (.tup [xs[i],ys[i]]) b = H b:=fun b hb=>aB (Nat.ne_of_lt hb)
    have I2:Inv X pins σ (upd H s.heap.objs.size (.tup [xs[i],ys[i]])) { s with heap:=h2,toks:=s.toks }:=by
      refine Inv.turnedL (s:={ s with heap:=s.heap.push { cls:=.type "tuple",data:=.seq #[u,v] },toks:=s.toks }) (h':=h2) (its:=[z,TI,TO,i1,i2]) (t':=s.toks) I1 (fun b o hb q=>?_) (fun b hb=>?_)
      · simp only [List.mem_cons,List.not_mem_nil,or_false,not_or] at hb
        obtain ⟨n1,n2,n3,n4,n5⟩:=hb
        by_cases hbs:b = s.heap.objs.size
        · subst hbs
          have q':(s.heap.push { cls:=.type "tuple",data:=.seq #[u,v] }).get? s.heap.objs.size = some o:=q
          rw [Heap.get?_push_at rfl rfl] at q'
          cases q'
          exact tup2
        · have q':s.heap.get? b = some o:=(Heap.get?_push_ne _ _ _ hbs).symm.trans q
          exact (same.2 b n1).trans (w6 b o n1 n3 n4 n5 q')
      · obtain ⟨f0,f1,f2,f3,f4,f5⟩:=hf b hb
        exact ⟨by rw [frees b (low b hb)]; exact f0,f1,f3,f4,f5⟩
    refine ⟨.ref s.heap.objs.size,_,I2,rfl,⟨_,_,_,I.hok.fresh (Nat.le_refl _),rfl,hx,hy,rfl⟩,⟨u,v,e2,?_,?_,?_,?_⟩,fun b hb=>?_⟩
    · exact (same.2 TI D.TIz).trans (w6 TI _ D.TIz D.TITO D.TIi1 D.TIi2 q2)
    · exact (same.2 TO D.TOz).trans w2
    · exact (same.2 i1 D.i1z).trans w3
    · exact (same.2 i2 D.i2z).trans w4
    · rw [frees b (low b hb)]; exact (hf b hb).1
  done:=by
    intro X hP hw hK hc i pins s σ H E I hf st hg
    subst hP hw hK
    obtain ⟨c,d,q1,q2,q3,q4,q5⟩:=st
    obtain ⟨hi,ha⟩:=hg
    obtain ⟨us,ru,pu,_⟩:=I.tuple ha
    have lr:=ru.length
    have ty:s.TypeIs (.ref z) "zip":=⟨_,q1,rfl⟩
    unfold pyNext
    refine wpAny_bind (wpAny_attempt (wpAny_callSpecial?_slot (name:=Str.ofString "__next__") ty PySem.F.slot_zip_next (wpAny_call_entry PySem.F.slot_zip_next ty PySem.F.entry_zip_next ?_ (PySem.F.args_zip_next_1 _))))
    refine vK (I.ok.hd hc) q1 q2 q3 q4 (show s.heap.IsTuple a us.toArray from pu) (by simp; omega) D fun h' e kk ⟨o,ho,hco⟩=>?_
    refine wpAny_bind (wpAny_isInstance (T:="StopIteration") (b:=true) ⟨o,ho,hco⟩ isSubtype_stop (wpAny_pure ⟨rfl,?_⟩))
    refine Inv.turnedL (s:=s) (h':=h') (its:=[z,i1]) (t':=s.toks) I (fun b o hb q=>kk b o (fun y=>hb (by simp [y])) (fun y=>hb (by simp [y])) q) (fun b hb=>?_)
    obtain ⟨f0,f1,f2,f3,f4,f5⟩:=hf b (by
      simp only [List.mem_cons,List.not_mem_nil,or_false] at hb
      rcases hb with rfl | rfl <;> simp)
    exact ⟨f0,f1,f3,f4,f5⟩
  self:=fun A i s Q E ⟨_,_,q1,_⟩ q=>wpAny_pyIter_zip q1 q
def AZ (K:PySem.W.Frag) (ta:TA):TI:=fun σ H R=>ta σ H fun vs H1=>∃ a b xs ys,vs = [.ref a,.ref b]∧SqT K H1 a xs∧SqT K H1 b ys∧R (Itz K a b xs ys) H1
theorem xy {X:Cx} {a b:Expr} {ta:TA} {p pos ps:Pos} {elts:List Expr} {c1} (hg:Gl X "zip") (hm:X.mg "zip" = none) (ha:PA X [a,b] ta) (hs:starEach [a,b] X.env = (false,eval a X.env) :: starEach [b] X.env:=by rfl) (hpl:(backTo pos (starEach [b] X.env)).any (·.1) = false:=by rfl) :
    PI X (.Tuple elts c1 ps) (.Call (.Name "zip" p) [a,b] [] pos) (AZ X.K ta):=by
  intro pins s σ H R I h
  refine Call_ (jm I hg hm we (PyProof.Rows.callWith_type1 (thn (ha pos pins s σ H _ I h) fun us s1 ⟨vs,H1,I1,r1,q1⟩=>?_) hs hpl))
  obtain ⟨t1,t2,xs,ys,ev,hq1,hq2,q⟩:=q1
  subst ev
  cases r1 with
  | cons e1 rt =>
    obtain ⟨u2,rfl,e2⟩:=eY rt
    cases e1
    cases e2
    obtain ⟨us,ru,pu,_⟩:=I1.tuple hq1
    obtain ⟨vs,rv,pv,_⟩:=I1.tuple hq2
    have lt1:t1 < s1.heap.objs.size:=pu.lt
    have lt2:t2 < s1.heap.objs.size:=pv.lt
    refine uy pu pv fun h' z1 z2 z3 z4 z5 kk=>?_
    refine wpAny_pyIter_zip (s:={ s1 with heap:=h' }) z1 ?_
    have ne:∀ {x y:Nat},x < y→x ≠ y:=fun h=>Nat.ne_of_lt h
    have gt:∀ {x y:Nat},y < x→x ≠ y:=fun h=>Nat.ne_of_gt h
    have ap:ZipApart (s1.heap.objs.size + 4) (s1.heap.objs.size + 2) (s1.heap.objs.size + 3) s1.heap.objs.size (s1.heap.objs.size + 1) t1 t2 :=
      ⟨ne (by omega),ne (by omega),ne (by omega),ne (by omega),ne (by omega),gt (by omega),gt (by omega),gt (by omega),gt (by omega),ne (by omega),ne (Nat.lt_of_lt_of_le lt1 (by omega)),ne (Nat.lt_of_lt_of_le lt1 (by omega)),ne lt1,ne (Nat.lt_of_lt_of_le lt1 (by omega)),
        ne (Nat.lt_of_lt_of_le lt2 (by omega)),ne (Nat.lt_of_lt_of_le lt2 (by omega)),ne lt2,ne (Nat.lt_of_lt_of_le lt2 (by omega))⟩
    refine ⟨s1.heap.objs.size + 4,[s1.heap.objs.size + 4,s1.heap.objs.size + 2,s1.heap.objs.size + 3,s1.heap.objs.size,s1.heap.objs.size + 1],_,_,H1,rfl,I1.kept (t':=s1.toks) kk,ym t1 t2 _ _ _ _ _ xs ys ap,⟨.none,.none,z1,z2,z3,z4,z5⟩,fun b hb=>?_,q⟩
    have lb:s1.heap.objs.size ≤ b:=by
      simp only [List.mem_cons,List.not_mem_nil,or_false] at hb
      rcases hb with rfl | rfl | rfl | rfl | rfl
      · exact Nat.le_add_right _ _
      · exact Nat.le_add_right _ _
      · exact Nat.le_add_right _ _
      · exact Nat.le_refl _
      · exact Nat.le_add_right _ _
    exact I1.fpOk lb (I1.hok.fresh lb)
end L2
end
section
namespace L2
open PySem PySem.Spec PySem.Calls PyProof.Rows
theorem pB (σ:St) {i j:Nat} (ne:i ≠ j) (a b c d:Option V):((((σ.set i a).set j b).set i c).set j d) = (σ.set i c).set j d:=by
  rw [List.set_comm _ _ (Ne.symm ne),List.set_set,List.set_set]
theorem Bs {K:PySem.W.Frag} {σ:St} {H:Hp} {ta:TA} {te:TE} {mk:St→St} {i j:Nat} {cs ds:List D} (h:RA K ta σ H [.tup cs,.tup ds]) (hl:cs.length = ds.length) (hc:cs.length ≤ 1000) (es:List D) (hn:es.length = cs.length) (ne:i ≠ j)
    (h0:((mk σ).set i none).set j none = mk σ)
    (turn:∀ H1 (k:Nat) c d e v w,Same H H1→cs[k]? = some c→ds[k]? = some d→es[k]? = some e→Dat K H1 c v→Dat K H1 d w→RE K te (((mk σ).set i (some v)).set j (some w)) H1 e) :
    RC K (fT (AZ K ta) mk (rR K 2 (iu (cf i) (iu (cf j) uC))) eV te) σ H es:=fun H1 s Q q=>by
  refine h H1 s _ fun vs H2 s2 q2=>?_
  obtain ⟨v1,v2,e,k1,k2⟩:=fO q2
  subst e
  obtain ⟨a,us,e1,ha,da⟩:=k1.tupE
  obtain ⟨b,ws,e2,hb,db⟩:=k2.tupE
  subst e1 e2
  have lu:=da.length
  have lw:=db.length
  refine ⟨a,b,us,ws,rfl,ha,hb,fun l hl2=>?_⟩
  have s02:Same H H2:=s.trans s2
  refine ⟨fun n m σ' G=>m = us.length - n∧n ≤ us.length∧(∃ z1 z2,σ' = ((mk σ).set i z1).set j z2)∧Same H2 G∧∃ ys,G l = some (.lst ys)∧Dats K G (es.take n) ys,⟨us.length,by omega,Nat.zero_le _,⟨none,none,h0.symm⟩,aC hl2 _,[],aq,by rw [List.take_zero]; exact Dats.nil⟩,?_⟩
  rintro n m σ' G ⟨rfl,hle,⟨z1,z2,rfl⟩,sG,ys,hy,dy⟩
  by_cases hlt:n < us.length
  · refine .inr ⟨⟨hlt,by omega,sG.sqT ha,sG.sqT hb⟩,fun σ'' G'=>(∃ z1 z2,σ'' = ((mk σ).set i z1).set j z2)∧Same H2 G'∧∃ ys,G' l = some (.lst ys)∧Dats K G' (es.take (n + 1)) ys,fun σ'' G' w=>⟨us.length - (n + 1),by omega,rfl,hlt,w.1,w.2⟩,fun x G' y=>?_⟩
    obtain ⟨p,u,w,hp,rfl,hu,hw,rfl⟩:=y
    have sn:Same G (upd G p (.tup [u,w])):=aC hp _
    have s2n:=sG.trans sn
    obtain ⟨c,ec,hcv⟩:=da.getV hu
    obtain ⟨d,ed,hdv⟩:=db.getV hw
    have hne:n < es.length:=by omega
    refine ⟨p,[u,w],rfl,SqT.of aq,rfl,u,_,rfl,w,_,rfl,rfl,?_⟩
    simp only [eV,if_true]
    rw [pB _ ne]
    refine RE.use (turn _ n c d es[n] u w (s02.trans s2n) ec ed (List.getElem?_eq_getElem hne) (s2n.dat hcv) (s2n.dat hdv)) fun v G4 s4 q4=>?_
    have hy4:=s4 _ _ (sn _ _ hy)
    have lys:ys.length = n:=by rw [← dy.length,List.length_take]; omega
    refine ⟨ys,hy4,bQ (by omega),⟨_,_,rfl⟩,fun x o hx=>?_,ys ++ [v],aq,?_⟩
    · rw [aB (av hx hl2)]
      exact s4 _ _ (s2n _ _ hx)
    · have g:dv K G4 (upd G4 l (.lst (ys ++ [v]))):=But.grow (t:=l) (But.upd (Same.refl G4).but) hy4 aq
      rw [List.take_add_one,List.getElem?_eq_getElem hne]
      exact Dats.append (Dats.mono g _ (s4.dats (sn.dats dy))) (Dats.cons (Dat.mono g _ q4) Dats.nil)
  · have e:n = us.length:=by omega
    subst e
    refine .inl ⟨⟨rfl,sG.sqT ha⟩,?_⟩
    rw [List.take_of_length_le (by omega)] at dy
    exact q l ys G (s2.free hl2) (s2.trans sG) hy dy
end L2
end
section
namespace L2
open PySem PySem.Spec PySem.Calls PyProof.Rows
end L2
end
section
namespace L2
open PySem PySem.Spec PySem.Calls PyProof.Rows
theorem PS.nox {X:Cx} {st:Stmt} {t:TS} (h:PS X.nox st t):PS X st t:=fun pins s σ H D I hw=>wpAny_mono (h pins s σ H D (I.wish _) hw) (fun f s1 q=>by
  cases f with
  | next=>obtain ⟨σ',H',J,z⟩:=q; exact ⟨σ',H',J.unwish,z⟩
  | brk=>obtain ⟨σ',H',J,z⟩:=q; exact ⟨σ',H',J.unwish,z⟩
  | cont=>obtain ⟨σ',H',J,z⟩:=q; exact ⟨σ',H',J.unwish,z⟩
  | ret u=>obtain ⟨v,σ',H',J,r,z⟩:=q; exact ⟨v,σ',H',J.unwish,r,z⟩) fun _ _ z=>z.elim
def mF (K:PySem.W.Frag) (R:List Ar→D→Prop) (B:List Ar→Addr→Prop):Sp:=fun vs H Q E =>
  ∃ as,Ars K H as vs∧((∃ d,R as d∧∀ v H',Same H H'→Dat K H' d v→Q v H')∨∃ C,B as C∧∀ H',Same H H'→E (.ref C) none H')
section
variable {K:PySem.W.Frag} {σ:St} {H:Hp} {tA:TA} {ar:List Ar} {d:D} {R:List Ar→D→Prop} {B:List Ar→Addr→Prop} {E:XK} {Q:VK} {C:Addr}
theorem nL (h:RB K tA σ H ar) (r:R ar d):RE K (gQ (mF K R B) [] E tA) σ H d:=fun H1 s Q q =>
  h H1 s _ fun vs H2 s2 q2=>⟨ar,by rw [List.append_nil]; exact q2,.inl ⟨d,r,fun v H3 s3 q3=>q _ _ (s2.trans s3) q3⟩⟩
theorem nN (h:RB K tA σ H ar) (r:B ar C) (q:∀ H',Same H H'→E (.ref C) none H'):gQ (mF K R B) [] E tA σ H Q :=
  h.use fun vs H2 s2 q2=>⟨ar,by rw [List.append_nil]; exact q2,.inr ⟨C,r,fun H3 s3=>q _ (s2.trans s3)⟩⟩
end
theorem xr {X:Cx} {E:St→XK} {o sl e:Expr} {es:List Expr} {ps0 pos:Pos} {tf:TE} {t:TA} (menu:List (Addr × Sp)) (hf:PE X (.Subscript o sl ps0) tf) (ha:PA X (e :: es) t)
    (hm:∀ f sp,(f,sp) ∈ menu→PySem.W.keepIn X.K (.ref f) = true∧∃ (CX:CXT) (k:Nat) (fd:FuncData) (ps:List Str),FnOk X.prog X.w X.K X.mg X.base CX k f fd ps sp∧Room k X.A∧Binds X.K fd ps []∧nX CX X E)
    (he:starEach (e :: es) X.env = (false,eval e X.env) :: starEach es X.env:=by rfl) (hpl:(backTo pos (starEach es X.env)).any (·.1) = false:=by rfl) :
    PE X (.Call (.Subscript o sl ps0) (e :: es) [] pos) (fun σ H Q=>tf σ H fun x H1=>∃ f sp,x = .ref f∧(f,sp) ∈ menu∧t σ H1 fun vs H2=>sp vs H2 Q (E σ)):=by
  intro pins s σ H Q I h
  refine Call_ ?_
  refine thn (hf pins s σ H _ I h) fun u s1 ⟨x,H1,I1,rx,f,sp,ex,hmem,q⟩=>?_
  subst ex
  obtain rfl:u = Value.ref f:=rx
  obtain ⟨hk,CX,k,fd,ps,F,hr,hb,hx⟩:=hm f sp hmem
  refine PySem.W.callWith_K (h₀:=X.base) I1.ok.mod.kin hk (thn (ha pos pins s1 σ H1 _ I1 q) fun us s2 ⟨vs,H2,I2,r,q2⟩=>⟨I2.kIn,?_⟩) he hpl
  exact zL (dvs:=[]) (ds:=[]) F hr hb .nil hx I2 r (by rw [List.append_nil]; exact q2)
end L2
end
section
namespace L2
open PySem PySem.Spec PyProof.Rows
section
variable {X:Cx}
def Cb (K:PySem.W.Frag):List V→Hp→VK→Prop:=fun xs H Q=>∃ (l:Addr) (ns:List Int),xs = [.ref l]∧SqL K H l (ns.map V.int)∧0 < ns.length∧∀ M,M ∈ ns→(∀ a ∈ ns,M ≤ a)→Q (.int M) H
theorem ur (hc:X.calm = true):fM X (.builtin "min") (Cb X.K):=by
  intro pins s σ H xs us Q I r h
  obtain ⟨l,ns,rfl,hq,hn,q⟩:=h
  obtain ⟨u,rfl,ru⟩:=eY r
  cases ru
  obtain ⟨its,rv,p,hz⟩:=I.list hq
  have hi:=oF rv
  obtain ⟨zs,hzs⟩:=hi.allInts.items
  have en:zs.toList.map (·.1) = ns:=by
    have z:=hi.numsOf
    rw [show its = (intItems zs).toList by rw [← hzs]] at z
    rw [← z,nums_intItems]
  have sz:zs.size = ns.length:=by rw [← en]; simp
  refine min_intList (I.ok.hd hc) (show s.heap.IsList l (intItems zs) from hzs ▸ p.isList) (by omega) fun v h' tk hv hk=>?_
  obtain ⟨t,rfl⟩:=intItems_at hv
  have best:=argBest_lt (numAt zs) (zs.size - 1)
  refine ⟨.int _,H,I.kept (t':=tk) hk,⟨t,rfl⟩,q _ ?_ fun a ha=>?_⟩
  · rw [← en,numAt_eq]
    exact getD_mem (by rw [List.length_map,Array.length_toList]; have:=best.1; omega)
  · rw [← en] at ha
    obtain ⟨j,hj,ej⟩:=mem_getD ha
    rw [List.length_map,Array.length_toList] at hj
    have le:=best.2 j (by omega)
    rw [← ej,← numAt_eq]
    exact le
def Aj (K:PySem.W.Frag):R2:=fun x y H Q=>∃ p xs,x = .non∧y = .ref p∧SqL K H p xs∧(∀ v ∈ xs,∃ a vs,v = .ref a∧SqL K H a vs)∧Q (.bl false) H
theorem tS {k:Nat} (hr:Room k X.A):OpR X (compareOp .In) (Aj X.K):=by
  intro pins s σ H x y v u Q I rx ry h
  obtain ⟨p,xs,rfl,rfl,hq,hls,q⟩:=h
  cases ry
  cases rx
  obtain ⟨its,r,pl,hz⟩:=I.list hq
  have hu:X.A.in1.units < cLine:=by have:=hr.un; show X.A.units + 1 < cLine; omega
  have each:∀ (zs:List V) (ws:List Value),Vals zs ws→(∀ v ∈ zs,∃ a vs,v = .ref a∧SqL X.K H a vs)→∀ w ∈ ws,SeqAt.EqAt X.A.in1 s w .none false:=by
    intro zs ws rr
    induction rr with
    | nil=>intro _ w hw; cases hw
    | cons r1 _ ih =>
      intro hv w hw
      rcases List.mem_cons.mp hw with rfl | hw
      · obtain ⟨a,vs,rfl,hs⟩:=hv _ List.mem_cons_self
        obtain ⟨js,_,pj,_⟩:=I.list hs
        cases r1
        exact SeqAt.EqAt.list_none pj.isList hu
      · exact ih (fun v h=>hv v (List.mem_cons_of_mem _ h)) w hw
  refine SeqAt.in_listAt (fun _=>false) pl.isList (fun w hw=>each xs its r hls w (by simpa using hw)) ⟨.bl _,H,I,rfl,?_⟩
  have e:its.toArray.any (fun _=>false) = false:=by simp
  rw [e]
  exact q
end
def opD:Option Int→D
  | none=>.non
  | some i=>.int i
def opV:Option Int→V
  | none=>.non
  | some i=>.int i
section
variable {K:PySem.W.Frag} {σ:St} {H H':Hp} {d d':D} {ds es:List D} {t u ta tb te tl:TE} {tA:TA} {mk:St→St} {jj:Nat}
theorem tm:∀ {os:List (Option Int)} {vs:List V},Dats K H (os.map opD) vs→vs = os.map opV
  | [],vs,h=>by rw [Dats.nilE h]; rfl
  | none :: os,vs,h=>by
    obtain ⟨v,r,e,h1,h2⟩:=h.consE
    rw [e,Dat.nonE h1,tm h2]
    rfl
  | some i :: os,vs,h=>by
    obtain ⟨v,r,e,h1,h2⟩:=h.consE
    rw [e,Dat.intE h1,tm h2]
    rfl
theorem kW:∀ os:List (Option Int),inV .non (os.map opV) = os.any Option.isNone
  | []=>rfl
  | none :: os=>by
    have ih:=kW os
    unfold inV at ih ⊢
    rw [List.map_cons,List.any_cons,ih]
    rfl
  | some i :: os=>by
    have ih:=kW os
    unfold inV at ih ⊢
    rw [List.map_cons,List.any_cons,ih]
    rfl
theorem tI (os:List (Option Int)):(os.map opV).all i6 = true:=by
  rw [List.all_eq_true]
  intro v hv
  obtain ⟨o,_,rfl⟩:=List.mem_map.mp hv
  cases o <;> rfl
theorem Bu {os:List (Option Int)} (h:RL K tb σ H (os.map opD)):RE K (tOp (rIn K false) (tC .non) tb) σ H (.bl (os.any Option.isNone)):=fun H1 s Q q =>
  h H1 s _ fun w H3 s3 q3=>by
    obtain ⟨a,vs,ev,hq,hd⟩:=q3
    have e:=tm hd
    subst e
    refine ⟨a,_,ev,.inl hq.sqL,rfl,tI os,?_⟩
    rw [kW]
    exact q _ _ s3 (Dat.blI _)
theorem vn {os:List (Option Int)} (h:RL K tb σ H (os.map opD)):RE K (tOp (rIn K true) (tC .non) tb) σ H (.bl (!os.any Option.isNone)):=fun H1 s Q q =>
  h H1 s _ fun w H3 s3 q3=>by
    obtain ⟨a,vs,ev,hq,hd⟩:=q3
    have e:=tm hd
    subst e
    refine ⟨a,_,ev,.inl hq.sqL,rfl,tI os,?_⟩
    rw [kW]
    exact q _ _ s3 (Dat.blI _)
theorem zG {ns:List Int} {m:Int} (h:RL K t σ H (ns.map D.int)) (hm:m ∈ ns) (lo:∀ a ∈ ns,m ≤ a):RE K (tCB (Cb K) (bB t cH)) σ H (.int m):=fun H1 s Q q =>
  gj ((h.mono s).use fun v H' s' hd=>by
    obtain ⟨l,ys,rfl,hy,hd⟩:=hd
    refine ⟨l,ns,rfl,by rw [← wu hd]; exact hy.sqL,List.length_pos_of_mem hm,fun M h1 h2=>?_⟩
    have e:M = m:=Int.le_antisymm (h2 m hm) (lo M h1)
    subst e
    exact q _ _ s' (Dat.intI _))
inductive LDs (K:PySem.W.Frag) (H:Hp):List (List D)→List V→Prop
  | nil:LDs K H [] []
  | cons {es:List D} {v:V} {ess:List (List D)} {vs:List V}:LD K H es v→LDs K H ess vs→LDs K H (es :: ess) (v :: vs)
theorem LDs.length {ess:List (List D)} {vs:List V} (h:LDs K H ess vs):ess.length = vs.length:=by
  induction h with
  | nil=>rfl
  | cons _ _ ih=>simp [ih]
theorem LDs.map {ess:List (List D)} {vs:List V} (h:LDs K H ess vs) (f:∀ es v,LD K H es v→LD K H' es v):LDs K H' ess vs:=by
  induction h with
  | nil=>exact .nil
  | cons h1 _ ih=>exact .cons (f _ _ h1) ih
theorem Same.lds {ess:List (List D)} {vs:List V} (e:Same H H') (h:LDs K H ess vs):LDs K H' ess vs:=h.map fun _ _ z=>e.ld z
theorem LDs.snoc {ess:List (List D)} {vs:List V} {es:List D} {v:V} (h:LDs K H ess vs) (h1:LD K H es v):LDs K H (ess ++ [es]) (vs ++ [v]):=by
  induction h with
  | nil=>exact .cons h1 .nil
  | cons k _ ih=>exact .cons k ih
theorem LDs.get {ess:List (List D)} {vs:List V} (h:LDs K H ess vs):∀ {i:Nat} {es:List D},ess[i]? = some es→∃ v,vs[i]? = some v∧LD K H es v:=by
  induction h with
  | nil=>intro i es e; cases e
  | cons k _ ih =>
    intro i es e
    cases i with
    | zero=>cases e; exact ⟨_,rfl,k⟩
    | succ i=>exact ih e
theorem LDs.lst {ess:List (List D)} {vs:List V} (h:LDs K H ess vs):∀ v ∈ vs,∃ a us,v = .ref a∧SqL K H a us:=by
  induction h with
  | nil=>intro v hv; cases hv
  | cons k _ ih =>
    intro v hv
    rcases List.mem_cons.mp hv with rfl | hv
    · obtain ⟨a,us,e,h1,_⟩:=k; exact ⟨a,us,e,h1.sqL⟩
    · exact ih v hv
def RCL (K:PySem.W.Frag) (t:TE) (σ:St) (H:Hp) (ess:List (List D)):Prop:=∀ H1,Same H H1→∀ Q:VK,(∀ l ys H',H1 l = none→Same H1 H'→H' l = some (.lst ys)→LDs K H' ess ys→Q (.ref l) H')→t σ H1 Q
theorem RCL.use {Q:VK} {ess:List (List D)} (h:RCL K t σ H ess) (q:∀ l ys H',H l = none→Same H H'→H' l = some (.lst ys)→LDs K H' ess ys→Q (.ref l) H'):t σ H Q:=h H (Same.refl H) Q q
def Off (K:PySem.W.Frag) (H:Hp) (l:Addr) (vs:List V):Prop:=∀ v ∈ vs,v ≠ .ref l
theorem LDs.grown {l:Addr} {zs zs':List V} {ess:List (List D)} {vs:List V} (h:LDs K H ess vs) (off:Off K H l vs) (e:But l H H') (h1:H l = some (.lst zs)) (h2:H' l = some (.lst zs')):LDs K H' ess vs:=by
  have g:dv K H H':=e.grow h1 h2
  induction h with
  | nil=>exact .nil
  | cons k _ ih =>
    refine .cons ?_ (ih fun v hv=>off v (List.mem_cons_of_mem _ hv))
    obtain ⟨a,us,rfl,ha,hd⟩:=k
    have na:a ≠ l:=fun z=>off _ List.mem_cons_self (by rw [z])
    refine ⟨a,us,rfl,?_,Dats.mono g _ hd⟩
    exact ha.elim (fun z=>.inl (e _ _ na z)) .inr
theorem lj {k j:Nat} {l:Addr} {ys:List V} {ess:List (List D)} (hl:H l = some (.lst ys)) (hd:LDs K H ess ys) (h2:RE K tb σ H (.int j)) (e:ess[j]? = some es) (hv:σ[k]? = some (some (.ref l)):=by rfl):RL K (tOp (sA K) (eJ k) tb) σ H es:=fun H1 s Q q =>
  ⟨_,hv,h2 H1 s _ fun w H3 s3 q3=>by
    obtain ⟨v,ev,hx⟩:=((s.trans s3).lds hd).get e
    exact ⟨l,ys,j,v,rfl,q3.intE,SqL.of ((s.trans s3) _ _ hl),fG ev,q _ _ s3 hx⟩⟩
theorem tX {k:Nat} {l:Addr} {ys:List V} {ess:List (List D)} (hl:H l = some (.lst ys)) (hd:LDs K H ess ys) (hv:σ[k]? = some (some (.ref l)):=by rfl):RE K (tOp (Aj K) (tC .non) (eJ k)) σ H (.bl false):=fun H1 s Q q =>
  ⟨_,hv,l,ys,rfl,rfl,SqL.of (s _ _ hl),(s.lds hd).lst,q _ _ (Same.refl _) (Dat.blI _)⟩
end
end L2
end
section
namespace L2
open PySem PySem.Spec PySem.Calls PyProof.Rows
abbrev wR (t:Addr):Obj:={ cls:=.type "list_iterator",data:=.fields #[.ref t,.int 0 0] }
section
variable {prog:Program} {w:World} {A:Around} {E:Value→Shared→Prop} {s:Shared} {z TI TO i1 i2 t1 t2:Addr} {k:Nat} {xs ys:Array Value}
theorem vJ {x y a b:Value} {Q:Value→Shared→Prop} (hz:IsZip s.heap z TI TO .none) (hI:IsPair s.heap TI (.ref i1) (.ref i2)) (hO:IsPair s.heap TO a b) (h1:s.heap.IsListIter i1 t1 k) (h2:cD s.heap i2 t2 k)
    (l1:s.heap.IsList t1 xs) (l2:s.heap.IsTuple t2 ys) (hx:xs[k]? = some x) (hy:ys[k]? = some y) (D:ZipApart z TI TO i1 i2 t1 t2)
    (q:∀ h',IsZip h' z TI TO (rawInt s.heap.objs.size)→IsPair h' TO x y→h'.IsListIter i1 t1 (k + 1)→cD h' i2 t2 (k + 1)→h'.get? s.heap.objs.size = some { cls:=.type "tuple",data:=.seq #[x,y] } →
      (∀ b o,b ≠ z→b ≠ TO→b ≠ i1→b ≠ i2→s.heap.get? b = some o→h'.get? b = some o)→Q (.ref s.heap.objs.size) { s with heap:=h' }):wpAny (model prog w) A (Builtin.«zip.__next__» ⟨[.ref z],[]⟩) (fun fin s'=>∃ v,fin = .done (.ret v)∧Q v s') E s:=by
  show wpAny _ _ (field (.ref z) 2 >>= _) _ _ _
  refine wpAny_bind (wpAny_field hz rfl rfl ?_)
  show wpAny _ _ (field (.ref z) 3 >>= _) _ _ _
  refine wpAny_bind (wpAny_field hz rfl rfl ?_)
  refine wpAny_bind (wpAny_seqItems hI rfl ?_)
  refine wpAny_bind (wpAny_bind (wpAny_field hz rfl rfl (wpAny_pure ?_)))
  refine wpAny_bind (wpAny_rule ?_)
  refine wpAny_bind (wpAny_field hz rfl rfl ?_)
  refine wpAny_bind (wpAny_setField_rec hz (by simp) fun ha za sa=>?_)
  replace za:IsZip ha z TI TO .ellipsis:=za
  rw [show (#[Value.ref i1,Value.ref i2]:Array Value).toList.zipIdx = [(.ref i1,0),(.ref i2,1)] from rfl,List.forIn_cons]
  have h1a:ha.IsListIter i1 t1 k:=h1.at fun o e=>(sa.2 i1 D.i1z).trans e
  have h2a:cD ha i2 t2 k:=(sa.2 i2 D.i2z).trans h2
  have l1a:ha.IsList t1 xs:=l1.extBut sa.extBut D.l1z
  have l2a:ha.IsTuple t2 ys:=l2.extBut sa.extBut D.l2z
  have hOa:IsPair ha TO a b:=(sa.2 TO D.TOz).trans hO
  refine wpAny_bind (wpAny_bind (wpAny_bind (wpAny_onRaise (wpAny_bind (wpAny_nextOf_list_item (s:={ s with heap:=ha }) h1a l1a hx fun hb h1b sb=>wpAny_pure ?_)))))
  replace sb:Heap.SameBut i1 ha hb:=sb
  have hOb:IsPair hb TO a b:=(sb.2 TO D.TOi1).trans hOa
  refine wpAny_bind (wpAny_seqItems (s:={ s with heap:=hb }) hOb rfl ?_)
  refine wpAny_bind (wpAny_updateSeq_pair (s:={ s with heap:=hb }) hOb fun hc hOc sc=>?_)
  replace sc:Heap.SameBut TO hb hc:=sc
  replace hOc:IsPair hc TO x b:=hOc
  refine wpAny_bind (wpAny_letGo (wpAny_pure ?_))
  have h2c:cD hc i2 t2 k:=(sc.2 i2 (Ne.symm D.TOi2)).trans ((sb.2 i2 (Ne.symm D.i12)).trans h2a)
  have l2c:hc.IsTuple t2 ys:=(l2a.extBut sb.extBut D.l2i1).extBut sc.extBut D.l2TO
  show wpAny _ _ (forIn [(Value.ref i2,1)] _ _) _ _ _
  rw [List.forIn_cons]
  refine wpAny_bind (wpAny_bind (wpAny_onRaise (wpAny_bind (jq (s:={ s with heap:=hc }) h2c l2c hy fun hd h2d sd=>wpAny_pure ?_))))
  replace sd:Heap.SameBut i2 hc hd:=sd
  have hOd:IsPair hd TO x b:=(sd.2 TO D.TOi2).trans hOc
  refine wpAny_bind (wpAny_seqItems (s:={ s with heap:=hd }) hOd rfl ?_)
  refine wpAny_bind (wpAny_updateSeq_pair (s:={ s with heap:=hd }) hOd fun he hOe se=>?_)
  replace se:Heap.SameBut TO hd he:=se
  replace hOe:IsPair he TO x y:=hOe
  refine wpAny_bind (wpAny_letGo (wpAny_pure ?_))
  show wpAny _ _ (forIn [] _ _) _ _ _
  rw [List.forIn_nil]
  refine wpAny_pure ?_
  show wpAny _ _ (seqItems? (.ref TO) >>= _) _ _ _
  refine wpAny_bind (wpAny_seqItems (s:={ s with heap:=he }) hOe rfl ?_)
  refine wpAny_bind (wpAny_newTuple ?_)
  have sze:he.objs.size = s.heap.objs.size:=by rw [se.1,sd.1,sc.1,sb.1,sa.1]
  have ze:IsZip he z TI TO .ellipsis:=(se.2 z (Ne.symm D.TOz)).trans ((sd.2 z (Ne.symm D.i2z)).trans ((sc.2 z (Ne.symm D.TOz)).trans ((sb.2 z (Ne.symm D.i1z)).trans za)))
  have zf:IsZip (he.push { cls:=.type "tuple",data:=.seq #[x,y] }) z TI TO .ellipsis:=Heap.get?_push_of_some _ ze
  have tf:(he.push { cls:=.type "tuple",data:=.seq #[x,y] }).get? s.heap.objs.size = some { cls:=.type "tuple",data:=.seq #[x,y] }:=Heap.get?_push_at sze.symm rfl
  have of:IsPair (he.push { cls:=.type "tuple",data:=.seq #[x,y] }) TO x y:=Heap.get?_push_of_some _ hOe
  have f1:(he.push { cls:=.type "tuple",data:=.seq #[x,y] }).IsListIter i1 t1 (k + 1):=h1b.at fun o e=>Heap.get?_push_of_some _ ((se.2 i1 (Ne.symm D.TOi1)).trans ((sd.2 i1 D.i12).trans ((sc.2 i1 (Ne.symm D.TOi1)).trans e)))
  have f2:cD (he.push { cls:=.type "tuple",data:=.seq #[x,y] }) i2 t2 (k + 1):=Heap.get?_push_of_some _ ((se.2 i2 (Ne.symm D.TOi2)).trans h2d)
  have kf:∀ b o,b ≠ z→b ≠ TO→b ≠ i1→b ≠ i2→s.heap.get? b = some o→(he.push { cls:=.type "tuple",data:=.seq #[x,y] }).get? b = some o:=fun b o n1 n2 n3 n4 e =>
    Heap.get?_push_of_some _ ((se.2 b n2).trans ((sd.2 b n4).trans ((sc.2 b n2).trans ((sb.2 b n3).trans ((sa.2 b n1).trans e)))))
  generalize he.push { cls:=.type "tuple",data:=.seq #[x,y] } = hf at zf tf of f1 f2 kf
  have lz:z < s.heap.objs.size:=Heap.lt_size hz
  show wpAny _ _ (Builtin.SmallTypes.ownedTupleHandOut (.ref z) (.ref he.objs.size) >>= _) _ _ _
  rw [sze]
  refine wpAny_bind (wpAny_bind (wpAny_setField_rec (s:={ s with heap:=hf }) zf (by simp) fun hg zg sg=>wpAny_setField_rec (s:={ s with heap:=hg }) zg (by simp) fun hh zh sh=>wpAny_pure ⟨_,rfl,?_⟩))
  replace sg:Heap.SameBut z hf hg:=sg
  replace sh:Heap.SameBut z hg hh:=sh
  have on:∀ b,b ≠ z→hh.get? b = hf.get? b:=fun b n=>(sh.2 b n).trans (sg.2 b n)
  refine q hh zh ?_ ?_ ?_ ?_ fun b o n1 n2 n3 n4 e=>(on b n1).trans (kf b o n1 n2 n3 n4 e)
  · exact (on TO D.TOz).trans of
  · exact f1.at fun o e=>(on i1 D.i1z).trans e
  · exact (on i2 D.i2z).trans f2
  · exact (on _ (Nat.ne_of_gt lz)).trans tf
theorem vI {a b:Value} {Q:Fin→Shared→Prop} (hh:A.handled = none) (hz:IsZip s.heap z TI TO .none) (hI:IsPair s.heap TI (.ref i1) (.ref i2)) (hO:IsPair s.heap TO a b) (h1:s.heap.IsListIter i1 t1 k)
    (l1:s.heap.IsList t1 xs) (hx:xs[k]? = none) (D:ZipApart z TI TO i1 i2 t1 t2)
    (q:∀ h' e,(∀ b o,b ≠ z→b ≠ i1→s.heap.get? b = some o→h'.get? b = some o)→(∃ o,h'.get? e = some o∧o.cls = .type "StopIteration")→E (.ref e) { s with heap:=h' }):wpAny (model prog w) A (Builtin.«zip.__next__» ⟨[.ref z],[]⟩) Q E s:=by
  show wpAny _ _ (field (.ref z) 2 >>= _) _ _ _
  refine wpAny_bind (wpAny_field hz rfl rfl ?_)
  show wpAny _ _ (field (.ref z) 3 >>= _) _ _ _
  refine wpAny_bind (wpAny_field hz rfl rfl ?_)
  refine wpAny_bind (wpAny_seqItems hI rfl ?_)
  refine wpAny_bind (wpAny_bind (wpAny_field hz rfl rfl (wpAny_pure ?_)))
  refine wpAny_bind (wpAny_rule ?_)
  refine wpAny_bind (wpAny_field hz rfl rfl ?_)
  refine wpAny_bind (wpAny_setField_rec hz (by simp) fun ha za sa=>?_)
  replace za:IsZip ha z TI TO .ellipsis:=za
  rw [show (#[Value.ref i1,Value.ref i2]:Array Value).toList.zipIdx = [(.ref i1,0),(.ref i2,1)] from rfl,List.forIn_cons]
  have h1a:ha.IsListIter i1 t1 k:=h1.at fun o e=>(sa.2 i1 D.i1z).trans e
  have l1a:ha.IsList t1 xs:=l1.extBut sa.extBut D.l1z
  refine wpAny_bind (wpAny_bind (wpAny_bind (wpAny_onRaise (wpAny_bind (wpAny_nextOf_list_end (s:={ s with heap:=ha }) hh h1a l1a hx fun hb e sb he=>?_)))))
  replace sb:Heap.ExtBut i1 ha hb:=sb
  have zb:IsZip hb z TI TO .ellipsis:=sb z _ (Ne.symm D.i1z) za
  obtain ⟨oe,hoe,hce⟩:=he
  have nez:e ≠ z:=fun y=>by rw [y,zb] at hoe; cases hoe; simp at hce
  refine wpAny_setField_rec (s:={ s with heap:=hb }) zb (by simp) fun hc zc sc=>q hc e (fun b o n1 n2 hb'=>?_) ⟨oe,(sc.2 e nez).trans hoe,hce⟩
  exact (sc.2 b n1).trans (sb b o n2 ((sa.2 b n1).trans hb'))
end
theorem yu (t1 t2:Addr) (xs ys:Array Value) :
    Meets (Builtin.«zip.__new__» ⟨[.type "zip",.ref t1,.ref t2],[]⟩) (fun _ R s=>s.heap.IsList t1 xs∧s.heap.IsTuple t2 ys ∧
      ∀ h',IsZip h' (s.heap.objs.size + 4) (s.heap.objs.size + 2) (s.heap.objs.size + 3) .none→IsPair h' (s.heap.objs.size + 2) (.ref s.heap.objs.size) (.ref (s.heap.objs.size + 1))→IsPair h' (s.heap.objs.size + 3) .none .none →
        h'.IsListIter s.heap.objs.size t1 0→cD h' (s.heap.objs.size + 1) t2 0→(∀ b o,s.heap.get? b = some o→h'.get? b = some o)→R (.ok (.ret (.ref (s.heap.objs.size + 4)))) { s with heap:=h' }) :=
  .of_wp fun _ _ _ _ s q=>by
    obtain ⟨h0,g0,d0,t0,o0⟩:=s
    obtain ⟨a1,a2,q⟩:=q
    have self1:=sub_zip
    have b1:Heap.IsList (Shared.heap ⟨h0,g0,d0,t0,o0⟩) t1 xs:=a1
    have b2:Heap.IsTuple (Shared.heap ⟨h0.push (wR t1),g0,d0,t0,o0⟩) t2 ys:=Heap.IsTuple.push a2 _
    wp_walk using wpAny_pyIter_list b1,wpAny_pyIter_tuple b2
    refine ⟨_,rfl,?_⟩
    have n1:(h0.push (wR t1)).objs.size = h0.objs.size + 1:=Heap.size_push _ _
    simp only [Heap.size_push]
    refine q _ ?_ ?_ ?_ ?_ ?_ fun b o e=>?_
    · exact Heap.get?_push_at (by simp [Heap.size_push]) rfl
    · exact Heap.get?_push_of_some _ (Heap.get?_push_of_some _ (Heap.get?_push_at (by simp [Heap.size_push]) rfl))
    · exact Heap.get?_push_of_some _ (Heap.get?_push_at (by simp [Heap.size_push]) rfl)
    · exact ⟨_,Heap.get?_push_of_some _ (Heap.get?_push_of_some _ (Heap.get?_push_of_some _ (Heap.get?_push_of_some _ (Heap.get?_push_at (by simp [Heap.size_push]) rfl)))),rfl,rfl⟩
    · exact Heap.get?_push_of_some _ (Heap.get?_push_of_some _ (Heap.get?_push_of_some _ (Heap.get?_push_at (by simp [Heap.size_push]) rfl)))
    · exact Heap.get?_push_of_some _ (Heap.get?_push_of_some _ (Heap.get?_push_of_some _ (Heap.get?_push_of_some _ (Heap.get?_push_of_some _ e))))
theorem ux {prog:Program} {w:World} {A:Around} {E:Value→Shared→Prop} {s:Shared} {t1 t2:Addr} {xs ys:Array Value} {Q:Value→Shared→Prop} (a1:s.heap.IsList t1 xs) (a2:s.heap.IsTuple t2 ys)
    (q:∀ h',IsZip h' (s.heap.objs.size + 4) (s.heap.objs.size + 2) (s.heap.objs.size + 3) .none→IsPair h' (s.heap.objs.size + 2) (.ref s.heap.objs.size) (.ref (s.heap.objs.size + 1))→IsPair h' (s.heap.objs.size + 3) .none .none →
      h'.IsListIter s.heap.objs.size t1 0→cD h' (s.heap.objs.size + 1) t2 0→(∀ b o,s.heap.get? b = some o→h'.get? b = some o)→Q (.ref (s.heap.objs.size + 4)) { s with heap:=h' }):wpAny (model prog w) A (call (.type "zip") [.ref t1,.ref t2]) Q E s :=
  callType_new PySem.F.called_zip (by decide) (PySem.F.typeCall_zip_2 _ _) (PySem.F.newCall_zip_2 _ _) (fun o=>PySem.F.args_object_init_3 o _ _) PySem.F.entry_zip_new (yu t1 t2 xs ys) ⟨a1,a2,fun h' z1 z2 z3 z4 z5 kk=>⟨⟨_,z1,rfl⟩,q h' z1 z2 z3 z4 z5 kk⟩⟩
def Itm (K:PySem.W.Frag) (a b:Addr) (xs ys:List V):It:=⟨fun i H=>i < xs.length∧i < ys.length∧SqL K H a xs∧SqT K H b ys,fun i H x H'=>∃ p u v,H p = none∧x = .ref p∧xs[i]? = some u∧ys[i]? = some v∧H' = upd H p (.tup [u,v]),fun i H=>i = xs.length∧SqL K H a xs⟩
theorem vG {P:Program} {w:World} {K:PySem.W.Frag} {elts:List Expr} {c1} {ps:Pos} (a b z TI TO i1 i2:Addr) (xs ys:List V) (D:ZipApart z TI TO i1 i2 a b):lA P w K (.Tuple elts c1 ps) (Itm K a b xs ys) [z,TI,TO,i1,i2] z
    (fun i h=>∃ c d,IsZip h z TI TO .none∧IsPair h TI (.ref i1) (.ref i2)∧IsPair h TO c d∧h.IsListIter i1 a i∧cD h i2 b i) where
  mem:=by simp
  obj:=fun i h ⟨c,d,q1,q2,q3,q4,q5⟩ b hb=>by
    simp only [List.mem_cons,List.not_mem_nil,or_false] at hb
    rcases hb with rfl | rfl | rfl | rfl | rfl
    · exact ⟨_,q1,fun v e=>by cases e⟩
    · exact ⟨_,q2,fun v e=>by cases e⟩
    · exact ⟨_,q3,fun v e=>by cases e⟩
    · obtain ⟨o,e,c,d⟩:=q4; exact ⟨o,e,fun v z=>by rw [d] at z; cases z⟩
    · exact ⟨_,q5,fun v e=>by cases e⟩
  keep:=fun i h h' ⟨c,d,q1,q2,q3,q4,q5⟩ k=>⟨c,d,k z (by simp) _ q1,k TI (by simp) _ q2,k TO (by simp) _ q3,q4.at fun o e=>k i1 (by simp) o e,k i2 (by simp) _ q5⟩
  item:=by
    intro X hP hw hK hc i pins s σ H E I hf st hg
    subst hP hw hK
    obtain ⟨c,d,q1,q2,q3,q4,q5⟩:=st
    obtain ⟨hi,hj,ha,hb⟩:=hg
    obtain ⟨us,ru,pu,_⟩:=I.list ha
    obtain ⟨vs,rv,pv,_⟩:=I.tuple hb
    have hx:xs[i]? = some xs[i]:=List.getElem?_eq_getElem hi
    have hy:ys[i]? = some ys[i]:=List.getElem?_eq_getElem hj
    obtain ⟨u,hu,r1⟩:=ru.get hx
    obtain ⟨v,hv,r2⟩:=rv.get hy
    have ty:s.TypeIs (.ref z) "zip":=⟨_,q1,rfl⟩
    unfold pyNext
    refine wpAny_bind (wpAny_attempt (wpAny_callSpecial?_slot (name:=Str.ofString "__next__") ty PySem.F.slot_zip_next (wpAny_call_entry PySem.F.slot_zip_next ty PySem.F.entry_zip_next ?_ (PySem.F.args_zip_next_1 _))))
    refine vJ (x:=u) (y:=v) q1 q2 q3 q4 q5 (show s.heap.IsList a us.toArray from pu.isList) (show s.heap.IsTuple b vs.toArray from pv) (by simpa using hu) (by simpa using hv) D fun h' w1 w2 w3 w4 w5 w6=>wpAny_pure ⟨_,rfl,?_⟩
    refine wpAny_letOwnedTupleGo_zip (s:={ s with heap:=h' }) w1 fun h2 e2 same=>?_
    replace same:Heap.SameBut z h' h2:=same
    have lz:z < s.heap.objs.size:=Heap.lt_size q1
    have lTI:TI < s.heap.objs.size:=Heap.lt_size q2
    have lTO:TO < s.heap.objs.size:=Heap.lt_size q3
    have l1:i1 < s.heap.objs.size:=by obtain ⟨o,e,_⟩:=q4; exact Heap.lt_size e
    have l2:i2 < s.heap.objs.size:=Heap.lt_size q5
    have low:∀ b ∈ [z,TI,TO,i1,i2],b < s.heap.objs.size:=fun b hb=>by
      simp only [List.mem_cons,List.not_mem_nil,or_false] at hb
      rcases hb with rfl | rfl | rfl | rfl | rfl <;> assumption
    have tup2:h2.get? s.heap.objs.size = some { cls:=.type "tuple",data:=.seq #[u,v] }:=(same.2 _ (Nat.ne_of_gt lz)).trans w5
    have I1:Inv X pins σ (upd H s.heap.objs.size (.tup [xs[i],ys[i]])) { s with heap:=s.heap.push { cls:=.type "tuple",data:=.seq #[u,v] },toks:=s.toks } :=
      I.laid (o:=.tup [xs[i],ys[i]]) (fun b ob q=>Heap.get?_push_of_some _ q) (Nat.le_refl _) ⟨by rw [sizeLine_eq]; simp,[u,v],.cons r1 (.cons r2 .nil),IsTup.new _ _⟩
    have frees:∀ b,b < s.heap.objs.size→upd H s.heap.objs.size (.tup [xs[i],ys[i]]) b = H b:=fun b hb=>aB (Nat.ne_of_lt hb)
    have I2:Inv X pins σ (upd H s.heap.objs.size (.tup [xs[i],ys[i]])) { s with heap:=h2,toks:=s.toks }:=by
      refine Inv.turnedL (s:={ s with heap:=s.heap.push { cls:=.type "tuple",data:=.seq #[u,v] },toks:=s.toks }) (h':=h2) (its:=[z,TI,TO,i1,i2]) (t':=s.toks) I1 (fun b o hb q=>?_) (fun b hb=>?_)
      · simp only [List.mem_cons,List.not_mem_nil,or_false,not_or] at hb
        obtain ⟨n1,n2,n3,n4,n5⟩:=hb
        by_cases hbs:b = s.heap.objs.size
        · subst hbs
          have q':(s.heap.push { cls:=.type "tuple",data:=.seq #[u,v] }).get? s.heap.objs.size = some o:=q
          rw [Heap.get?_push_at rfl rfl] at q'
          cases q'
          exact tup2
        · have q':s.heap.get? b = some o:=(Heap.get?_push_ne _ _ _ hbs).symm.trans q
          exact (same.2 b n1).trans (w6 b o n1 n3 n4 n5 q')
      · obtain ⟨f0,f1,f2,f3,f4,f5⟩:=hf b hb
        exact ⟨by rw [frees b (low b hb)]; exact f0,f1,f3,f4,f5⟩
    refine ⟨.ref s.heap.objs.size,_,I2,rfl,⟨_,_,_,I.hok.fresh (Nat.le_refl _),rfl,hx,hy,rfl⟩,⟨u,v,e2,?_,?_,?_,?_⟩,fun b hb=>?_⟩
    · exact (same.2 TI D.TIz).trans (w6 TI _ D.TIz D.TITO D.TIi1 D.TIi2 q2)
    · exact (same.2 TO D.TOz).trans w2
    · exact w3.at fun o e=>(same.2 i1 D.i1z).trans e
    · exact (same.2 i2 D.i2z).trans w4
    · rw [frees b (low b hb)]; exact (hf b hb).1
  done:=by
    intro X hP hw hK hc i pins s σ H E I hf st hg
    subst hP hw hK
    obtain ⟨c,d,q1,q2,q3,q4,q5⟩:=st
    obtain ⟨hi,ha⟩:=hg
    obtain ⟨us,ru,pu,_⟩:=I.list ha
    have lr:=ru.length
    have ty:s.TypeIs (.ref z) "zip":=⟨_,q1,rfl⟩
    unfold pyNext
    refine wpAny_bind (wpAny_attempt (wpAny_callSpecial?_slot (name:=Str.ofString "__next__") ty PySem.F.slot_zip_next (wpAny_call_entry PySem.F.slot_zip_next ty PySem.F.entry_zip_next ?_ (PySem.F.args_zip_next_1 _))))
    refine vI (I.ok.hd hc) q1 q2 q3 q4 (show s.heap.IsList a us.toArray from pu.isList) (by simp; omega) D fun h' e kk ⟨o,ho,hco⟩=>?_
    refine wpAny_bind (wpAny_isInstance (T:="StopIteration") (b:=true) ⟨o,ho,hco⟩ isSubtype_stop (wpAny_pure ⟨rfl,?_⟩))
    refine Inv.turnedL (s:=s) (h':=h') (its:=[z,i1]) (t':=s.toks) I (fun b o hb q=>kk b o (fun y=>hb (by simp [y])) (fun y=>hb (by simp [y])) q) (fun b hb=>?_)
    obtain ⟨f0,f1,f2,f3,f4,f5⟩:=hf b (by
      simp only [List.mem_cons,List.not_mem_nil,or_false] at hb
      rcases hb with rfl | rfl <;> simp)
    exact ⟨f0,f1,f3,f4,f5⟩
  self:=fun A i s Q E ⟨_,_,q1,_⟩ q=>wpAny_pyIter_zip q1 q
def Ac (K:PySem.W.Frag) (ta:TA):TI:=fun σ H R=>ta σ H fun vs H1=>∃ a b xs ys,vs = [.ref a,.ref b]∧SqL K H1 a xs∧SqT K H1 b ys∧R (Itm K a b xs ys) H1
theorem zt {X:Cx} {a b:Expr} {ta:TA} {p pos ps:Pos} {elts:List Expr} {c1} (hg:Gl X "zip") (hm:X.mg "zip" = none) (ha:PA X [a,b] ta) (hs:starEach [a,b] X.env = (false,eval a X.env) :: starEach [b] X.env:=by rfl) (hpl:(backTo pos (starEach [b] X.env)).any (·.1) = false:=by rfl) :
    PI X (.Tuple elts c1 ps) (.Call (.Name "zip" p) [a,b] [] pos) (Ac X.K ta):=by
  intro pins s σ H R I h
  refine Call_ (jm I hg hm we (PyProof.Rows.callWith_type1 (thn (ha pos pins s σ H _ I h) fun us s1 ⟨vs,H1,I1,r1,q1⟩=>?_) hs hpl))
  obtain ⟨t1,t2,xs,ys,ev,hq1,hq2,q⟩:=q1
  subst ev
  cases r1 with
  | cons e1 rt =>
    obtain ⟨u2,rfl,e2⟩:=eY rt
    cases e1
    cases e2
    obtain ⟨us,ru,pu,_⟩:=I1.list hq1
    obtain ⟨vs,rv,pv,_⟩:=I1.tuple hq2
    have lt1:t1 < s1.heap.objs.size:=by obtain ⟨o,e,_⟩:=pu.isList; exact Heap.lt_size e
    have lt2:t2 < s1.heap.objs.size:=pv.lt
    refine ux pu.isList pv fun h' z1 z2 z3 z4 z5 kk=>?_
    refine wpAny_pyIter_zip (s:={ s1 with heap:=h' }) z1 ?_
    have ne:∀ {x y:Nat},x < y→x ≠ y:=fun h=>Nat.ne_of_lt h
    have gt:∀ {x y:Nat},y < x→x ≠ y:=fun h=>Nat.ne_of_gt h
    have ap:ZipApart (s1.heap.objs.size + 4) (s1.heap.objs.size + 2) (s1.heap.objs.size + 3) s1.heap.objs.size (s1.heap.objs.size + 1) t1 t2 :=
      ⟨ne (by omega),ne (by omega),ne (by omega),ne (by omega),ne (by omega),gt (by omega),gt (by omega),gt (by omega),gt (by omega),ne (by omega),ne (Nat.lt_of_lt_of_le lt1 (by omega)),ne (Nat.lt_of_lt_of_le lt1 (by omega)),ne lt1,ne (Nat.lt_of_lt_of_le lt1 (by omega)),
        ne (Nat.lt_of_lt_of_le lt2 (by omega)),ne (Nat.lt_of_lt_of_le lt2 (by omega)),ne lt2,ne (Nat.lt_of_lt_of_le lt2 (by omega))⟩
    refine ⟨s1.heap.objs.size + 4,[s1.heap.objs.size + 4,s1.heap.objs.size + 2,s1.heap.objs.size + 3,s1.heap.objs.size,s1.heap.objs.size + 1],_,_,H1,rfl,I1.kept (t':=s1.toks) kk,vG t1 t2 _ _ _ _ _ xs ys ap,⟨.none,.none,z1,z2,z3,z4,z5⟩,fun b hb=>?_,q⟩
    have lb:s1.heap.objs.size ≤ b:=by
      simp only [List.mem_cons,List.not_mem_nil,or_false] at hb
      rcases hb with rfl | rfl | rfl | rfl | rfl
      · exact Nat.le_add_right _ _
      · exact Nat.le_add_right _ _
      · exact Nat.le_add_right _ _
      · exact Nat.le_refl _
      · exact Nat.le_add_right _ _
    exact I1.fpOk lb (I1.hok.fresh lb)
end L2
end
section
namespace L2
open PySem PySem.Spec PySem.Calls PyProof.Rows
theorem zB {K:PySem.W.Frag} {σ:St} {H:Hp} {ta:TA} {te:TE} {mk:St→St} {i j:Nat} {cs ds:List D} (h:RA K ta σ H [.tup cs,.tup ds]) (hl:cs.length = ds.length) (hc:cs.length ≤ 1000) (ess:List (List D)) (hn:ess.length = cs.length) (ne:i ≠ j)
    (h0:((mk σ).set i none).set j none = mk σ)
    (turn:∀ H1 (k:Nat) c d es v w,Same H H1→cs[k]? = some c→ds[k]? = some d→ess[k]? = some es→Dat K H1 c v→Dat K H1 d w→RC K te (((mk σ).set i (some v)).set j (some w)) H1 es) :
    RCL K (fT (AZ K ta) mk (rR K 2 (iu (cf i) (iu (cf j) uC))) eV te) σ H ess:=fun H1 s Q q=>by
  refine h H1 s _ fun vs H2 s2 q2=>?_
  obtain ⟨v1,v2,e,k1,k2⟩:=fO q2
  subst e
  obtain ⟨a,us,e1,ha,da⟩:=k1.tupE
  obtain ⟨b,ws,e2,hb,db⟩:=k2.tupE
  subst e1 e2
  have lu:=da.length
  have lw:=db.length
  refine ⟨a,b,us,ws,rfl,ha,hb,fun l hl2=>?_⟩
  have s02:Same H H2:=s.trans s2
  refine ⟨fun n m σ' G=>m = us.length - n∧n ≤ us.length∧(∃ z1 z2,σ' = ((mk σ).set i z1).set j z2)∧Same H2 G∧∃ ys,G l = some (.lst ys)∧LDs K G (ess.take n) ys∧Off K G l ys,⟨us.length,by omega,Nat.zero_le _,⟨none,none,h0.symm⟩,aC hl2 _,[],aq,by rw [List.take_zero]; exact .nil,fun v hv=>by cases hv⟩,?_⟩
  rintro n m σ' G ⟨rfl,hle,⟨z1,z2,rfl⟩,sG,ys,hy,dy,off⟩
  by_cases hlt:n < us.length
  · refine .inr ⟨⟨hlt,by omega,sG.sqT ha,sG.sqT hb⟩,fun σ'' G'=>(∃ z1 z2,σ'' = ((mk σ).set i z1).set j z2)∧Same H2 G'∧∃ ys,G' l = some (.lst ys)∧LDs K G' (ess.take (n + 1)) ys∧Off K G' l ys,fun σ'' G' w=>⟨us.length - (n + 1),by omega,rfl,hlt,w.1,w.2⟩,fun x G' y=>?_⟩
    obtain ⟨p,u,w,hp,rfl,hu,hw,rfl⟩:=y
    have sn:Same G (upd G p (.tup [u,w])):=aC hp _
    have s2n:=sG.trans sn
    obtain ⟨c,ec,hcv⟩:=da.getV hu
    obtain ⟨d,ed,hdv⟩:=db.getV hw
    have hne:n < ess.length:=by omega
    refine ⟨p,[u,w],rfl,SqT.of aq,rfl,u,_,rfl,w,_,rfl,rfl,?_⟩
    simp only [eV,if_true]
    rw [pB _ ne]
    refine RC.use (turn _ n c d ess[n] u w (s02.trans s2n) ec ed (List.getElem?_eq_getElem hne) (s2n.dat hcv) (s2n.dat hdv)) fun r zs G4 hr s4 hz dz=>?_
    have hy4:=s4 _ _ (sn _ _ hy)
    have nrl:r ≠ l:=fun z=>by rw [z,sn _ _ hy] at hr; cases hr
    have lys:ys.length = n:=by rw [← dy.length,List.length_take]; omega
    refine ⟨ys,hy4,bQ (by omega),⟨_,_,rfl⟩,fun x o hx=>?_,ys ++ [.ref r],aq,?_,?_⟩
    · rw [aB (av hx hl2)]
      exact s4 _ _ (s2n _ _ hx)
    · have bl:But l G4 (upd G4 l (.lst (ys ++ [.ref r]))):=But.upd (Same.refl G4).but
      have g:dv K G4 (upd G4 l (.lst (ys ++ [.ref r]))):=bl.grow hy4 aq
      rw [List.take_add_one,List.getElem?_eq_getElem hne]
      exact LDs.snoc (LDs.grown (s4.lds (sn.lds dy)) off bl hy4 aq) (LD.of (bl _ _ nrl hz) (Dats.mono g _ dz))
    · intro v hv
      rcases List.mem_append.mp hv with hv | hv
      · exact off v hv
      · rw [List.mem_singleton.mp hv]
        exact fun z=>nrl (by injection z)
  · have e:n = us.length:=by omega
    subst e
    refine .inl ⟨⟨rfl,sG.sqT ha⟩,?_⟩
    rw [List.take_of_length_le (by omega)] at dy
    exact q l ys G (s2.free hl2) (s2.trans sG) hy dy
theorem xS {K:PySem.W.Frag} {σ:St} {H:Hp} {ta:TA} {te:TE} {mk:St→St} {i j:Nat} {cs ds:List D} (h:RB K ta σ H [.l cs,.d (.tup ds)]) (hl:cs.length = ds.length) (hc:cs.length ≤ 1000) (ess:List (List D)) (hn:ess.length = cs.length) (ne:i ≠ j)
    (h0:((mk σ).set i none).set j none = mk σ)
    (turn:∀ H1 (k:Nat) c d es v w,Same H H1→cs[k]? = some c→ds[k]? = some d→ess[k]? = some es→Dat K H1 c v→Dat K H1 d w→RC K te (((mk σ).set i (some v)).set j (some w)) H1 es) :
    RCL K (fT (Ac K ta) mk (rR K 2 (iu (cf i) (iu (cf j) uC))) eV te) σ H ess:=fun H1 s Q q=>by
  refine h H1 s _ fun vs H2 s2 q2=>?_
  obtain ⟨v1,v2,e,k1,k2⟩:=n6 q2
  subst e
  obtain ⟨a,us,e1,ha,da⟩:=k1
  obtain ⟨b,ws,e2,hb,db⟩:=Dat.tupE k2
  subst e1 e2
  have lu:=da.length
  have lw:=db.length
  refine ⟨a,b,us,ws,rfl,ha.sqL,hb,fun l hl2=>?_⟩
  have s02:Same H H2:=s.trans s2
  refine ⟨fun n m σ' G=>m = us.length - n∧n ≤ us.length∧(∃ z1 z2,σ' = ((mk σ).set i z1).set j z2)∧Same H2 G∧∃ ys,G l = some (.lst ys)∧LDs K G (ess.take n) ys∧Off K G l ys,⟨us.length,by omega,Nat.zero_le _,⟨none,none,h0.symm⟩,aC hl2 _,[],aq,by rw [List.take_zero]; exact .nil,fun v hv=>by cases hv⟩,?_⟩
  rintro n m σ' G ⟨rfl,hle,⟨z1,z2,rfl⟩,sG,ys,hy,dy,off⟩
  by_cases hlt:n < us.length
  · refine .inr ⟨⟨hlt,by omega,(sG.aLst ha).sqL,sG.sqT hb⟩,fun σ'' G'=>(∃ z1 z2,σ'' = ((mk σ).set i z1).set j z2)∧Same H2 G'∧∃ ys,G' l = some (.lst ys)∧LDs K G' (ess.take (n + 1)) ys∧Off K G' l ys,fun σ'' G' w=>⟨us.length - (n + 1),by omega,rfl,hlt,w.1,w.2⟩,fun x G' y=>?_⟩
    obtain ⟨p,u,w,hp,rfl,hu,hw,rfl⟩:=y
    have sn:Same G (upd G p (.tup [u,w])):=aC hp _
    have s2n:=sG.trans sn
    obtain ⟨c,ec,hcv⟩:=da.getV hu
    obtain ⟨d,ed,hdv⟩:=db.getV hw
    have hne:n < ess.length:=by omega
    refine ⟨p,[u,w],rfl,SqT.of aq,rfl,u,_,rfl,w,_,rfl,rfl,?_⟩
    simp only [eV,if_true]
    rw [pB _ ne]
    refine RC.use (turn _ n c d ess[n] u w (s02.trans s2n) ec ed (List.getElem?_eq_getElem hne) (s2n.dat hcv) (s2n.dat hdv)) fun r zs G4 hr s4 hz dz=>?_
    have hy4:=s4 _ _ (sn _ _ hy)
    have nrl:r ≠ l:=fun z=>by rw [z,sn _ _ hy] at hr; cases hr
    have lys:ys.length = n:=by rw [← dy.length,List.length_take]; omega
    refine ⟨ys,hy4,bQ (by omega),⟨_,_,rfl⟩,fun x o hx=>?_,ys ++ [.ref r],aq,?_,?_⟩
    · rw [aB (av hx hl2)]
      exact s4 _ _ (s2n _ _ hx)
    · have bl:But l G4 (upd G4 l (.lst (ys ++ [.ref r]))):=But.upd (Same.refl G4).but
      have g:dv K G4 (upd G4 l (.lst (ys ++ [.ref r]))):=bl.grow hy4 aq
      rw [List.take_add_one,List.getElem?_eq_getElem hne]
      exact LDs.snoc (LDs.grown (s4.lds (sn.lds dy)) off bl hy4 aq) (LD.of (bl _ _ nrl hz) (Dats.mono g _ dz))
    · intro v hv
      rcases List.mem_append.mp hv with hv | hv
      · exact off v hv
      · rw [List.mem_singleton.mp hv]
        exact fun z=>nrl (by injection z)
  · have e:n = us.length:=by omega
    subst e
    refine .inl ⟨⟨rfl,(sG.aLst ha).sqL⟩,?_⟩
    rw [List.take_of_length_le (by omega)] at dy
    exact q l ys G (s2.free hl2) (s2.trans sG) hy dy
theorem zz {K:PySem.W.Frag} {σ:St} {H:Hp} {tl te:TE} {tt:TT} {mk:St→St} {jj:Nat} {cs:List D} (h:RL K tl σ H cs) (hc:cs.length ≤ 1000) (p:D→Bool) (h0:(mk σ).set jj none = mk σ)
    (turn:∀ H1 (i:Nat) c v,Same H H1→cs[i]? = some c→Dat K H1 c v→RT tt ((mk σ).set jj (some v)) H1 (p c)∧RE K te ((mk σ).set jj (some v)) H1 c):RC K (fT (nB K tl) mk (cf jj) tt te) σ H (cs.filter p):=fun H1 s Q q=>by
  refine (h.mono s).use fun v4 H4 s4 q4=>?_
  obtain ⟨l4,ys4,rfl,hy4,hd4⟩:=q4
  have ll:=hd4.length
  refine ⟨l4,rfl,⟨ys4,hy4.sqL⟩,fun l hl=>?_⟩
  refine kJ (J:=Itl K l4) (n:=ys4.length) (item:=fun i=>ys4.getD i .non) (fun G=>SqL K G l4 ys4) (fun i G o hi=>oA i G o hi) (fun G o=>⟨ys4,o,Nat.le_refl _⟩) h0 l (fun i G=>Same H4 G∧∃ zs,G l = some (.lst zs)∧Dats K G ((cs.take i).filter p) zs) ⟨aC hl _,[],aq,by rw [List.take_zero]; exact Dats.nil⟩ (fun i G _ w=>w.1.seq hy4.sqL) (fun i G hi w=>?_) (fun G w=>?_)
  · obtain ⟨sG,zs,hz,dz⟩:=w
    have hic:i < cs.length:=by omega
    obtain ⟨vz,ez,hv⟩:=(sG.dats hd4).get (List.getElem?_eq_getElem hic)
    have e1:ys4.getD i .non = vz:=by rw [List.getD_eq_getElem?_getD,ez]; rfl
    simp only [e1]
    obtain ⟨t1,t2⟩:=turn G i cs[i] vz (s.trans (s4.trans sG)) (List.getElem?_eq_getElem hic) hv
    have et:cs.take (i + 1) = cs.take i ++ [cs[i]]:=by rw [List.take_add_one,List.getElem?_eq_getElem hic]; rfl
    have lz:zs.length ≤ 1000:=by
      rw [← dz.length]
      exact Nat.le_trans (List.length_filter_le _ _) (by rw [List.length_take]; omega)
    have lz':zs.length < 1000:=by
      rw [← dz.length]
      exact Nat.lt_of_le_of_lt (List.length_filter_le _ _) (by rw [List.length_take]; omega)
    refine t1.use fun G2 s2=>?_
    cases hp:p cs[i] with
    | true =>
      refine qx ((t2.mono s2).use fun v3 G3 s3 q3=>?_)
      have hz3:=(s2.trans s3) _ _ hz
      have bl:But l G3 (upd G3 l (.lst (zs ++ [v3]))):=But.upd (Same.refl G3).but
      have g:dv K G3 (upd G3 l (.lst (zs ++ [v3]))):=bl.grow hz3 aq
      refine ⟨zs,hz3,bQ (by omega),⟨_,rfl⟩,fun x o hx=>?_,zs ++ [v3],aq,?_⟩
      · rw [aB (av hx hl)]
        exact (s2.trans s3) _ _ (sG _ _ hx)
      · rw [et,List.filter_append]
        have e2:[cs[i]].filter p = [cs[i]]:=by rw [List.filter_cons,if_pos hp]; rfl
        rw [e2]
        exact Dats.append (Dats.mono g _ ((s2.trans s3).dats dz)) (Dats.cons (Dat.mono g _ q3) Dats.nil)
    | false =>
      refine lU ⟨⟨_,rfl⟩,sG.trans s2,zs,s2 _ _ hz,?_⟩
      rw [et,List.filter_append]
      have e2:[cs[i]].filter p = []:=by rw [List.filter_cons,if_neg (by rw [hp]; exact Bool.false_ne_true)]; rfl
      rw [e2,List.append_nil]
      exact s2.dats dz
  · obtain ⟨sG,zs,hz,dz⟩:=w
    rw [← ll,List.take_length] at dz
    exact q l zs G (s4.free hl) (s4.trans sG) hz dz
theorem o3 {X:Cx} {K:PySem.W.Frag} {es:List Expr} {k:Nat} {t:TGs} {n:Nat} {pos:Pos} (hK:X.K = K) (hc:X.calm = true) (h:PGs X es t)
    (hn:(assignEach es X.env).length = n:=by rfl) (hst:(assignEach es X.env).findIdx? (·.1) = none:=by rfl):PG X (.Tuple es k pos) (rR K n t):=by
  subst hK
  exact gD hc h hn hst
end L2
end
section
namespace LT
open PySem PySem.W PyProof.Rows
noncomputable def ran (p:Program) (w:World) (n₀:Nat) (ann:Option Value):Nat→SharedT→Thread→Option SharedT
  | 0,_,_=>none
  | k + 1,s,t=>bif through t then some s else bif Fast.tw6613529449190102663 n₀ ann t then
      (Fast.tw10156331382660048174 (Fast.tw11892475500146522536 Fast.tw14364793385576792824) p w s t).bind fun x=>ran p w n₀ ann k x.1 x.2
    else none
theorem zy {p:Program} {w:World} {n₀:Nat} {ann:Option Value} (k:Nat):∀ {s s':SharedT} {t:Thread},ran p w n₀ ann k s t = some s'→topRun treeTable p w n₀ ann k s.abs t = some s'.abs:=by
  induction k with
  | zero=>intro s s' t h; cases h
  | succ k ih =>
    intro s s' t h
    unfold ran at h
    rw [← Fast.te6613529449190102663,← Fast.te10156331382660048174,← Fast.te11892475500146522536,← Fast.te14364793385576792824] at h
    unfold topRun
    cases c1:through t
    · cases c2:stepOk n₀ ann t
      · rw [c1,c2] at h; cases h
      · rw [c1,c2] at h
        obtain ⟨x,hx,hr⟩:=Option.bind_eq_some_iff.mp (show (stepT (denote treeTable) p w s t).bind _ = some s' from h)
        rw [stepT_spec (s':=x.1) (t':=x.2) hx]
        exact ih hr
    · rw [c1] at h
      cases h
      rfl
noncomputable def wg (P:Params):BT:=((boot_heap P).objs.toList.foldl (fun (x:BT × Nat) o=>(x.1.ins x.2 o,x.2 + 1)) (BT.nil,0)).1
theorem wj:∀ P,absHeap (wg P) 11 {} = boot_heap P:=fun P=>by kernel_rfl
noncomputable abbrev boot (P:Params) (os:OsState):SharedT:=⟨wg P,11,{},#[],boot_drawn,boot_toks,os⟩
theorem wm (P:Params) (os:OsState):(boot P os).abs = ⟨boot_heap P,#[],boot_drawn,boot_toks,os⟩:=by
  show (⟨absHeap (wg P) 11 {},#[],boot_drawn,boot_toks,os⟩:Shared) = _
  rw [wj]
noncomputable def An (p q:Program) (loose:List Str) (Xt:Shared→Bool) (P:Params) (s:Shared) :=
  (staticsOk (Fast.tw5923862056798008813 p.main.body) (boot_heap P) s.heap && namesBound p s.heap && gensDone s && laidKept (boot_heap P) s.heap,Fast.tw4187177175401517315 q loose (Fast.tw5923862056798008813 p.main.body) Xt true s)
theorem zM:∀ P:Params,((boot_heap P).isNs mainGlobals && (#[]:Array GenState).size == 0,(boot_heap P).objs.size,(boot_heap P).nsMap mainGlobals "__annotations__") = (true,11,some (.ref 6)):=fun P=>by kernel_rfl
theorem left {p q:Program} {loose:List Str} {Xt:Shared→Bool} {α:Type} {Yf:Shared→α} {Ya:World→α} {N:Nat} (e:opening p = plainProg p.main.scope.names) (hN:Nat.ble 600 N = true) (f:∀ s,fenceModules? p s = some s)
    (h:∀ (w:World) (os:OsState),(ran p w 11 (some (.ref 6)) N (boot w.params os) (topStub p)).map (fun s=>(An p q loose Xt w.params s.abs,Yf s.abs)) = some ((true,openGood q loose),Ya w)):LeftO p q loose Xt Yf Ya N:=fun w=>by
  obtain ⟨⟨h0,gs,d,k,os⟩,e,e'⟩:=Option.map_eq_some_iff.mp (boot_open e hN f w)
  obtain ⟨rfl,rfl,rfl,rfl⟩:h0 = boot_heap w.params∧gs = Array.mk []∧d = boot_drawn∧k = boot_toks:=by simpa using e'
  obtain ⟨s1,hr,hs⟩:=Option.map_eq_some_iff.mp (h w os)
  have r:=zy N hr
  rw [wm] at r
  obtain ⟨hs,hy⟩:=Prod.mk.inj hs
  unfold An at hs
  rw [← Fast.te4187177175401517315,← Fast.te5923862056798008813] at hs
  obtain ⟨hl,hg⟩:=Prod.mk.inj (show (staticsOk (importedModules p.main.body) (boot_heap w.params) s1.abs.heap && namesBound p s1.abs.heap && gensDone s1.abs && laidKept (boot_heap w.params) s1.abs.heap,openSeen q loose (importedModules p.main.body) Xt true s1.abs) = (true,openGood q loose) from hs)
  obtain ⟨z1,z2,z3⟩:_∧_∧_:=by simpa only [Prod.mk.injEq] using zM w.params
  have t:topFrom treeTable p w N ⟨boot_heap w.params,Array.mk [],boot_drawn,boot_toks,os⟩ = some s1.abs:=by
    unfold topFrom
    dsimp only
    rw [z1,z2,z3,r]
    show (match staticsOk (importedModules p.main.body) (boot_heap w.params) s1.abs.heap && namesBound p s1.abs.heap && gensDone s1.abs && laidKept (boot_heap w.params) s1.abs.heap with | true=>_ | false=>_) = _
    rw [hl]
  unfold openEnds
  rw [e]
  show (topFrom treeTable p w N _).map _ = _
  rw [t]
  exact congrArg some (Prod.ext hg hy)
end LT
end
section
namespace LT
section
universe u1 u2 u3 u4 u5 u6 u7 u8 u9
variable {S:Type u1} {A:Type u2} {B:Type u3} {C:Type u4} {D:Type u5} {E:Type u6} {F:Type u7} {R:Type u8} {V:Type u9}
def lot1 (x:A × B × C × D × E × F × R):A × B × C:=match x with | (a,b,c,_)=>(a,b,c)
def lot2 (x:A × B × C × D × E × F × R):D × E × R:=match x with | (_,_,_,d,e,_,r)=>(d,e,r)
def lot3 (x:A × B × C × D × E × F × R):F:=match x with | (_,_,_,_,_,f,_)=>f
theorem lots {o:Option S} {f:S→A × B × C × D × E × F × R} {y:A × B × C × D × E × F × R} {st:S→Bool} {ob:S→V} {v:V} (h1:o.map (fun s=>lot1 (f s)) = some (y.1,y.2.1,y.2.2.1)) (h2:o.map (fun s=>lot2 (f s)) = some (y.2.2.2.1,y.2.2.2.2.1,y.2.2.2.2.2.2))
    (h3:o.map (fun s=>lot3 (f s)) = some y.2.2.2.2.2.1) (h4:o.map (fun s=>(st s,ob s)) = some (true,v)):o.map (fun s=>((st s,f s),ob s)) = some ((true,y),v):=by
  cases o with
  | none=>cases h1
  | some s =>
    have k1:lot1 (f s) = _:=Option.some.inj h1
    have k2:lot2 (f s) = _:=Option.some.inj h2
    have k3:lot3 (f s) = _:=Option.some.inj h3
    have k4:(st s,ob s) = _:=Option.some.inj h4
    show some ((st s,f s),ob s) = _
    generalize f s = x at k1 k2 k3 ⊢
    obtain ⟨a,b,c,d,e,g,r⟩:=x
    obtain ⟨a',b',c',d',e',g',r'⟩:=y
    have k1:(a,b,c) = (a',b',c'):=k1
    have k2:(d,e,r) = (d',e',r'):=k2
    have k3:g = g':=k3
    injection k4 with k4 k5
    cases k1
    cases k2
    cases k3
    rw [k4,k5]
end
end LT
end
section
namespace My
open PySem L2 PyProof.Rows
def top (i:Nat):Stmt:=PySem.Challenge.pw_piecelay_k13_whole_least.main.body.getD i (.Pass ⟨0,0,0,0⟩)
abbrev TL:List (Str × KTD.Dat):=[("num",.flat (.int 9999)),("arg",.flat (.int 3))]
abbrev TB:List (Str × KTD.Dat):=[("add",.flat (.int 2)),("sub",.flat (.int 2)),("mul",.flat (.int 2)),("less",.flat (.int 2)),("pick",.flat (.int 3))]
abbrev TM:List (Str × KTD.Dat):=[("hole",.flat (.int 2)),("gap",.flat (.int 3)),("slot",.flat (.int 2))]
abbrev TF:List (Str × KTD.Dat):=[("low",.flat (.str "gap")),("high",.flat (.str "gap")),("arg",.flat (.str "slot"))]
abbrev BEH:List D:=[.int 8,.int 9]
abbrev INS:List D:=[.tup [.str "end",.int 0],.tup [.str "put",.int 1],.tup [.str "far",.int 2],.tup [.str "load",.int 1],.tup [.str "add",.int 0],.tup [.str "sub",.int 0],.tup [.str "mul",.int 0],.tup [.str "less",.int 0],.tup [.str "skip",.int 1],.tup [.str "jump",.int 2],.tup [.str "zero",.int 1],.tup [.str "none",.int 2],.tup [.str "more",.int 1],.tup [.str "twice",.int 0],.tup [.str "about",.int 0],.tup [.str "call",.int 2],.tup [.str "back",.int 0]]
abbrev STR:List D:=[.str "put",.str "far",.str "load",.str "add",.str "sub",.str "mul",.str "less",.str "more",.str "twice",.str "about"]
abbrev AHE:List D:=[.int 10,.int 11]
abbrev BAS:List D:=[.tup [.str "one",.tup [.str "gap",.int 0,.int 99],.tup [.int 1,.tup [.str "low",.int 0]]],.tup [.str "two",.tup [.str "gap",.int 0,.int 9999],.tup [.int 2,.tup [.str "low",.int 0],.tup [.str "high",.int 0]]],.tup [.str "slot",.tup [.str "slot",.int 0],.tup [.int 3,.tup [.str "arg",.int 0]]],.tup [.str "add",.tup [.str "add",.tup [.str "hole",.int 0],.tup [.str "hole",.int 1]],.tup [.int 4]],.tup [.str "sub",.tup [.str "sub",.tup [.str "hole",.int 0],.tup [.str "hole",.int 1]],.tup [.int 5]],.tup [.str "mul",.tup [.str "mul",.tup [.str "hole",.int 0],.tup [.str "hole",.int 1]],.tup [.int 6]],.tup [.str "less",.tup [.str "less",.tup [.str "hole",.int 0],.tup [.str "hole",.int 1]],.tup [.int 7]],.tup [.str "more",.tup [.str "add",.tup [.str "hole",.int 0],.tup [.str "gap",.int 0,.int 99]],.tup [.int 12,.tup [.str "low",.int 0]]]]
abbrev ij:Stmt:=top 18
theorem sc_is_whole:aU ["thing","low","high"] ["thing","low","high"] (aw ij):=⟨rfl,rfl,rfl,by decide +kernel,rfl,by decide +kernel,by decide +kernel⟩
abbrev gw:Stmt:=top 19
theorem sc_is_tagged:aU ["thing"] ["thing"] (aw gw):=⟨rfl,rfl,rfl,by decide +kernel,rfl,by decide +kernel,by decide +kernel⟩
abbrev iY:Stmt:=top 26
theorem sc_is_node:aU ["thing","kind"] ["thing"] (aw iY):=⟨rfl,rfl,rfl,by decide +kernel,rfl,by decide +kernel,by decide +kernel⟩
abbrev eQ:Stmt:=top 27
theorem sc_trees_within:aU ["tree"] ["tree"] (aw eQ):=⟨rfl,rfl,rfl,by decide +kernel,rfl,by decide +kernel,by decide +kernel⟩
abbrev gO:Stmt:=top 28
theorem sc_is_tree:aU ["thing","waiting","parts","part","deep"] ["thing"] (aw gO):=⟨rfl,rfl,rfl,by decide +kernel,rfl,by decide +kernel,by decide +kernel⟩
abbrev gA:Stmt:=top 29
theorem sc_need_tree:aU ["tree"] ["tree"] (aw gA):=⟨rfl,rfl,rfl,by decide +kernel,rfl,by decide +kernel,by decide +kernel⟩
abbrev jP:Stmt:=top 30
theorem sc_walked:aU ["tree","parts","within"] ["tree"] (aw jP):=⟨rfl,rfl,rfl,by decide +kernel,rfl,by decide +kernel,by decide +kernel⟩
abbrev gM:Stmt:=top 20
theorem sc_is_name:aU ["thing"] ["thing"] (aw gM):=⟨rfl,rfl,rfl,by decide +kernel,rfl,by decide +kernel,by decide +kernel⟩
abbrev dR:Stmt:=top 34
theorem sc_instruction_at:aU ["cells","place","name","many","behind"] ["cells","place"] (aw dR):=⟨rfl,rfl,rfl,by decide +kernel,rfl,by decide +kernel,by decide +kernel⟩
abbrev iX:Stmt:=top 44
theorem sc_is_mark:aU ["thing"] ["thing"] (aw iX):=⟨rfl,rfl,rfl,by decide +kernel,rfl,by decide +kernel,by decide +kernel⟩
abbrev cK:Stmt:=top 45
theorem sc_is_pattern_part:aU ["thing","deep"] ["thing","deep"] (aw cK):=⟨rfl,rfl,rfl,by decide +kernel,rfl,by decide +kernel,by decide +kernel⟩
abbrev ik:Stmt:=top 46
theorem sc_marks_in:aU ["pattern","kind","marks","within"] ["pattern","kind"] (aw ik):=⟨rfl,rfl,rfl,by decide +kernel,rfl,by decide +kernel,by decide +kernel⟩
abbrev d6:Stmt:=top 47
theorem sc_is_numbered:aU ["pattern","kind","numbers"] ["pattern","kind"] (aw d6):=⟨rfl,rfl,rfl,by decide +kernel,rfl,by decide +kernel,by decide +kernel⟩
abbrev eP:Stmt:=top 48
theorem sc_is_pattern:aU ["thing"] ["thing"] (aw eP):=⟨rfl,rfl,rfl,by decide +kernel,rfl,by decide +kernel,by decide +kernel⟩
abbrev fJ:Stmt:=top 49
theorem sc_is_filling:aU ["thing","pattern"] ["thing","pattern"] (aw fJ):=⟨rfl,rfl,rfl,by decide +kernel,rfl,by decide +kernel,by decide +kernel⟩
abbrev iW:Stmt:=top 50
theorem sc_is_cell:aU ["thing","pattern"] ["thing","pattern"] (aw iW):=⟨rfl,rfl,rfl,by decide +kernel,rfl,by decide +kernel,by decide +kernel⟩
abbrev cz:Stmt:=top 51
theorem sc_are_instructions:aU ["cells","pattern","place","name","behind"] ["cells","pattern"] (aw cz):=⟨rfl,rfl,rfl,by decide +kernel,rfl,by decide +kernel,by decide +kernel⟩
abbrev ig:Stmt:=top 52
theorem sc_is_piece:aU ["thing","name","pattern","cells"] ["thing"] (aw ig):=⟨rfl,rfl,rfl,by decide +kernel,rfl,by decide +kernel,by decide +kernel⟩
abbrev gN:Stmt:=top 53
theorem sc_is_set:aU ["thing"] ["thing"] (aw gN):=⟨rfl,rfl,rfl,by decide +kernel,rfl,by decide +kernel,by decide +kernel⟩
abbrev ip:Stmt:=top 54
theorem sc_need_set:aU ["some"] ["some"] (aw ip):=⟨rfl,rfl,rfl,by decide +kernel,rfl,by decide +kernel,by decide +kernel⟩
abbrev eE:Stmt:=top 55
theorem sc_may_stand_for:aU ["mark","tree"] ["mark","tree"] (aw eE):=⟨rfl,rfl,rfl,by decide +kernel,rfl,by decide +kernel,by decide +kernel⟩
abbrev iZ:Stmt:=top 56
theorem sc_matches:aU ["pattern","tree","found","kind"] ["pattern","tree","found"] (aw iZ):=⟨rfl,rfl,rfl,by decide +kernel,rfl,by decide +kernel,by decide +kernel⟩
abbrev ie:Stmt:=top 57
theorem sc_found_in:aU ["piece","tree","found"] ["piece","tree"] (aw ie):=⟨rfl,rfl,rfl,by decide +kernel,rfl,by decide +kernel,by decide +kernel⟩
abbrev gx:Stmt:=top 63
theorem sc_jump_over:aU ["many","kinds","near","far"] ["many","kinds"] (aw gx):=⟨rfl,rfl,rfl,by decide +kernel,rfl,by decide +kernel,by decide +kernel⟩
abbrev eB:Stmt:=top 64
theorem sc_jumps_of_pick:aU ["second","third","behind","ahead"] ["second","third"] (aw eB):=⟨rfl,rfl,rfl,by decide +kernel,rfl,by decide +kernel,by decide +kernel⟩
abbrev i0:Stmt:=top 65
theorem sc_ways_of:aU ["tree","some","ways","piece","found"] ["tree","some"] (aw i0):=⟨rfl,rfl,rfl,by decide +kernel,rfl,by decide +kernel,by decide +kernel⟩
abbrev gy:Stmt:=top 66
theorem sc_length_by:aU ["name","cells","lengths","own","ahead","behind"] ["name","cells","lengths"] (aw gy):=⟨rfl,rfl,rfl,by decide +kernel,rfl,by decide +kernel,by decide +kernel⟩
abbrev b9:Stmt:=top 67
theorem sc_best_by_ways:aU ["tree","some","done","bests","best","name","cells","trees","within","length"] ["tree","some","done","bests"] (aw b9):=⟨rfl,rfl,rfl,by decide +kernel,rfl,by decide +kernel,by decide +kernel⟩
abbrev d9:Stmt:=top 68
theorem sc_best_covering:aU ["tree","some","done","bests","part"] ["tree","some"] (aw d9):=⟨rfl,rfl,rfl,by decide +kernel,rfl,by decide +kernel,by decide +kernel⟩
abbrev gz:Stmt:=top 71
theorem sc_length_of:aU ["tree","some"] ["tree","some"] (aw gz):=⟨rfl,rfl,rfl,by decide +kernel,rfl,by decide +kernel,by decide +kernel⟩
abbrev eA:Stmt:=top 69
theorem sc_is_covered_by:aU ["tree","some","thing","name","cells","trees"] ["tree","some","thing"] (aw eA):=⟨rfl,rfl,rfl,by decide +kernel,rfl,by decide +kernel,by decide +kernel⟩
abbrev di:Stmt:=top 70
theorem sc_are_covered_by:aU ["trees","some","things"] ["trees","some","things"] (aw di):=⟨rfl,rfl,rfl,by decide +kernel,rfl,by decide +kernel,by decide +kernel⟩
abbrev ib:Stmt:=top 72
theorem sc_covering:aU ["tree","some"] ["tree","some"] (aw ib):=⟨rfl,rfl,rfl,by decide +kernel,rfl,by decide +kernel,by decide +kernel⟩
abbrev fj:Stmt:=top 73
theorem sc_is_covering:aU ["tree","some","thing"] ["tree","some","thing"] (aw fj):=⟨rfl,rfl,rfl,by decide +kernel,rfl,by decide +kernel,by decide +kernel⟩
abbrev gn:Stmt:=top 75
theorem sc__law_draw:aU ["_law_script","_law_town","_law_many","_law_one","_law_at","_law_mixed"] ["_law_script","_law_town","_law_many"] (aw gn):=⟨rfl,rfl,rfl,by decide +kernel,rfl,by decide +kernel,by decide +kernel⟩
abbrev gv:Stmt:=top 76
theorem sc__law_pick:aU ["_law_script","_law_town","_law_some"] ["_law_script","_law_town","_law_some"] (aw gv):=⟨rfl,rfl,rfl,by decide +kernel,rfl,by decide +kernel,by decide +kernel⟩
abbrev fu:Stmt:=top 77
theorem sc__law_tree:aU ["_law_script","_law_town","_law_room","_law_leaf","_law_name","_law_many"] ["_law_script","_law_town","_law_room"] (aw fu):=⟨rfl,rfl,rfl,by decide +kernel,rfl,by decide +kernel,by decide +kernel⟩
abbrev fh:Stmt:=top 80
theorem sc__law_pieces:aU ["_law_hole","_law_other","_law_gap","_law_made"] [] (aw fh):=⟨rfl,rfl,rfl,by decide +kernel,rfl,by decide +kernel,by decide +kernel⟩
abbrev fS:Stmt:=top 81
theorem sc__law_set:aU ["_law_script","_law_town","_law_more"] ["_law_script","_law_town"] (aw fS):=⟨rfl,rfl,rfl,by decide +kernel,rfl,by decide +kernel,by decide +kernel⟩
abbrev ia:Stmt:=top 82
theorem sc__law_fit:aU ["_law_pattern","_law_tree_here","_law_found"] ["_law_pattern","_law_tree_here","_law_found"] (aw ia):=⟨rfl,rfl,rfl,by decide +kernel,rfl,by decide +kernel,by decide +kernel⟩
abbrev gu:Stmt:=top 83
theorem sc__law_over:aU ["_law_cells"] ["_law_cells"] (aw gu):=⟨rfl,rfl,rfl,by decide +kernel,rfl,by decide +kernel,by decide +kernel⟩
abbrev dQ:Stmt:=top 84
theorem sc__law_least:aU ["_law_tree_here","_law_some","_law_three","_law_last","_law_lengths","_law_piece","_law_found","_law_holes"] ["_law_tree_here","_law_some"] (aw dQ):=⟨rfl,rfl,rfl,by decide +kernel,rfl,by decide +kernel,by decide +kernel⟩
abbrev gr:Stmt:=top 85
theorem sc__law_jump:aU ["_law_near","_law_far","_law_cells"] ["_law_near","_law_far","_law_cells"] (aw gr):=⟨rfl,rfl,rfl,by decide +kernel,rfl,by decide +kernel,by decide +kernel⟩
abbrev gq:Stmt:=top 86
theorem sc__law_fill:aU ["_law_cells","_law_nums","_law_ks","_law_made","_law_cell"] ["_law_cells","_law_nums","_law_ks"] (aw gq):=⟨rfl,rfl,rfl,by decide +kernel,rfl,by decide +kernel,by decide +kernel⟩
abbrev eI:Stmt:=top 87
theorem sc__law_lay:aU ["_law_tree_here","_law_some","_law_cover","_law_three","_law_last","_law_named","_law_found","_law_holes","_law_made","_law_cells"] ["_law_tree_here","_law_some","_law_cover"] (aw eI):=⟨rfl,rfl,rfl,by decide +kernel,rfl,by decide +kernel,by decide +kernel⟩
abbrev fH:Stmt:=top 88
theorem sc__law_which:aU ["_law_e","_law_own"] ["_law_e"] (aw fH):=⟨rfl,rfl,rfl,by decide +kernel,rfl,by decide +kernel,by decide +kernel⟩
abbrev h9:Stmt:=top 89
theorem sc__law_ask:aU ["_law_what","_law_tree_here","_law_some","_law_e"] ["_law_what","_law_tree_here","_law_some"] (aw h9):=⟨rfl,rfl,rfl,by decide +kernel,rfl,by decide +kernel,by decide +kernel⟩
abbrev rd:Stmt:=top 90
theorem sc_law:aU ["_law_script","_law_town","_law_tree_here","_law_some","_law_due","_law_told_cover","_law_cells"] ["_law_script"] (aw rd):=⟨rfl,rfl,rfl,by decide +kernel,rfl,by decide +kernel,by decide +kernel⟩
set_option genInjectivity false in
set_option genSizeOfSpec false in
structure Txt (P:Program) (w:World) (K:PySem.W.Frag) (mg:Str→Option Value) where
  D6:Addr
  D8:FuncData
  Ea:Fun K "is_whole" "is_whole" ij D6 D8
  E2:mg "is_whole" = some (.ref D6)
  D1:Addr
  D3:FuncData
  Ez:Fun K "is_tagged" "is_tagged" gw D1 D3
  FQ:mg "is_tagged" = some (.ref D1)
  F4:Addr
  F8:FuncData
  GW:Fun K "is_node" "is_node" iY F4 F8
  IF:mg "is_node" = some (.ref F4)
  Dh:Addr
  Di:FuncData
  DF:Fun K "trees_within" "trees_within" eQ Dh Di
  EB:mg "trees_within" = some (.ref Dh)
  GR:Addr
  GV:FuncData
  HU:Fun K "is_tree" "is_tree" gO GR GV
  Js:mg "is_tree" = some (.ref GR)
  Es:Addr
  Ey:FuncData
  E3:Fun K "need_tree" "need_tree" gA Es Ey
  GJ:mg "need_tree" = some (.ref Es)
  Gm:Addr
  Gx:FuncData
  HG:Fun K "walked" "walked" jP Gm Gx
  Ji:mg "walked" = some (.ref Gm)
  GQ:Addr
  GU:FuncData
  HS:Fun K "is_name" "is_name" gM GQ GU
  Jr:mg "is_name" = some (.ref GQ)
  DU:Addr
  DX:FuncData
  EF:Fun K "instruction_at" "instruction_at" dR DU DX
  He:mg "instruction_at" = some (.ref DU)
  GP:Addr
  GT:FuncData
  HR:Fun K "is_mark" "is_mark" iX GP GT
  Jq:mg "is_mark" = some (.ref GP)
  Da:Addr
  Dc:FuncData
  DP:Fun K "is_pattern_part" "is_pattern_part" cK Da Dc
  Fg:mg "is_pattern_part" = some (.ref Da)
  Er:Addr
  Ex:FuncData
  Fo:Fun K "marks_in" "marks_in" ik Er Ex
  Hr:mg "marks_in" = some (.ref Er)
  EM:Addr
  ER:FuncData
  Fw:Fun K "is_numbered" "is_numbered" d6 EM ER
  Ic:mg "is_numbered" = some (.ref EM)
  E9:Addr
  Fe:FuncData
  F1:Fun K "is_pattern" "is_pattern" eP E9 Fe
  Iu:mg "is_pattern" = some (.ref E9)
  E8:Addr
  Fd:FuncData
  F0:Fun K "is_filling" "is_filling" fJ E8 Fd
  Ir:mg "is_filling" = some (.ref E8)
  GO:Addr
  GS:FuncData
  HQ:Fun K "is_cell" "is_cell" iW GO GS
  Jp:mg "is_cell" = some (.ref GO)
  DD:Addr
  DE:FuncData
  D9:Fun K "are_instructions" "are_instructions" cz DD DE
  GB:mg "are_instructions" = some (.ref DD)
  Gk:Addr
  Gw:FuncData
  Hn:Fun K "is_piece" "is_piece" ig Gk Gw
  Jh:mg "is_piece" = some (.ref Gk)
  HE:Addr
  HF:FuncData
  Ip:Fun K "is_set" "is_set" gN HE HF
  JM:mg "is_set" = some (.ref HE)
  EW:Addr
  EY:FuncData
  Fp:Fun K "need_set" "need_set" ip EW EY
  Hs:mg "need_set" = some (.ref EW)
  Ec:Addr
  Ee:FuncData
  EU:Fun K "may_stand_for" "may_stand_for" eE Ec Ee
  Hw:mg "may_stand_for" = some (.ref Ec)
  Fk:Addr
  Fl:FuncData
  Ga:Fun K "matches" "matches" iZ Fk Fl
  HZ:mg "matches" = some (.ref Fk)
  Gj:Addr
  Gv:FuncData
  Hm:Fun K "found_in" "found_in" ie Gj Gv
  Jg:mg "found_in" = some (.ref Gj)
  FC:Addr
  FI:FuncData
  FP:Fun K "jump_over" "jump_over" gx FC FI
  HN:mg "jump_over" = some (.ref FC)
  Eb:Addr
  Ed:FuncData
  ET:Fun K "jumps_of_pick" "jumps_of_pick" eB Eb Ed
  Hv:mg "jumps_of_pick" = some (.ref Eb)
  F5:Addr
  F9:FuncData
  GX:Fun K "ways_of" "ways_of" i0 F5 F9
  IG:mg "ways_of" = some (.ref F5)
  FD:Addr
  FJ:FuncData
  GH:Fun K "length_by" "length_by" gy FD FJ
  IM:mg "length_by" = some (.ref FD)
  Ep:Addr
  Ew:FuncData
  Ff:Fun K "best_by_ways" "best_by_ways" b9 Ep Ew
  HM:mg "best_by_ways" = some (.ref Ep)
  DK:Addr
  DL:FuncData
  Ef:Fun K "best_covering" "best_covering" d9 DK DL
  FW:mg "best_covering" = some (.ref DK)
  C8:Addr
  FK:FuncData
  GI:Fun K "length_of" "length_of" gz C8 FK
  IP:mg "length_of" = some (.ref C8)
  Dp:Addr
  Dq:FuncData
  Eg:Fun K "is_covered_by" "is_covered_by" eA Dp Dq
  FX:mg "is_covered_by" = some (.ref Dp)
  DT:Addr
  DW:FuncData
  EE:Fun K "are_covered_by" "are_covered_by" di DT DW
  Hd:mg "are_covered_by" = some (.ref DT)
  Df:Addr
  Gu:FuncData
  Hl:Fun K "covering" "covering" ib Df Gu
  Jf:mg "covering" = some (.ref Df)
  EL:Addr
  EO:FuncData
  Fv:Fun K "is_covering" "is_covering" fj EL EO
  Ib:mg "is_covering" = some (.ref EL)
  D0:Addr
  D2:FuncData
  Dt:Fun K "_law_draw" "_law_draw" gn D0 D2
  D4:mg "_law_draw" = some (.ref D0)
  FB:Addr
  FH:FuncData
  FN:Fun K "_law_pick" "_law_pick" gv FB FH
  HK:mg "_law_pick" = some (.ref FB)
  Eo:Addr
  Eu:FuncData
  FO:Fun K "_law_tree" "_law_tree" fu Eo Eu
  HL:mg "_law_tree" = some (.ref Eo)
  EK:Addr
  EN:FuncData
  Fu:Fun K "_law_pieces" "_law_pieces" fh EK EN
  Ia:mg "_law_pieces" = some (.ref EK)
  Gi:Addr
  Gs:FuncData
  Hk:Fun K "_law_set" "_law_set" fS Gi Gs
  Je:mg "_law_set" = some (.ref Gi)
  Em:Addr
  Et:FuncData
  E1:Fun K "_law_fit" "_law_fit" ia Em Et
  GA:mg "_law_fit" = some (.ref Em)
  FA:Addr
  FG:FuncData
  FM:Fun K "_law_over" "_law_over" gu FA FG
  HJ:mg "_law_over" = some (.ref FA)
  D5:Addr
  D7:FuncData
  ED:Fun K "_law_least" "_law_least" dQ D5 D7
  F2:mg "_law_least" = some (.ref D5)
  Fz:Addr
  FF:FuncData
  FL:Fun K "_law_jump" "_law_jump" gr Fz FF
  HI:mg "_law_jump" = some (.ref Fz)
  Fy:Addr
  FE:FuncData
  GG:Fun K "_law_fill" "_law_fill" gq Fy FE
  IL:mg "_law_fill" = some (.ref Fy)
  EV:Addr
  EX:FuncData
  Fm:Fun K "_law_lay" "_law_lay" eI EV EX
  Hq:mg "_law_lay" = some (.ref EV)
  E7:Addr
  Fc:FuncData
  FZ:Fun K "_law_which" "_law_which" fH E7 Fc
  Iq:mg "_law_which" = some (.ref E7)
  Gh:Addr
  Gr:FuncData
  EZ:Fun K "_law_ask" "_law_ask" h9 Gh Gr
  Gz:mg "_law_ask" = some (.ref Gh)
  JK:Addr
  JW:FuncData
  Ki:Fun K "law" "law" rd JK JW
  Kn:mg "law" = some (.ref JK)
  Fi:Tok
  EH:mg "MOST_PARTS" = some (.int 40 Fi)
  FS:Tok
  E4:mg "MOST_DEEP" = some (.int 8 FS)
  EC:Tok
  DY:mg "LONGEST_NAME" = some (.int 8 EC)
  FR:Tok
  EA:mg "MOST_CELL" = some (.int 99 FR)
  Dr:Tok
  Dd:mg "MOST_PATTERN_DEEP" = some (.int 3 Dr)
  GE:Tok
  Fq:mg "MOST_GAP" = some (.int 9999 GE)
  DJ:Tok
  Dg:mg "MOST_PIECE_CELLS" = some (.int 12 DJ)
  ES:Tok
  Eh:mg "MOST_PIECES" = some (.int 16 ES)
  FT:Tok
  E5:mg "MOST_NEAR" = some (.int 9 FT)
  Fh:Tok
  EG:mg "CALL_CELLS" = some (.int 3 Fh)
  El:Addr
  DH:mg "MOST_IN_LEAF" = some (.ref El)
  DI:i4 K El TL
  Dk:Addr
  C6:mg "TREES_IN_BRANCH" = some (.ref Dk)
  C7:i4 K Dk TB
  DC:Addr
  Dj:mg "MARK_LENGTHS" = some (.ref DC)
  C5:i4 K DC TM
  EJ:Addr
  DR:mg "FILLED_FROM" = some (.ref EJ)
  DS:i4 K EJ TF
  Ek:Addr
  DG:mg "INSTRUCTIONS" = some (.ref Ek)
  Gn:eT K (.tup INS) (.ref Ek) = true
  Hi:Addr
  Ft:mg "STRAIGHT" = some (.ref Hi)
  IW:eT K (.tup STR) (.ref Hi) = true
  IS:Addr
  HV:mg "AHEAD" = some (.ref IS)
  JV:eT K (.tup AHE) (.ref IS) = true
  Ik:Addr
  GY:mg "BEHIND" = some (.ref Ik)
  JL:eT K (.tup BEH) (.ref Ik) = true
  Ij:Addr
  Ho:mg "BASIC" = some (.ref Ij)
  Jw:lW K BAS Ij = true
  HH:vO P w K DC ["hole","gap","slot"]
  Hh:Addr
  EI:mg "PieceError" = some (.ref Hh)
  HC:Addr
  Hb:mg "NoSize" = some (.ref HC)
  HD:Addr
  Hc:mg "NoTree" = some (.ref HD)
  Hz:Addr
  G8:mg "NoArgs" = some (.ref Hz)
  HA:Addr
  G9:mg "NoCode" = some (.ref HA)
  GN:Addr
  Gd:mg "NoSteps" = some (.ref GN)
  IV:Addr
  IE:mg "Late" = some (.ref IV)
  GM:Addr
  Gc:mg "NoPiece" = some (.ref GM)
  Im:Addr
  HX:mg "NoSet" = some (.ref Im)
  C0:Addr
  Fs:mg "NoCover" = some (.ref C0)
  GL:Addr
  Gb:mg "NoParts" = some (.ref GL)
  HB:Addr
  Ha:mg "NoName" = some (.ref HB)
  Io:Addr
  HY:mg "Taken" = some (.ref Io)
  Il:Addr
  HW:mg "Fault" = some (.ref Il)
  Hy:Addr
  GZ:mg "Broken" = some (.ref Hy)
  Ge:qa K C0 [.type "ValueError",.type "Exception",.type "BaseException",.type "object"] "ValueError.__new__" none = true
  C3:nV K C0
  C4:PySem.W.exmOne K (.ref C0) (.ref Hh) = some true
  Dz:PySem.W.kitOne K (.ref C0) (.ref HC) = some false
  DA:PySem.W.kitOne K (.ref C0) (.ref HD) = some false
  Dv:PySem.W.kitOne K (.ref C0) (.ref Hz) = some false
  Dw:PySem.W.kitOne K (.ref C0) (.ref HA) = some false
  Do:PySem.W.kitOne K (.ref C0) (.ref GN) = some false
  DZ:PySem.W.kitOne K (.ref C0) (.ref IV) = some false
  Dn:PySem.W.kitOne K (.ref C0) (.ref GM) = some false
  DN:PySem.W.kitOne K (.ref C0) (.ref Im) = some false
  Dl:PySem.W.kitOne K (.ref C0) (.ref C0) = some true
  Dm:PySem.W.kitOne K (.ref C0) (.ref GL) = some false
  Dy:PySem.W.kitOne K (.ref C0) (.ref HB) = some false
  DO:PySem.W.kitOne K (.ref C0) (.ref Io) = some false
  DM:PySem.W.kitOne K (.ref C0) (.ref Il) = some false
  Du:PySem.W.kitOne K (.ref C0) (.ref Hy) = some false
  C9:PySem.W.kitOne K (.ref C0) (.type "ValueError") = some true
  De:mg "len" = none
  C1:mg "isinstance" = none
  Kk:mg "int" = none
  J4:mg "bool" = none
  J7:mg "str" = none
  Ei:mg "tuple" = none
  JS:mg "list" = none
  JC:mg "range" = none
  Jj:mg "all" = none
  Kj:mg "any" = none
  Km:mg "set" = none
  J8:mg "sum" = none
  Jk:mg "reversed" = none
  JX:mg "zip" = none
  Kl:mg "min" = none
  Iv:mg "ValueError" = none
section
variable {P:Program} {w:World} {K:PySem.W.Frag} {mg:Str→Option Value} {base:Heap} {k:Nat}
theorem jD {α:Type} {us:List α} (h:us.length = 1):∃ a0,us = [a0]:=match us,h with | [a0],_=>⟨a0,rfl⟩
theorem iG {α:Type} {us:List α} (h:us.length = 2):∃ a0 a1,us = [a0,a1]:=match us,h with | [a0,a1],_=>⟨a0,a1,rfl⟩
theorem jE {α:Type} {us:List α} (h:us.length = 3):∃ a0 a1 a2,us = [a0,a1,a2]:=match us,h with | [a0,a1,a2],_=>⟨a0,a1,a2,rfl⟩
theorem CO {α:Type} {us:List α} (h:us.length = 4):∃ a0 a1 a2 a3,us = [a0,a1,a2,a3]:=match us,h with | [a0,a1,a2,a3],_=>⟨a0,a1,a2,a3,rfl⟩
theorem eZ (T:Txt P w K mg):Binds K T.D8 ["thing","low","high"] []:=T.Ea.binds (ps:=["thing","low","high"]) fun _ _ _ _ _ _ us hl=>by obtain ⟨_,_,_,rfl⟩:=jE hl; rfl
theorem fY (T:Txt P w K mg):Binds K T.D3 ["thing"] []:=T.Ez.binds (ps:=["thing"]) fun _ _ _ _ _ _ us hl=>by obtain ⟨_,rfl⟩:=jD hl; rfl
theorem m7 (T:Txt P w K mg):Binds K T.F8 ["thing"] []:=T.GW.binds (ps:=["thing"]) fun _ _ _ _ _ _ us hl=>by obtain ⟨_,rfl⟩:=jD hl; rfl
theorem eK (T:Txt P w K mg):Binds K T.Di ["tree"] []:=T.DF.binds (ps:=["tree"]) fun _ _ _ _ _ _ us hl=>by obtain ⟨_,rfl⟩:=jD hl; rfl
theorem uo (T:Txt P w K mg):Binds K T.GV ["thing"] []:=T.HU.binds (ps:=["thing"]) fun _ _ _ _ _ _ us hl=>by obtain ⟨_,rfl⟩:=jD hl; rfl
theorem iB (T:Txt P w K mg):Binds K T.Ey ["tree"] []:=T.E3.binds (ps:=["tree"]) fun _ _ _ _ _ _ us hl=>by obtain ⟨_,rfl⟩:=jD hl; rfl
theorem pP (T:Txt P w K mg):Binds K T.Gx ["tree"] []:=T.HG.binds (ps:=["tree"]) fun _ _ _ _ _ _ us hl=>by obtain ⟨_,rfl⟩:=jD hl; rfl
theorem um (T:Txt P w K mg):Binds K T.GU ["thing"] []:=T.HS.binds (ps:=["thing"]) fun _ _ _ _ _ _ us hl=>by obtain ⟨_,rfl⟩:=jD hl; rfl
theorem jY (T:Txt P w K mg):Binds K T.DX ["cells","place"] []:=T.EF.binds (ps:=["cells","place"]) fun _ _ _ _ _ _ us hl=>by obtain ⟨_,_,rfl⟩:=iG hl; rfl
theorem uk (T:Txt P w K mg):Binds K T.GT ["thing"] []:=T.HR.binds (ps:=["thing"]) fun _ _ _ _ _ _ us hl=>by obtain ⟨_,rfl⟩:=jD hl; rfl
theorem fX (T:Txt P w K mg):Binds K T.Dc ["thing","deep"] []:=T.DP.binds (ps:=["thing","deep"]) fun _ _ _ _ _ _ us hl=>by obtain ⟨_,_,rfl⟩:=iG hl; rfl
theorem jd (T:Txt P w K mg):Binds K T.Ex ["pattern","kind"] []:=T.Fo.binds (ps:=["pattern","kind"]) fun _ _ _ _ _ _ us hl=>by obtain ⟨_,_,rfl⟩:=iG hl; rfl
theorem mT (T:Txt P w K mg):Binds K T.ER ["pattern","kind"] []:=T.Fw.binds (ps:=["pattern","kind"]) fun _ _ _ _ _ _ us hl=>by obtain ⟨_,_,rfl⟩:=iG hl; rfl
theorem oi (T:Txt P w K mg):Binds K T.Fe ["thing"] []:=T.F1.binds (ps:=["thing"]) fun _ _ _ _ _ _ us hl=>by obtain ⟨_,rfl⟩:=jD hl; rfl
theorem oh (T:Txt P w K mg):Binds K T.Fd ["thing","pattern"] []:=T.F0.binds (ps:=["thing","pattern"]) fun _ _ _ _ _ _ us hl=>by obtain ⟨_,_,rfl⟩:=iG hl; rfl
theorem uj (T:Txt P w K mg):Binds K T.GS ["thing","pattern"] []:=T.HQ.binds (ps:=["thing","pattern"]) fun _ _ _ _ _ _ us hl=>by obtain ⟨_,_,rfl⟩:=iG hl; rfl
theorem jc (T:Txt P w K mg):Binds K T.DE ["cells","pattern"] []:=T.D9.binds (ps:=["cells","pattern"]) fun _ _ _ _ _ _ us hl=>by obtain ⟨_,_,rfl⟩:=iG hl; rfl
theorem rL (T:Txt P w K mg):Binds K T.Gw ["thing"] []:=T.Hn.binds (ps:=["thing"]) fun _ _ _ _ _ _ us hl=>by obtain ⟨_,rfl⟩:=jD hl; rfl
theorem v8 (T:Txt P w K mg):Binds K T.HF ["thing"] []:=T.Ip.binds (ps:=["thing"]) fun _ _ _ _ _ _ us hl=>by obtain ⟨_,rfl⟩:=jD hl; rfl
theorem je (T:Txt P w K mg):Binds K T.EY ["some"] []:=T.Fp.binds (ps:=["some"]) fun _ _ _ _ _ _ us hl=>by obtain ⟨_,rfl⟩:=jD hl; rfl
theorem kP (T:Txt P w K mg):Binds K T.Ee ["mark","tree"] []:=T.EU.binds (ps:=["mark","tree"]) fun _ _ _ _ _ _ us hl=>by obtain ⟨_,_,rfl⟩:=iG hl; rfl
theorem jZ (T:Txt P w K mg):Binds K T.Fl ["pattern","tree","found"] []:=T.Ga.binds (ps:=["pattern","tree","found"]) fun _ _ _ _ _ _ us hl=>by obtain ⟨_,_,_,rfl⟩:=jE hl; rfl
theorem rK (T:Txt P w K mg):Binds K T.Gv ["piece","tree"] []:=T.Hm.binds (ps:=["piece","tree"]) fun _ _ _ _ _ _ us hl=>by obtain ⟨_,_,rfl⟩:=iG hl; rfl
theorem kG (T:Txt P w K mg):Binds K T.FI ["many","kinds"] []:=T.FP.binds (ps:=["many","kinds"]) fun _ _ _ _ _ _ us hl=>by obtain ⟨_,_,rfl⟩:=iG hl; rfl
theorem kO (T:Txt P w K mg):Binds K T.Ed ["second","third"] []:=T.ET.binds (ps:=["second","third"]) fun _ _ _ _ _ _ us hl=>by obtain ⟨_,_,rfl⟩:=iG hl; rfl
theorem m8 (T:Txt P w K mg):Binds K T.F9 ["tree","some"] []:=T.GX.binds (ps:=["tree","some"]) fun _ _ _ _ _ _ us hl=>by obtain ⟨_,_,rfl⟩:=iG hl; rfl
theorem pN (T:Txt P w K mg):Binds K T.FJ ["name","cells","lengths"] []:=T.GH.binds (ps:=["name","cells","lengths"]) fun _ _ _ _ _ _ us hl=>by obtain ⟨_,_,_,rfl⟩:=jE hl; rfl
theorem lE (T:Txt P w K mg):Binds K T.Ew ["tree","some","done","bests"] []:=T.Ff.binds (ps:=["tree","some","done","bests"]) fun _ _ _ _ _ _ us hl=>by obtain ⟨_,_,_,_,rfl⟩:=CO hl; rfl
theorem iq (T:Txt P w K mg):Binds K T.DL ["tree","some"] []:=T.Ef.binds (ps:=["tree","some"]) fun _ _ _ _ _ _ us hl=>by obtain ⟨_,_,rfl⟩:=iG hl; rfl
theorem pO (T:Txt P w K mg):Binds K T.FK ["tree","some"] []:=T.GI.binds (ps:=["tree","some"]) fun _ _ _ _ _ _ us hl=>by obtain ⟨_,_,rfl⟩:=iG hl; rfl
theorem ir (T:Txt P w K mg):Binds K T.Dq ["tree","some","thing"] []:=T.Eg.binds (ps:=["tree","some","thing"]) fun _ _ _ _ _ _ us hl=>by obtain ⟨_,_,_,rfl⟩:=jE hl; rfl
theorem jX (T:Txt P w K mg):Binds K T.DW ["trees","some","things"] []:=T.EE.binds (ps:=["trees","some","things"]) fun _ _ _ _ _ _ us hl=>by obtain ⟨_,_,_,rfl⟩:=jE hl; rfl
theorem rJ (T:Txt P w K mg):Binds K T.Gu ["tree","some"] []:=T.Hl.binds (ps:=["tree","some"]) fun _ _ _ _ _ _ us hl=>by obtain ⟨_,_,rfl⟩:=iG hl; rfl
theorem mS (T:Txt P w K mg):Binds K T.EO ["tree","some","thing"] []:=T.Fv.binds (ps:=["tree","some","thing"]) fun _ _ _ _ _ _ us hl=>by obtain ⟨_,_,_,rfl⟩:=jE hl; rfl
theorem dE (T:Txt P w K mg):Binds K T.D2 ["_law_script","_law_town","_law_many"] []:=T.Dt.binds (ps:=["_law_script","_law_town","_law_many"]) fun _ _ _ _ _ _ us hl=>by obtain ⟨_,_,_,rfl⟩:=jE hl; rfl
theorem kE (T:Txt P w K mg):Binds K T.FH ["_law_script","_law_town","_law_some"] []:=T.FN.binds (ps:=["_law_script","_law_town","_law_some"]) fun _ _ _ _ _ _ us hl=>by obtain ⟨_,_,_,rfl⟩:=jE hl; rfl
theorem kF (T:Txt P w K mg):Binds K T.Eu ["_law_script","_law_town","_law_room"] []:=T.FO.binds (ps:=["_law_script","_law_town","_law_room"]) fun _ _ _ _ _ _ us hl=>by obtain ⟨_,_,_,rfl⟩:=jE hl; rfl
theorem mR (T:Txt P w K mg):Binds K T.EN [] []:=T.Fu.binds (ps:=[]) fun _ _ _ _ _ _ us hl=>match us,hl with | [],_=>rfl
theorem rH (T:Txt P w K mg):Binds K T.Gs ["_law_script","_law_town"] []:=T.Hk.binds (ps:=["_law_script","_law_town"]) fun _ _ _ _ _ _ us hl=>by obtain ⟨_,_,rfl⟩:=iG hl; rfl
theorem gU (T:Txt P w K mg):Binds K T.Et ["_law_pattern","_law_tree_here","_law_found"] []:=T.E1.binds (ps:=["_law_pattern","_law_tree_here","_law_found"]) fun _ _ _ _ _ _ us hl=>by obtain ⟨_,_,_,rfl⟩:=jE hl; rfl
theorem kD (T:Txt P w K mg):Binds K T.FG ["_law_cells"] []:=T.FM.binds (ps:=["_law_cells"]) fun _ _ _ _ _ _ us hl=>by obtain ⟨_,rfl⟩:=jD hl; rfl
theorem gW (T:Txt P w K mg):Binds K T.D7 ["_law_tree_here","_law_some"] []:=T.ED.binds (ps:=["_law_tree_here","_law_some"]) fun _ _ _ _ _ _ us hl=>by obtain ⟨_,_,rfl⟩:=iG hl; rfl
theorem kC (T:Txt P w K mg):Binds K T.FF ["_law_near","_law_far","_law_cells"] []:=T.FL.binds (ps:=["_law_near","_law_far","_law_cells"]) fun _ _ _ _ _ _ us hl=>by obtain ⟨_,_,_,rfl⟩:=jE hl; rfl
theorem pM (T:Txt P w K mg):Binds K T.FE ["_law_cells","_law_nums","_law_ks"] []:=T.GG.binds (ps:=["_law_cells","_law_nums","_law_ks"]) fun _ _ _ _ _ _ us hl=>by obtain ⟨_,_,_,rfl⟩:=jE hl; rfl
theorem jb (T:Txt P w K mg):Binds K T.EX ["_law_tree_here","_law_some","_law_cover"] []:=T.Fm.binds (ps:=["_law_tree_here","_law_some","_law_cover"]) fun _ _ _ _ _ _ us hl=>by obtain ⟨_,_,_,rfl⟩:=jE hl; rfl
theorem og (T:Txt P w K mg):Binds K T.Fc ["_law_e"] []:=T.FZ.binds (ps:=["_law_e"]) fun _ _ _ _ _ _ us hl=>by obtain ⟨_,rfl⟩:=jD hl; rfl
theorem gT (T:Txt P w K mg):Binds K T.Gr ["_law_what","_law_tree_here","_law_some"] []:=T.EZ.binds (ps:=["_law_what","_law_tree_here","_law_some"]) fun _ _ _ _ _ _ us hl=>by obtain ⟨_,_,_,rfl⟩:=jE hl; rfl
def cu (d:D) (lo hi:Int):Bool:=match d with
  | .int i=>decide (lo ≤ i) && decide (i ≤ hi)
  | _=>false
def fw (ds:List D) (d:D):Prop:=∃ x lo hi,ds = [x,.int lo,.int hi]∧d = .bl (cu x lo hi)
def cC:D→Bool
  | .tup (.str _ :: _)=>true
  | _=>false
def gS (ds:List D) (d:D):Prop:=∃ x,ds = [x]∧d = .bl (cC x)
def jr (k:Str) (T:List (Str × KTD.Dat)):Int:=match KTD.datumAt k T with
  | some (.flat (.int i))=>i
  | _=>0
def cP:D→Bool
  | .tup (.str k :: r)=>if KTD.inKeys k TL = true then decide ((r.length:Int) + 1 = 2) && cu (r.getD 0 .non) 0 (jr k TL) else KTD.inKeys k TB && decide ((r.length:Int) + 1 = 1 + jr k TB)
  | _=>false
def vX (ds:List D) (d:D):Prop:=∃ x,ds = [x]∧d = .bl (cP x)
def bV:D→List D
  | .tup (.str k :: r)=>if KTD.inKeys k TB = true then r else []
  | _=>[]
def fF (ds:List D) (d:D):Prop:=∃ k r,ds = [.tup (.str k :: r)]∧d = .tup (bV (.tup (.str k :: r)))
theorem Co {T:List (Str × KTD.Dat)} {k:Str} (hT:∀ p ∈ T,∃ i,p.2 = .flat (.int i)) (h:KTD.inKeys k T = true):KTD.datumAt k T = some (.flat (.int (jr k T))):=by
  unfold jr
  cases e:KTD.datumAt k T with
  | none=>exact absurd e (KTD.at_of_mem h)
  | some d =>
    have all:∀ (T:List (Str × KTD.Dat)),(∀ p ∈ T,∃ i,p.2 = .flat (.int i))→KTD.datumAt k T = some d→∃ i,d = .flat (.int i):=by
      intro T
      induction T with
      | nil=>intro _ e; simp [KTD.datumAt] at e
      | cons p r ih =>
        intro hp e
        obtain ⟨x,y⟩:=p
        have e':(if decide (k = x) = true then some y else KTD.datumAt k r) = some d:=e
        by_cases hx:k = x
        · rw [if_pos (decide_eq_true hx)] at e'
          cases e'
          exact hp _ List.mem_cons_self
        · rw [if_neg (by simp [hx])] at e'
          exact ih (fun p hp'=>hp p (List.mem_cons_of_mem _ hp')) e'
    obtain ⟨i,rfl⟩:=all T hT e
    rfl
theorem AG:∀ p ∈ TL,∃ i,p.2 = .flat (.int i):=by
  intro p hp
  simp only [TL,List.mem_cons,List.not_mem_nil,or_false] at hp
  rcases hp with rfl | rfl <;> exact ⟨_,rfl⟩
theorem AE:∀ p ∈ TB,∃ i,p.2 = .flat (.int i):=by
  intro p hp
  simp only [TB,List.mem_cons,List.not_mem_nil,or_false] at hp
  rcases hp with rfl | rfl | rfl | rfl | rfl <;> exact ⟨_,rfl⟩
theorem qN (T:Txt P w K mg)  : FnOk P w K mg base CX0 (k + 1) T.D6 T.D8 ["thing","low","high"] (spD K fw):=by
  refine T.Ea.ok sc_is_whole (fun vs H Q E h=>?_) (fun cdv A outer s H vs Q E hr h=>?_)
  · obtain ⟨ds,d,hd,⟨x,lo,hi,rfl,rfl⟩,_⟩:=h; exact hd.length.symm
  have nd:=sc_is_whole.nd
  obtain ⟨ds,d,hd,⟨x,lo,hi,rfl,rfl⟩,post⟩:=h
  obtain ⟨v0,v1,v2,rfl,h0,h1,h2⟩:=p6 hd
  have g1:=h1.intE
  have g2:=h2.intE
  subst g1 g2
  refine ⟨_,(au (aD (fC (aA (dA AY) rfl T.C1 aQ (aS (pv 0) (aS (dM (v:=.ty "int") rfl T.Kk AM rfl) af))) (fC (Bf (aA (dA yP) rfl T.C1 aQ (aS (pv 0) (aS (dM (v:=.ty "bool") rfl T.J4 yC rfl) af)))) (fD (qR gJ gJ (pv 1) (pv 0) (pv 2))))))),?_⟩
  refine aZ (K:=K) (d:=.bl (cu x lo hi)) ?_ post
  cases x with
  | int i=>exact RE.as (cm (bM (aa h0)) fun _=>cm (xX (bM (aa h0))) fun _=>jM (aa h1) (aa h0) fun _=>aa h2) rfl
  | bl y=>exact RE.as (cm (c:=false) (bM (aa h0)) fun _=>RE.as (cm (c:=true) (xX (bM (aa h0))) fun z=>nomatch z) rfl) rfl
  | non=>exact RE.as (cm (c:=true) (bM (aa h0)) fun z=>nomatch z) rfl
  | str y=>exact RE.as (cm (c:=true) (bM (aa h0)) fun z=>nomatch z) rfl
  | tup y=>exact RE.as (cm (c:=true) (bM (aa h0)) fun z=>nomatch z) rfl
  | lst=>exact RE.as (cm (c:=true) (bM (aa h0)) fun z=>nomatch z) rfl
theorem oS (T:Txt P w K mg)  : FnOk P w K mg base CX0 (k + 1) T.D1 T.D3 ["thing"] (spD K gS):=by
  refine T.Ez.ok sc_is_tagged (fun vs H Q E h=>?_) (fun cdv A outer s H vs Q E hr h=>?_)
  · obtain ⟨ds,d,hd,⟨x,rfl,rfl⟩,_⟩:=h; exact hd.length.symm
  have nd:=sc_is_tagged.nd
  obtain ⟨ds,d,hd,⟨x,rfl,rfl⟩,post⟩:=h
  obtain ⟨v0,rfl,h0⟩:=fZ hd
  refine ⟨_,(au (aD (fC (aA (dA fP) rfl T.C1 aQ (aS (pv 0) (aS (dM (v:=.ty "tuple") rfl T.Ei cV rfl) af))) (fC (bZ nG (aA aH rfl T.De bI (ah (pv 0) af)) ag (aL _)) (fD (aA (dA wH) rfl T.C1 aQ (aS (aE aI (pv 0) ag (fun _ _=>rfl)) (aS (dM (v:=.ty "str") rfl T.J7 wc rfl) af)))))))),?_⟩
  refine aZ (K:=K) (d:=.bl (cC x)) ?_ post
  cases x with
  | tup ds =>
    cases ds with
    | nil=>exact RE.as (cm (c:=false) (bM (aa h0)) fun _=>RE.as (cm (c:=true) (d5 (cq (aa h0)) aj) fun z=>nomatch z) rfl) rfl
    | cons y r =>
      have l:decide ((0:Int) < (((y :: r).length:Nat):Int)) = true:=decide_eq_true (by rw [List.length_cons]; omega)
      refine RE.as (cm (bM (aa h0)) fun _=>cm (RE.as (d5 (cq (aa h0)) aj) (congrArg D.bl l)) fun _=>bM (aN (k:=0) (aa h0) aj (show (y :: r)[0]? = some y from rfl))) ?_
      cases y <;> rfl
  | int i=>exact RE.as (cm (c:=true) (bM (aa h0)) fun z=>nomatch z) rfl
  | bl y=>exact RE.as (cm (c:=true) (bM (aa h0)) fun z=>nomatch z) rfl
  | non=>exact RE.as (cm (c:=true) (bM (aa h0)) fun z=>nomatch z) rfl
  | str y=>exact RE.as (cm (c:=true) (bM (aa h0)) fun z=>nomatch z) rfl
  | lst=>exact RE.as (cm (c:=true) (bM (aa h0)) fun z=>nomatch z) rfl
end
end My
end
section
namespace My
open PySem L2 PyProof.Rows
section
variable {P:Program} {w:World} {K:PySem.W.Frag} {mg:Str→Option Value} {base:Heap} {k:Nat}
theorem sj (T:Txt P w K mg) (Ej:FnOk P w K mg base CX0 k T.D1 T.D3 ["thing"] (spD K gS)) (DQ:FnOk P w K mg base CX0 k T.D6 T.D8 ["thing","low","high"] (spD K fw)):FnOk P w K mg base CX0 (k + 1) T.F4 T.F8 ["thing"] (spD K vX):=by
  refine T.GW.ok sc_is_node (fun vs H Q E h=>?_) (fun cdv A outer s H vs Q E hr h=>?_)
  · obtain ⟨ds,d,hd,⟨x,rfl,rfl⟩,_⟩:=h; exact hd.length.symm
  have nd:=sc_is_node.nd
  obtain ⟨ds,d,hd,⟨x,rfl,rfl⟩,post⟩:=h
  obtain ⟨v0,rfl,h0⟩:=fZ hd
  refine ⟨_,(ao (bj (bR (bq (az Ej hr rfl T.FQ T.Ez.kp (fY T) .nil aY (ah (pv 0) af)) (fun _=>rfl))) (au (aD cG)) aK)
  (ao (bz (i:=1) nd rfl (Or.inl rfl) (aE aI (pv 0) ag (fun _ _=>rfl)))
  (ao (bj (aF jJ (pv 1) (bg (v:=.ref T.El) rfl T.DH rfl) (by with_unfolding_all rfl)) (au (aD (fC (bZ cg (aA aH rfl T.De bI (ah (pv 0) af)) ag (aL _)) (fD (az DQ hr rfl T.E2 T.Ea.kp (eZ T) .nil aY (ah (aE aI (pv 0) ag (fun _ _=>rfl)) (ah ag (ah (aE wK (bg (v:=.ref T.El) rfl T.DH rfl) (pv 1) (fun _ _=>rfl)) af)))))))) aK)
  (au (aD (fC (bZ jJ (pv 1) (bg (v:=.ref T.Dk) rfl T.C6 rfl) (by with_unfolding_all rfl)) (fD (bZ cg (aA aH rfl T.De bI (ah (pv 0) af)) (bE dF ag (aE wK (bg (v:=.ref T.Dk) rfl T.C6 rfl) (pv 1) (fun _ _=>rfl))) (aL _))))))))),?_⟩
  refine aO (K:=K) (b:=!cC x) (bu (aW (bh (ae (aa h0) ax) ⟨x,rfl,rfl⟩))) (fun c H1 s1=>?_) (fun c H1 s1=>?_)
  · refine aZ (K:=K) (d:=.bl (cP x)) ?_ fun v H' s q=>post v H' (s1.trans s) q
    have e:cP x = false:=by
      unfold cP
      split
      · unfold cC at c; simp at c
      · rfl
    rw [e]
    exact dj
  · have h0':=s1.dat h0
    have c':cC x = true:=by simpa using c
    unfold cC at c'
    split at c'
    · rename_i kd r
      refine dP (K:=K) (d:=.str kd) (aN (k:=0) (aa h0') aj rfl) fun v1 H2 s2 q2=>?_
      have h2:=s2.dat h0'
      have ev:=q2.strE
      subst ev
      refine aO (K:=K) (b:=KTD.inKeys kd TL) (ay (ft (aa q2) T.DI)) (fun cL H3 s3=>?_) (fun cL H3 s3=>?_)
      · have h3:=s3.dat h2
        have e:cP (.tup (.str kd :: r)) = (decide ((r.length:Int) + 1 = 2) && cu (r.getD 0 .non) 0 (jr kd TL)):=by
          show (if KTD.inKeys kd TL = true then _ else _) = _
          rw [if_pos cL]
        refine aZ (K:=K) (d:=.bl (cP (.tup (.str kd :: r)))) ?_ fun v H' s q=>post v H' (s1.trans (s2.trans (s3.trans s))) q
        rw [e]
        have el:((((D.str kd) :: r).length:Nat):Int) = (r.length:Int) + 1:=by rw [List.length_cons]; omega
        have b1:=o9 (K:=K) (cq (aa (σ:=(dW ["thing","kind"] [v0]).set 1 (some (.str kd))) (k:=0) h3)) (aj (i:=2))
        rw [el] at b1
        refine cm b1 fun hl=>?_
        have hl':(r.length:Int) + 1 = 2:=of_decide_eq_true hl
        obtain ⟨y,er⟩:∃ y,r = [y]:=by
          match r,hl' with
          | [],h=>simp at h
          | [y],_=>exact ⟨y,rfl⟩
          | _ :: _ :: _,h=>simp at h; omega
        subst er
        refine bh (E:=E0) (R:=fw) (ae (aN (k:=1) (aa h3) aj rfl) (ae aj (ae (qX (aa (s3.dat q2)) T.DI (by rfl) (Co AG cL)) ax))) ⟨y,0,jr kd TL,rfl,rfl⟩
      · have h3:=s3.dat h2
        have e:cP (.tup (.str kd :: r)) = (KTD.inKeys kd TB && decide ((r.length:Int) + 1 = 1 + jr kd TB)):=by
          show (if KTD.inKeys kd TL = true then _ else _) = _
          rw [if_neg (by rw [cL]; exact Bool.false_ne_true)]
        refine aZ (K:=K) (d:=.bl (cP (.tup (.str kd :: r)))) ?_ fun v H' s q=>post v H' (s1.trans (s2.trans (s3.trans s))) q
        rw [e]
        have el:((((D.str kd) :: r).length:Nat):Int) = (r.length:Int) + 1:=by rw [List.length_cons]; omega
        refine cm (ft (aa (s3.dat q2)) T.C7) fun cB=>?_
        have b1:=o9 (K:=K) (cq (aa (σ:=(dW ["thing","kind"] [v0]).set 1 (some (.str kd))) (k:=0) h3)) (eH (aj (i:=1)) (qX (aa (σ:=(dW ["thing","kind"] [v0]).set 1 (some (.str kd))) (k:=1) (s3.dat q2)) T.C7 (by rfl) (Co AE cB)))
        rw [el] at b1
        exact b1
    · cases c'
theorem kT (T:Txt P w K mg)  : FnOk P w K mg base CX0 (k + 1) T.Dh T.Di ["tree"] (spD K fF):=by
  refine T.DF.ok sc_trees_within (fun vs H Q E h=>?_) (fun cdv A outer s H vs Q E hr h=>?_)
  · obtain ⟨ds,d,hd,⟨kd,r,rfl,rfl⟩,_⟩:=h; exact hd.length.symm
  have nd:=sc_trees_within.nd
  obtain ⟨ds,d,hd,⟨kd,r,rfl,rfl⟩,post⟩:=h
  obtain ⟨v0,rfl,h0⟩:=fZ hd
  refine ⟨_,(ao (bj (aF jJ (aE aI (pv 0) ag (fun _ _=>rfl)) (bg (v:=.ref T.Dk) rfl T.C6 rfl) (by with_unfolding_all rfl)) (au (aD (iM mD (pv 0) (iS ag) kY))) aK)
  (au (aD (aX af)))),?_⟩
  refine aO (K:=K) (b:=KTD.inKeys kd TB) (ay (ft (aN (k:=0) (aa h0) aj rfl) T.C7)) (fun c H1 s1=>?_) (fun c H1 s1=>?_)
  · refine aZ (K:=K) (d:=.tup r) (iV (aa (s1.dat h0))) fun v H' s q=>post v H' (s1.trans s) ?_
    show Dat K H' (.tup (if KTD.inKeys kd TB = true then r else [])) v
    rw [if_pos c]
    exact q
  · refine aZ (K:=K) (σ:=dW ["tree"] [v0]) (d:=.tup []) (ba ax) fun v H' s q=>post v H' (s1.trans s) ?_
    show Dat K H' (.tup (if KTD.inKeys kd TB = true then r else [])) v
    rw [if_neg (by rw [c]; exact Bool.false_ne_true)]
    exact q
theorem xA {ns:List Int} {k:Int} (h0:0 ≤ k) (h1:k < (ns.length:Int)):∃ z,atI (ns.map V.int) k = some (.int z):=by
  have hk:k.toNat < ns.length:=by omega
  refine ⟨ns[k.toNat],?_⟩
  have e:k = ((k.toNat:Nat):Int):=by omega
  have q:atI (ns.map V.int) ((k.toNat:Nat):Int) = some (.int ns[k.toNat]):=fG (by rw [List.getElem?_map,List.getElem?_eq_getElem hk] <;> rfl)
  rw [← e] at q
  exact q
theorem oM (T:Txt P w K mg)  : FnOk P w K mg base CX0 (k + 1) T.D0 T.D2 ["_law_script","_law_town","_law_many"] (mH K):=by
  refine T.Dt.ok sc__law_draw (fun vs H Q E h=>?_) (fun cdv A outer s H vs Q E hr h=>?_)
  · obtain ⟨a,t,ns,m,p,q,rest,rfl,_⟩:=h; rfl
  have nd:=sc__law_draw.nd
  obtain ⟨a,t,ns,m,p,q,rest,rfl,hS,hT,hp,hm,hm2,post⟩:=h
  refine ⟨_,(ao (bj (aF nG (aE bp (pv 1) ag (fun _ _=>rfl)) ag (aL _)) (ao (bz (i:=3) nd rfl (Or.inl rfl) (bE fB (aE bp (pv 1) ag (fun _ _=>rfl)) (pv 2)))
  (ao (hU (bE jI (aE bp (pv 1) ag (fun _ _=>rfl)) (pv 2)) (xx (pv 1) ag jQ))
  (au (aD (pv 3))))) aK)
  (ao (bz (i:=4) nd rfl (Or.inl rfl) (aE bp (pv 1) ag (fun _ _=>rfl)))
  (ao (tU (pv 1) ag qt ag rT jQ)
  (ao (bj (aF (oY hr) (pv 0) (bC af) (aL _)) (au (aD (bE fB (pv 4) (pv 2)))) aK)
  (ao (bj (PW.pt (Bk (aF nI (pv 4) (aA aH rfl T.De bI (ah (pv 0) af)) (aL _)) (zx (aF xl (aE bp (pv 0) (pv 4) (fun _ _=>rfl)) (bE oZ ag ag) (aL _))))) (ao (hU (bE fB (bE jI (aE bp (pv 0) (pv 4) (fun _ _=>rfl)) (pv 2)) (bE zp (bE oZ ag ag) (bE oZ ag ag))) (xx (pv 1) ag jQ))
  (au (aD (bE fB (aE bp (pv 0) (pv 4) (fun _ _=>rfl)) (pv 2))))) aK)
  (ao (bz (i:=5) nd rfl (Or.inl rfl) (bE fB (bE dF (bE dF (bE xn (aE bp (pv 0) (bE fB (pv 4) (aA aH rfl T.De bI (ah (pv 0) af))) (fun _ _=>rfl)) ag) (bE xn ag (pv 4))) ag) ag))
  (au (aD (bE fB (bE fB (bE fB (bE oZ (pv 5) ag) ag) ag) (pv 2)))))))))),?_⟩
  refine ⟨_,rfl,t,_,1,_,rfl,rfl,SqL.of hT,at1,q,0,rfl,rfl,_,rfl,?_⟩
  refine kR (fun c=>?_) (fun c=>?_)
  · refine ⟨_,rfl,t,_,1,_,rfl,rfl,SqL.of hT,at1,_,rfl,q,m,rfl,rfl,hm,?_⟩
    refine ⟨_,rfl,t,_,1,_,rfl,rfl,SqL.of hT,at1,_,rfl,q,m,rfl,rfl,⟨hm,by omega⟩,?_⟩
    refine ⟨_,rfl,t,_,1,1,rfl,rfl,hT,ix1,?_⟩
    refine ⟨_,rfl,?_⟩
    exact post (q % m) _ p (q / m) (But.upd (Same.refl H).but) aq hp (Int.emod_nonneg _ (by omega)) (Int.emod_lt_of_pos _ hm)
  refine ⟨_,rfl,t,_,0,_,rfl,rfl,SqL.of hT,at0,?_⟩
  refine ⟨_,rfl,t,_,0,_,rfl,rfl,Int.le_refl 0,SqL.of hT,rfl,p,1,rfl,rfl,t,_,0,0,rfl,rfl,hT,ix0,?_⟩
  refine ⟨_,rfl,(by show 0 ≤ sizeLine; decide),fun l hl=>?_⟩
  have bt1:But t H (upd H t (.lst ((V.int p :: .int q :: rest).set 0 (.int (p + 1))))):=But.upd (Same.refl H).but
  have hlt:l ≠ t:=fun z=>by rw [z,aq] at hl; cases hl
  have bt3:=bt1.trans (aC hl (.lst [])).but
  have ht3:upd (upd H t (.lst ((V.int p :: .int q :: rest).set 0 (.int (p + 1))))) l (.lst []) t = some (.lst (.int (p + 1) :: .int q :: rest)):=by
    rw [aB (Ne.symm hlt)]; exact aq
  have hS3:=(hS.but bt3 hT).sqL
  have hlen:((ns.map V.int).length:Int) = (ns.length:Int):=by rw [List.length_map]
  refine ⟨a,l,_,[],ns.map D.int,[],rfl,rfl,hS3,SqL.of aq,nj ns,Dats.nil,ki ns,(by unfold cM; rfl),(by rw [kL]; decide),_,rfl,?_⟩
  show (if cW (ns.map D.int) [] = true then _ else _)
  rw [lI]
  refine kR (fun c0=>?_) (fun c0=>?_)
  · refine ⟨_,rfl,_,rfl,p,m,rfl,rfl,hm,?_⟩
    exact post _ _ (p + 1) q bt3 ht3 (by omega) (Int.emod_nonneg _ (by omega)) (Int.emod_lt_of_pos _ hm)
  have hl0:(0:Int) < ((ns.map V.int).length:Int):=by
    rw [hlen]
    cases ns with
    | nil=>exact absurd rfl c0
    | cons n ns=>rw [List.length_cons]; omega
  refine ⟨_,rfl,_,rfl,a,_,rfl,.inl hS3,p,_,rfl,rfl,_,rfl,?_⟩
  refine kR (fun c1=>?_) (fun c1=>?_)
  · have c1':p < ((ns.map V.int).length:Int):=of_decide_eq_true c1
    obtain ⟨z,hz⟩:=xA (ns:=ns) hp (by rw [← hlen]; exact c1')
    refine ⟨_,rfl,_,rfl,a,_,p,_,rfl,rfl,hS3,hz,10,18,rfl,rfl,⟨by decide,by decide,by decide⟩,z,_,rfl,rfl,_,rfl,?_⟩
    refine kR (fun c2=>?_) (fun c2=>?_)
    · refine ⟨_,rfl,_,rfl,a,_,p,_,rfl,rfl,hS3,hz,_,rfl,z,m,rfl,rfl,⟨hm,by omega⟩,10,60,rfl,rfl,⟨by decide,by decide,by decide⟩,10,60,rfl,rfl,⟨by decide,by decide,by decide⟩,_,_,rfl,rfl,IntMulOk.of_bits (by decide +kernel) (by decide +kernel),_,_,rfl,rfl,(by show (0:Int) < 10 ^ (60:Int).toNat * 10 ^ (60:Int).toNat; decide +kernel),?_⟩
      refine ⟨_,rfl,t,_,1,1,rfl,rfl,ht3,ix1,?_⟩
      refine ⟨_,rfl,_,rfl,a,_,p,_,rfl,rfl,(hS.but bt3.upd hT).sqL,hz,_,rfl,z,m,rfl,rfl,hm,?_⟩
      exact post _ _ (p + 1) _ bt3.upd aq (by omega) (Int.emod_nonneg _ (by omega)) (Int.emod_lt_of_pos _ hm)
    · refine ⟨_,rfl,_,rfl,_,rfl,a,_,rfl,.inl hS3,p,_,rfl,rfl,hl0,?_⟩
      obtain ⟨z2,hz2⟩:=xA (ns:=ns) (Int.emod_nonneg p (by omega:((ns.map V.int).length:Int) ≠ 0)) (by rw [← hlen]; exact Int.emod_lt_of_pos p hl0)
      refine ⟨a,_,_,_,rfl,rfl,hS3,hz2,z2,1103515245,rfl,rfl,.inr ⟨by decide,by decide⟩,_,rfl,7919,p,rfl,rfl,.inl ⟨by decide,by decide⟩,_,_,rfl,rfl,_,_,rfl,rfl,_,_,rfl,rfl,(by show (0:Int) < 2147483647; decide),?_⟩
      have m1:=Int.emod_nonneg (z2 * 1103515245 + 7919 * p + 12345) (by decide:(2147483647:Int) ≠ 0)
      have m2:=Int.emod_lt_of_pos (z2 * 1103515245 + 7919 * p + 12345) (by decide:(0:Int) < 2147483647)
      refine ⟨_,rfl,_,5,rfl,rfl,⟨by decide,by decide,by omega⟩,_,_,rfl,rfl,(by show (0:Int) < 2147483647; decide),_,_,rfl,rfl,(by show (0:Int) < 999983; decide),_,rfl,_,m,rfl,rfl,hm,?_⟩
      exact post _ _ (p + 1) q bt3 ht3 (by omega) (Int.emod_nonneg _ (by omega)) (Int.emod_lt_of_pos _ hm)
  · refine ⟨_,rfl,_,rfl,_,rfl,a,_,rfl,.inl hS3,p,_,rfl,rfl,hl0,?_⟩
    obtain ⟨z2,hz2⟩:=xA (ns:=ns) (Int.emod_nonneg p (by omega:((ns.map V.int).length:Int) ≠ 0)) (by rw [← hlen]; exact Int.emod_lt_of_pos p hl0)
    refine ⟨a,_,_,_,rfl,rfl,hS3,hz2,z2,1103515245,rfl,rfl,.inr ⟨by decide,by decide⟩,_,rfl,7919,p,rfl,rfl,.inl ⟨by decide,by decide⟩,_,_,rfl,rfl,_,_,rfl,rfl,_,_,rfl,rfl,(by show (0:Int) < 2147483647; decide),?_⟩
    have m1:=Int.emod_nonneg (z2 * 1103515245 + 7919 * p + 12345) (by decide:(2147483647:Int) ≠ 0)
    have m2:=Int.emod_lt_of_pos (z2 * 1103515245 + 7919 * p + 12345) (by decide:(0:Int) < 2147483647)
    refine ⟨_,rfl,_,5,rfl,rfl,⟨by decide,by decide,by omega⟩,_,_,rfl,rfl,(by show (0:Int) < 2147483647; decide),_,_,rfl,rfl,(by show (0:Int) < 999983; decide),_,rfl,_,m,rfl,rfl,hm,?_⟩
    exact post _ _ (p + 1) q bt3 ht3 (by omega) (Int.emod_nonneg _ (by omega)) (Int.emod_lt_of_pos _ hm)
def yb (K:PySem.W.Frag):Sp:=fun vs H Q _=>∃ (a t l:Addr) (ns:List Int) (xs:List V) (p q:Int) (rest:List V),vs = [.ref a,.ref t,.ref l]∧Scr K H a ns∧SqL K H l xs∧l ≠ t∧0 < xs.length∧xs.length ≤ 1000000 ∧
  H t = some (.lst (.int p :: .int q :: rest))∧0 ≤ p∧∀ (i:Nat) (x:V) (H':Hp) (p' q':Int),But t H H'→H' t = some (.lst (.int p' :: .int q' :: rest))→0 ≤ p'→xs[i]? = some x→Q x H'
theorem oQ (T:Txt P w K mg) (Ds:FnOk P w K mg base CX0 k T.D0 T.D2 ["_law_script","_law_town","_law_many"] (mH K)):FnOk P w K mg base CX0 (k + 1) T.FB T.FH ["_law_script","_law_town","_law_some"] (yb K):=by
  refine T.FN.ok sc__law_pick (fun vs H Q E h=>?_) (fun cdv A outer s H vs Q E hr h=>?_)
  · obtain ⟨a,t,l,ns,xs,p,q,rest,rfl,_⟩:=h; rfl
  have nd:=sc__law_pick.nd
  obtain ⟨a,t,l,ns,xs,p,q,rest,rfl,hS,hL,hlt,hx0,hx1,hT,hp,post⟩:=h
  refine ⟨_,(au (aD (aE bp (pv 2) (az Ds hr rfl T.D4 T.Dt.kp (dE T) .nil aY (ah (pv 0) (ah (pv 1) (ah (aA aH rfl T.De bI (ah (pv 2) af)) af)))) (fun _ _=>rfl)))),?_⟩
  refine ⟨_,rfl,_,rfl,_,rfl,_,rfl,l,xs,rfl,.inl hL,a,t,ns,(xs.length:Int),p,q,rest,rfl,hS,hT,hp,by omega,by omega,fun r H1 p1 q1 b1 t1 g1 r0 r1=>?_⟩
  have hr':r.toNat < xs.length:=by omega
  have er:r = ((r.toNat:Nat):Int):=by omega
  have z:atI xs ((r.toNat:Nat):Int) = some xs[r.toNat]:=fG (List.getElem?_eq_getElem hr')
  rw [← er] at z
  exact ⟨l,xs,r,xs[r.toNat],rfl,rfl,b1.sqL hlt hL,z,post r.toNat _ H1 p1 q1 b1 t1 g1 (List.getElem?_eq_getElem hr')⟩
end
end My
end
section
namespace My
open PySem L2 PyProof.Rows
inductive Tr where
  | num (n:Int)
  | arg (k:Int)
  | two (o:Str) (a b:Tr)
  | pick (a b c:Tr)
def toD:Tr→D
  | .num n=>.tup [.str "num",.int n]
  | .arg k=>.tup [.str "arg",.int k]
  | .two o a b=>.tup [.str o,toD a,toD b]
  | .pick a b c=>.tup [.str "pick",toD a,toD b,toD c]
def okT:Tr→Prop
  | .num n=>0 ≤ n∧n ≤ 9999
  | .arg k=>0 ≤ k∧k ≤ 3
  | .two o a b=>(o = "add"∨o = "sub"∨o = "mul"∨o = "less")∧okT a∧okT b
  | .pick a b c=>okT a∧okT b∧okT c
def aR:Tr→Nat
  | .num _=>1
  | .arg _=>1
  | .two _ a b=>max (aR a) (aR b) + 1
  | .pick a b c=>max (aR a) (max (aR b) (aR c)) + 1
def aP:Tr→Nat
  | .num _=>1
  | .arg _=>1
  | .two _ a b=>aP a + aP b + 1
  | .pick a b c=>aP a + aP b + aP c + 1
def bW:Tr→List Tr
  | .num _=>[]
  | .arg _=>[]
  | .two _ a b=>[a,b]
  | .pick a b c=>[a,b,c]
def aM:Tr→List Tr
  | .num n=>[.num n]
  | .arg k=>[.arg k]
  | .two o a b=>.two o a b :: (aM a ++ aM b)
  | .pick a b c=>.pick a b c :: (aM a ++ aM b ++ aM c)
theorem bA:∀ t:Tr,(aM t).length = aP t
  | .num _=>rfl
  | .arg _=>rfl
  | .two _ a b=>by simp only [aM,aP,List.length_cons,List.length_append,bA a,bA b]
  | .pick a b c=>by simp only [aM,aP,List.length_cons,List.length_append,bA a,bA b,bA c]
theorem j6 (t:Tr):1 ≤ aR t:=by cases t <;> simp [aR]
theorem xh {o:Str} (h:o = "add"∨o = "sub"∨o = "mul"∨o = "less"):KTD.inKeys o TL = false∧KTD.inKeys o TB = true∧jr o TB = 2:=by
  rcases h with rfl | rfl | rfl | rfl <;> decide +kernel
theorem uU:KTD.inKeys ("pick":Str) TL = false∧KTD.inKeys ("pick":Str) TB = true∧jr ("pick":Str) TB = 3:=by decide +kernel
theorem xg:KTD.inKeys ("num":Str) TL = true∧KTD.inKeys ("num":Str) TB = false∧jr ("num":Str) TL = 9999:=by decide +kernel
theorem xf:KTD.inKeys ("arg":Str) TL = true∧KTD.inKeys ("arg":Str) TB = false∧jr ("arg":Str) TL = 3:=by decide +kernel
theorem md {k:Str} {r:List D} (h:KTD.inKeys k TL = true):cP (.tup (.str k :: r)) = (decide ((r.length:Int) + 1 = 2) && cu (r.getD 0 .non) 0 (jr k TL)):=by
  unfold cP
  dsimp only
  rw [if_pos h]
theorem lZ {k:Str} {r:List D} (h:KTD.inKeys k TL = false):cP (.tup (.str k :: r)) = (KTD.inKeys k TB && decide ((r.length:Int) + 1 = 1 + jr k TB)):=by
  unfold cP
  dsimp only
  rw [if_neg (by rw [h]; exact Bool.false_ne_true)]
theorem qy {k:Str} {r:List D} (h:KTD.inKeys k TB = true):bV (.tup (.str k :: r)) = r:=by
  unfold bV
  dsimp only
  rw [if_pos h]
theorem kg {k:Str} {r:List D} (h:KTD.inKeys k TB = false):bV (.tup (.str k :: r)) = []:=by
  unfold bV
  dsimp only
  rw [if_neg (by rw [h]; exact Bool.false_ne_true)]
theorem jF:∀ t:Tr,okT t→cP (toD t) = true∧bV (toD t) = (bW t).map toD
  | .num n,h=>by
    obtain ⟨h1,h2,h3⟩:=xg
    refine ⟨?_,kg h2⟩
    unfold toD
    rw [md h1,h3]
    show (decide ((1:Int) + 1 = 2) && (decide (0 ≤ n) && decide (n ≤ 9999))) = true
    simp [h.1,h.2]
  | .arg n,h=>by
    obtain ⟨h1,h2,h3⟩:=xf
    refine ⟨?_,kg h2⟩
    unfold toD
    rw [md h1,h3]
    show (decide ((1:Int) + 1 = 2) && (decide (0 ≤ n) && decide (n ≤ 3))) = true
    simp [h.1,h.2]
  | .two o a b,h=>by
    obtain ⟨h1,h2,h3⟩:=xh h.1
    refine ⟨?_,qy h2⟩
    unfold toD
    rw [lZ h1,h2,h3]
    rfl
  | .pick a b c,h=>by
    obtain ⟨h1,h2,h3⟩:=uU
    refine ⟨?_,qy h2⟩
    unfold toD
    rw [lZ h1,h2,h3]
    rfl
def i8:Nat→List (D × Int)→Int→Bool
  | 0,_,_=>false
  | _ + 1,[],_=>true
  | n + 1,(d,dp) :: st,p=>if (decide (40 < p + 1) || (decide (8 < dp) || !cP d)) = true then false else i8 n (((bV d).map fun x=>(x,dp + 1)).reverse ++ st) (p + 1)
def fe (d:D):Bool:=i8 50 [(d,1)] 0
theorem iR {n:Nat} {d:D} {dp:Int} {st:List (D × Int)} {p:Int} (h1:p + 1 ≤ 40) (h2:dp ≤ 8) (h3:cP d = true):i8 (n + 1) ((d,dp) :: st) p = i8 n (((bV d).map fun x=>(x,dp + 1)).reverse ++ st) (p + 1):=by
  show (if _ = true then false else _) = _
  rw [if_neg]
  simp [h3]
  omega
theorem fK:∀ (t:Tr),okT t→∀ (n:Nat) (dp:Int) (st:List (D × Int)) (p:Int),(aR t:Int) + dp ≤ 9→p + (aP t:Int) ≤ 40→i8 (n + aP t) ((toD t,dp) :: st) p = i8 n st (p + aP t)
  | .num m,h,n,dp,st,p,h1,h2=>by
    obtain ⟨e1,e2⟩:=jF (.num m) h
    simp only [aR,aP] at h1 h2 ⊢
    rw [iR (by omega) (by omega) e1,e2]
    rfl
  | .arg m,h,n,dp,st,p,h1,h2=>by
    obtain ⟨e1,e2⟩:=jF (.arg m) h
    simp only [aR,aP] at h1 h2 ⊢
    rw [iR (by omega) (by omega) e1,e2]
    rfl
  | .two o a b,h,n,dp,st,p,h1,h2=>by
    obtain ⟨e1,e2⟩:=jF (.two o a b) h
    have d1:=j6 a
    simp only [aR,aP] at h1 h2 ⊢
    have g1:(aR a:Int) + (dp + 1) ≤ 9:=by omega
    have g2:(aR b:Int) + (dp + 1) ≤ 9:=by omega
    rw [show n + (aP a + aP b + 1) = (n + aP a + aP b) + 1 by omega,iR (by omega) (by omega) e1,e2]
    show i8 (n + aP a + aP b) ((toD b,dp + 1) :: (toD a,dp + 1) :: st) (p + 1) = _
    rw [fK b h.2.2 (n + aP a) (dp + 1) ((toD a,dp + 1) :: st) (p + 1) g2 (by omega),fK a h.2.1 n (dp + 1) st _ g1 (by omega)]
    congr 1
    omega
  | .pick a b c,h,n,dp,st,p,h1,h2=>by
    obtain ⟨e1,e2⟩:=jF (.pick a b c) h
    have d1:=j6 a
    simp only [aR,aP] at h1 h2 ⊢
    have g1:(aR a:Int) + (dp + 1) ≤ 9:=by omega
    have g2:(aR b:Int) + (dp + 1) ≤ 9:=by omega
    have g3:(aR c:Int) + (dp + 1) ≤ 9:=by omega
    rw [show n + (aP a + aP b + aP c + 1) = (n + aP a + aP b + aP c) + 1 by omega,iR (by omega) (by omega) e1,e2]
    show i8 (n + aP a + aP b + aP c) ((toD c,dp + 1) :: (toD b,dp + 1) :: (toD a,dp + 1) :: st) (p + 1) = _
    rw [fK c h.2.2 (n + aP a + aP b) (dp + 1) _ (p + 1) g3 (by omega),fK b h.2.1 (n + aP a) (dp + 1) _ _ g2 (by omega),fK a h.1 n (dp + 1) st _ g1 (by omega)]
    congr 1
    omega
theorem jT {t:Tr} (h:okT t) (h1:aR t ≤ 8) (h2:aP t ≤ 40):fe (toD t) = true:=by
  have q:=fK t h (50 - aP t) 1 [] 0 (by omega) (by omega)
  rw [show 50 - aP t + aP t = 50 by omega] at q
  unfold fe
  rw [q]
  obtain ⟨m,e⟩:∃ m,50 - aP t = m + 1:=⟨50 - aP t - 1,by omega⟩
  rw [e]
  rfl
end My
end
section
namespace My
open PySem L2 PyProof.Rows
section
variable {P:Program} {w:World} {K:PySem.W.Frag} {mg:Str→Option Value} {base:Heap} {k:Nat}
def mu2 (σ:L2.St) (_:Hp):Nat:=match σ[2]? with
  | some (some (V.int p))=>(50 - p).toNat
  | _=>0
def sS (ds:List D) (d:D):Prop:=∃ x,ds = [x]∧d = .bl (fe x)
abbrev pr (x:D × Int):D:=.tup [x.1,.int x.2]
theorem nk {K:PySem.W.Frag} {H:Hp} {b:D}:∀ {as:List D} {vs:List V},Dats K H (as ++ [b]) vs→∃ us v,vs = us ++ [v]∧Dats K H as us∧Dat K H b v
  | [],vs,h=>by
    obtain ⟨v,e,q⟩:=fZ h
    exact ⟨[],v,e,Dats.nil,q⟩
  | a :: as,vs,h=>by
    obtain ⟨u,r,e,h1,h2⟩:=h.consE
    obtain ⟨us,v,e2,h3,h4⟩:=nk h2
    subst e2 e
    exact ⟨u :: us,v,rfl,Dats.cons h1 h3,h4⟩
theorem zV (k:Str):jr k TB ≤ 3:=by
  unfold jr
  split
  · rename_i i e
    simp only [TB,KTD.datumAt] at e
    repeat' split at e
    all_goals first
      | (cases e; decide)
      | cases e
  · decide
theorem lV {d:D} (h:cP d = true):(bV d).length ≤ 3:=by
  unfold cP at h
  split at h
  · rename_i k r
    unfold bV
    dsimp only
    split
    · rename_i hb
      split at h
      · rw [Bool.and_eq_true] at h
        have z:=of_decide_eq_true h.1
        omega
      · rw [Bool.and_eq_true] at h
        have z:=of_decide_eq_true h.2
        have z2:=zV k
        omega
    · exact Nat.zero_le _
  · cases h
theorem me {d:D} (h:cP d = true):∃ k r,d = .tup (.str k :: r):=by
  unfold cP at h
  split at h
  · exact ⟨_,_,rfl⟩
  · cases h
theorem sk (T:Txt P w K mg) (Iz:FnOk P w K mg base CX0 k T.F4 T.F8 ["thing"] (spD K vX)) (DB:FnOk P w K mg base CX0 k T.Dh T.Di ["tree"] (spD K fF)):FnOk P w K mg base CX0 (k + 1) T.GR T.GV ["thing"] (spD K sS):=by
  refine T.HU.ok sc_is_tree (fun vs H Q E h=>?_) (fun cdv A outer s H vs Q E hr h=>?_)
  · obtain ⟨ds,d,hd,⟨x,rfl,rfl⟩,_⟩:=h; exact hd.length.symm
  have nd:=sc_is_tree.nd
  obtain ⟨ds,d,hd,⟨x,rfl,rfl⟩,post⟩:=h
  obtain ⟨v0,rfl,h0⟩:=fZ hd
  refine ⟨_,(ao (bz (i:=1) nd rfl (Or.inl rfl) (bC (ah (aX (ah (pv 0) (ah ag af))) af)))
  (ao (bz (i:=2) nd rfl (Or.inl rfl) ag)
  (ao (qT PassesOwn.never (bq (pv 1) (fun _=>rfl)) (ao (hU (Bd PySem.F.plainAttrs_list PySem.F.slot_list_pop PySem.F.type_list_pop A8 (pv 1)) (gD rfl (bx (aV (i:=3) nd rfl (Or.inl rfl)) (bx (aV (i:=4) nd rfl (Or.inr rfl)) d8))))
  (ao (xD (i:=2) nd rfl (Or.inl rfl) ag rT)
  (ao (bj (PW.pt (cQ (aF nG (pv 2) (bg (v:=.int 40) rfl T.EH ⟨_,rfl⟩) (aL _)) (cQ (aF nG (pv 4) (bg (v:=.int 8) rfl T.E4 ⟨_,rfl⟩) (aL _)) (de (bR (bq (az Iz hr rfl T.IF T.GW.kp (m7 T) .nil aY (ah (pv 3) af)) (fun _=>rfl))))))) (au (aD cG)) aK)
  (au (bF (cZ PySem.F.plainAttrs_list PySem.F.slot_list_extend PySem.F.type_list_extend fL (pv 1) (ah (dO (own:=["within"]) (fr:=[4]) (N':=["within","deep"]) (iN (az DB hr rfl T.EB T.DF.kp (eK T) .nil aY (ah (pv 3) af))) rfl (by show cj ["thing","waiting","parts","part","deep"] (fun x=>(aw gO).names.lookup x) _ _ _ _ = true; decide +kernel) rfl (fun _ _ _ _ _=>(aV (i:=0) (by show List.Nodup [("within":Str),("deep":Str)]; decide +kernel) rfl (Or.inl rfl))) (fun _ _ _ _ _=>bX) (fun _ _ _ _ _=>(aX (ah (pv 0) (ah (bE dF (pv 1) ag) af))))) af))))))))
  (au (aD cG))))),?_⟩
  refine dt (mC (K:=K) (ae (ba (ae (aa h0) (ae aj ax))) ax) fun wl vs1 H1 s1 hw q1=>?_)
  have hw0:H wl = none:=s1.free hw
  have s1':Same H (upd H1 wl (.lst vs1)):=s1.trans (aC hw _)
  refine dt (x9 (cO (rA (fun σ G=>∃ (st:List (D × Int)) (p:Int) (n:Nat) (xs:List V) (z3 z4:Option V),σ = [some v0,some (.ref wl),some (.int p),z3,z4]∧G wl = some (.lst xs)∧Dats K G (st.reverse.map pr) xs∧Same H G∧i8 n st p = fe x∧0 ≤ p∧p ≤ 40∧(n:Int) = 50 - p∧(xs.length:Int) ≤ 1 + 3 * p)
    mu2 ?_ ?_ ?_)))
  · refine ⟨[(x,1)],0,50,vs1,none,none,rfl,aq,(aC hw _).dats q1,s1',rfl,by decide,by decide,by decide,?_⟩
    rw [← q1.length]
    simp
  · rintro σ G ⟨st,p,n,xs,z3,z4,rfl,hG,hd,sG,lp,p0,p1,en,lx⟩
    refine ⟨_,rfl,!xs.isEmpty,.inl ⟨xs,SqL.of hG,rfl⟩,?_⟩
    cases st with
    | nil =>
      have ex:=hd.nilE
      subst ex
      rw [if_neg (by simp)]
      obtain ⟨m,rfl⟩:∃ m,n = m + 1:=⟨n - 1,by omega⟩
      have lp':fe x = true:=lp.symm
      refine post _ _ sG ?_
      rw [lp']
      exact Dat.blI _
    | cons e st =>
      obtain ⟨y,dp⟩:=e
      rw [List.reverse_cons,List.map_append] at hd
      obtain ⟨us,v,ex,hu,hv⟩:=nk hd
      subst ex
      obtain ⟨a,ws,ev,hq,hws⟩:=hv.tupE
      obtain ⟨vy,vd,ew,hy,hdp⟩:=fO hws
      have edp:=hdp.intE
      subst edp ew ev
      rw [if_pos (by simp)]
      refine ⟨_,rfl,.inl ⟨rfl,_,SqL.of hG⟩,wl,us ++ [.ref a],.ref a,rfl,rfl,hG,(by simp),?_⟩
      rw [List.dropLast_concat]
      have bt:But wl G (upd G wl (.lst us)):=But.upd (Same.refl G).but
      have g2:dv K G (upd G wl (.lst us)):=bt.grow hG aq
      refine ⟨a,[vy,.int dp],rfl,bt.sqT hG hq,rfl,vy,_,rfl,.int dp,_,rfl,rfl,?_⟩
      have s2:Same H (upd G wl (.lst us)):=fun b o hb=>bt b o (av hb hw0) (sG b o hb)
      have hy2:=Dat.mono g2 _ hy
      have hu2:=Dats.mono g2 _ hu
      refine ⟨_,rfl,p,1,rfl,rfl,?_⟩
      dsimp only
      refine aO (K:=K) (b:=decide (40 < p + 1) || (decide (8 < dp) || !cP y)) ?_ (fun c H3 s3=>?_) (fun c H3 s3=>?_)
      · exact bT (ay (d5 (aa (K:=K) (Dat.intI (p + 1))) aj)) fun _=>bT (ay (d5 (aa (K:=K) (Dat.intI dp)) aj)) fun _=>bu (aW (bh (ae (aa hy2) ax) ⟨y,rfl,rfl⟩))
      · refine post _ _ (s2.trans s3) ?_
        obtain ⟨m,rfl⟩:∃ m,n = m + 1:=⟨n - 1,by omega⟩
        have lp':fe x = false:=by
          rw [← lp]
          show (if (decide (40 < p + 1) || (decide (8 < dp) || !cP y)) = true then false else _) = false
          rw [if_pos c]
        rw [lp']
        exact Dat.blI _
      · obtain ⟨m,rfl⟩:∃ m,n = m + 1:=⟨n - 1,by omega⟩
        have lp':i8 m (((bV y).map fun x=>(x,dp + 1)).reverse ++ st) (p + 1) = fe x:=by
          rw [← lp]
          show _ = (if (decide (40 < p + 1) || (decide (8 < dp) || !cP y)) = true then false else _)
          rw [if_neg (by rw [c]; exact Bool.false_ne_true)]
        simp only [Bool.or_eq_false_iff,decide_eq_false_iff_not,Bool.not_eq_false'] at c
        obtain ⟨c1,c2,c3⟩:=c
        obtain ⟨kd,r,ey⟩:=me c3
        have few:=lV c3
        have hw3:=s3 _ _ (show upd G wl (.lst us) wl = some (.lst us) from aq)
        refine ⟨_,rfl,.inl ⟨rfl,_,SqL.of hw3⟩,?_⟩
        refine nK (K:=K) (cs:=bV y) (bh (R:=fF) (ae (aa (s3.dat hy2)) ax) ⟨kd,r,by rw [ey],by rw [ey]⟩) (by omega) ((bV y).map fun z=>pr (z,dp + 1)) (List.length_map _) rfl (fun H4 i z vz d s4 hz hi hvz=>?_) (fun l ys H5 hl s5 hl5 hd5=>?_)
        · rw [List.getElem?_map,hz] at hi
          cases hi
          exact ba (ae (aa hvz) (ae (eH (aa (Dat.intI dp)) aj) ax))
        · have hw5:=s5 _ _ hw3
          have ly:ys.length = (bV y).length:=by rw [← hd5.length,List.length_map]
          have lu:us.length = st.length:=by rw [← hu.length,List.length_map,List.length_reverse]
          rw [List.length_append,List.length_singleton] at lx
          have b5:But wl H5 (upd H5 wl (.lst (us ++ ys))):=But.upd (Same.refl H5).but
          have g5:dv K H5 (upd H5 wl (.lst (us ++ ys))):=b5.grow hw5 aq
          refine ⟨wl,l,us,ys,rfl,rfl,hw5,hl5,bU (by omega),?_⟩
          refine ⟨⟨_,p + 1,m,us ++ ys,_,_,rfl,aq,?_,?_,lp',by omega,by omega,by omega,?_⟩,?_⟩
          · rw [List.reverse_append,List.reverse_reverse,List.map_append,List.map_map]
            exact Dats.append (Dats.mono g5 _ ((s3.trans s5).dats hu2)) (Dats.mono g5 _ hd5)
          · exact fun b o hb=>b5 b o (av hb hw0) (s5 _ _ (s3 _ _ (s2 _ _ hb)))
          · rw [List.length_append]
            omega
          · show (50 - (p + 1)).toNat < (50 - p).toNat
            omega
  · intro σ G Q1 Q2 hQ hc
    obtain ⟨v,e,k',tr,q⟩:=hc
    exact ⟨v,e,k',tr,hQ _ _ q⟩
theorem oX (T:Txt P w K mg) (J1:FnOk P w K mg base CX0 k T.GR T.GV ["thing"] (spD K sS)):FnOk P w K mg base CX0 (k + 1) T.Es T.Ey ["tree"] (spD K fun ds d=>∃ x,ds = [x]∧fe x = true∧d = .non):=by
  refine T.E3.ok sc_need_tree (fun vs H Q E h=>?_) (fun cdv A outer s H vs Q E hr h=>?_)
  · obtain ⟨ds,d,hd,⟨x,rfl,_,rfl⟩,_⟩:=h; exact hd.length.symm
  have nd:=sc_need_tree.nd
  obtain ⟨ds,d,hd,⟨x,rfl,hx,rfl⟩,post⟩:=h
  obtain ⟨v0,rfl,h0⟩:=fZ hd
  refine ⟨_,(au (bj (bR (bq (az J1 hr rfl T.Js T.HU.kp (uo T) .nil aY (ah (pv 0) af)) (fun _=>rfl))) (au jL) aK)),?_⟩
  refine eU (b:=!fe x) (bu (aW (bh (ae (aa h0) ax) ⟨x,rfl,rfl⟩))) (fun c H1 s1=>?_) (fun c H1 s1=>?_)
  · rw [hx] at c
    cases c
  · exact post _ _ s1 Dat.nonI
end
end My
end
section
namespace My
open PySem L2 PyProof.Rows
section
variable {P:Program} {w:World} {K:PySem.W.Frag} {mg:Str→Option Value} {base:Heap} {k:Nat}
def jV (n:Nat) (ds es:List D):Prop:=∃ t,ds = [toD t]∧okT t∧aR t ≤ n∧aP t ≤ 200∧es = (aM t).map toD
theorem eG (t:Tr):aM t = t :: (bW t).flatMap aM:=by
  cases t <;> simp [aM,bW]
theorem yX {t x:Tr} (h:okT t) (hx:x ∈ bW t):okT x∧aR x + 1 ≤ aR t∧aP x + 1 ≤ aP t:=by
  cases t with
  | num n=>simp [bW] at hx
  | arg n=>simp [bW] at hx
  | two o a b =>
    simp only [bW,List.mem_cons,List.not_mem_nil,or_false] at hx
    rcases hx with rfl | rfl
    · exact ⟨h.2.1,by simp only [aR]; omega,by simp only [aP]; omega⟩
    · exact ⟨h.2.2,by simp only [aR]; omega,by simp only [aP]; omega⟩
  | pick a b c =>
    simp only [bW,List.mem_cons,List.not_mem_nil,or_false] at hx
    rcases hx with rfl | rfl | rfl
    · exact ⟨h.1,by simp only [aR]; omega,by simp only [aP]; omega⟩
    · exact ⟨h.2.1,by simp only [aR]; omega,by simp only [aP]; omega⟩
    · exact ⟨h.2.2,by simp only [aR]; omega,by simp only [aP]; omega⟩
def rl (t:Tr) (i:Nat):List Tr:=t :: ((bW t).take i).flatMap aM
theorem vH {t x:Tr} {i:Nat} (h:(bW t)[i]? = some x):rl t (i + 1) = rl t i ++ aM x:=by
  unfold rl
  rw [List.take_add_one,h]
  simp
theorem yq (t:Tr):rl t (bW t).length = aM t:=by
  unfold rl
  rw [List.take_length,eG]
theorem zU (t:Tr) (i:Nat):(rl t i).length ≤ aP t:=by
  rw [← bA t,eG]
  unfold rl
  rw [List.length_cons,List.length_cons]
  have h:((bW t).take i).flatMap aM ++ ((bW t).drop i).flatMap aM = (bW t).flatMap aM:=by
    rw [← List.flatMap_append,List.take_append_drop]
  have h2:=congrArg List.length h
  rw [List.length_append] at h2
  omega
theorem zT (t:Tr):∃ kd r,toD t = .tup (.str kd :: r):=by
  cases t <;> exact ⟨_,_,rfl⟩
theorem uX (T:Txt P w K mg) {n:Nat} (DB:FnOk P w K mg base CX0 k T.Dh T.Di ["tree"] (spD K fF)) (IU:FnOk P w K mg base CX0 k T.Gm T.Gx ["tree"] (iz K (jV n))):FnOk P w K mg base CX0 (k + 1) T.Gm T.Gx ["tree"] (iz K (jV (n + 1))):=by
  refine T.HG.ok sc_walked (fun vs H Q E h=>?_) (fun cdv A outer s H vs Q E hr h=>?_)
  · obtain ⟨ds,es,hd,⟨t,rfl,_⟩,_⟩:=h; exact hd.length.symm
  have nd:=sc_walked.nd
  obtain ⟨ds,es,hd,⟨t,rfl,ht,hn,hz,rfl⟩,post⟩:=h
  obtain ⟨v0,rfl,h0⟩:=fZ hd
  refine ⟨_,(ao (bz (i:=1) nd rfl (Or.inl rfl) (bC (ah (pv 0) af)))
  (ao (hV PassesOwn.never rfl (iN (az DB hr rfl T.EB T.DF.kp (eK T) .nil aY (ah (pv 0) af))) (aV (i:=2) nd rfl (Or.inl rfl)) (au (bF (cZ PySem.F.plainAttrs_list PySem.F.slot_list_extend PySem.F.type_list_extend fL (pv 1) (ah (az IU hr rfl T.Ji T.HG.kp (pP T) .nil aY (ah (pv 2) af)) af)))))
  (au (aD (pv 1))))),?_⟩
  refine dt (mC (K:=K) (ae (aa h0) ax) fun wl vs1 H1 s1 hw q1=>?_)
  have hw0:H wl = none:=s1.free hw
  have s1':Same H (upd H1 wl (.lst vs1)):=s1.trans (aC hw _)
  obtain ⟨kd,r,ek⟩:=zT t
  refine cO (RE.use (bh (R:=fF) (d:=.tup (bV (toD t))) (ae (aa (K:=K) (k:=0) (s1'.dat h0)) ax) ⟨kd,r,by rw [ek],by rw [ek]⟩) fun v4 H4 s4 q4=>?_)
  rw [(jF t ht).2] at q4
  obtain ⟨a,vs,ea,hq,hds⟩:=q4.tupE
  subst ea
  have hl:=hds.length
  rw [List.length_map] at hl
  refine ⟨a,rfl,⟨vs,hq⟩,oz (xs:=vs) (fun i σ G=>∃ (z:Option V) (ys:List V),σ = [some v0,some (.ref wl),z]∧Same H G∧SqT K G a vs∧Dats K G ((bW t).map toD) vs∧G wl = some (.lst ys)∧Dats K G ((rl t i).map toD) ys) ?_ (fun i σ G _ ⟨z,ys,_,_,p,_⟩=>p) ?_ ?_⟩
  · exact ⟨none,vs1,rfl,s1'.trans s4,hq,hds,s4 _ _ aq,(show Dats K H4 ([t].map toD) vs1 from ((aC hw _).trans s4).dats q1)⟩
  · rintro i vx σ G hi ⟨z,ys,rfl,sG,hqG,hdG,hwG,hyG⟩
    obtain ⟨dx,ex,hx⟩:=hdG.getV hi
    rw [List.getElem?_map] at ex
    cases hk:(bW t)[i]? with
    | none=>rw [hk] at ex; cases ex
    | some x =>
      rw [hk] at ex
      cases ex
      obtain ⟨k1,k2,k3⟩:=yX ht (List.mem_of_getElem? hk)
      refine ⟨_,rfl,.inl ⟨rfl,_,SqL.of hwG⟩,_,rfl,[toD x],_,(Dats.cons hx Dats.nil:Dats K G [toD x] [vx]),⟨x,rfl,k1,by omega,by omega,rfl⟩,fun r us H5 s5 hr5 _ hd5=>?_⟩
      have hw5:=s5 _ _ hwG
      have b6:But wl H5 (upd H5 wl (.lst (ys ++ us))):=But.upd (Same.refl H5).but
      have g6:dv K H5 (upd H5 wl (.lst (ys ++ us))):=b6.grow hw5 aq
      have ly:ys.length ≤ aP t:=by rw [← hyG.length,List.length_map]; exact zU t i
      have lu:us.length = aP x:=by rw [← hd5.length,List.length_map,bA]
      refine ⟨wl,r,ys,us,rfl,rfl,hw5,hr5,bU (by omega),some vx,ys ++ us,rfl,fun b o hb=>b6 b o (av hb hw0) (s5 _ _ (sG _ _ hb)),g6.tup _ _ (s5.sqT hqG),Dats.mono g6 _ (s5.dats hdG),aq,?_⟩
      rw [vH hk,List.map_append]
      exact Dats.append (Dats.mono g6 _ (s5.dats hyG)) (Dats.mono g6 _ hd5)
  · rintro σ G ⟨z,ys,rfl,sG,hqG,hdG,hwG,hyG⟩
    refine ⟨_,rfl,post wl ys G sG hwG hw0 ?_⟩
    rw [← hl,yq] at hyG
    exact hyG
end
end My
end
section
namespace My
open PySem L2 PyProof.Rows
section
variable {P:Program} {w:World} {K:PySem.W.Frag} {mg:Str→Option Value} {base:Heap} {k:Nat}
def mI (K:PySem.W.Frag) (n:Nat):Sp:=fun vs H Q _=>∃ (a t:Addr) (ns:List Int) (room p q c:Int),vs = [.ref a,.ref t,.int room]∧Scr K H a ns∧H t = some (.lst [.int p,.int q,.int c])∧0 ≤ p∧0 ≤ c∧c ≤ 60∧room ≤ n∧1 ≤ n ∧
  ∀ (v:V) (H':Hp) (X:Tr) (p' q' c':Int),But t H H'→H' t = some (.lst [.int p',.int q',.int c'])→0 ≤ p'→0 ≤ c'→c' ≤ c→okT X→((aR X:Int) = 1∨(aR X:Int) ≤ room)→(aP X:Int) ≤ 1 + 3 * (c - c')→Dat K H' (toD X) v→Q v H'
def rh (Ts:List Tr):Nat:=(Ts.map aP).sum
theorem vD (Ts:List Tr) (x:Tr):rh (Ts ++ [x]) = rh Ts + aP x:=by simp [rh]
def Ad:Tr→Prop
  | .num n=>0 ≤ n∧n ≤ 9999
  | .arg k=>0 ≤ k∧k ≤ 3
  | _=>False
theorem yY {x:Tr} (h:Ad x):okT x∧aR x = 1∧aP x = 1:=by
  cases x with
  | num n=>exact ⟨h,rfl,rfl⟩
  | arg n=>exact ⟨h,rfl,rfl⟩
  | two o a b=>exact h.elim
  | pick a b c=>exact h.elim
theorem yj {nm:Str} {Ts:List Tr} {room:Int} (hr:2 ≤ room) (ok:∀ x ∈ Ts,okT x∧((aR x:Int) = 1∨(aR x:Int) ≤ room - 1)) (h:(nm = "pick"∧Ts.length = 3)∨((nm = "add"∨nm = "sub"∨nm = "mul"∨nm = "less")∧Ts.length = 2)) :
    ∃ X:Tr,toD X = .tup (.str nm :: Ts.map toD)∧okT X∧(aR X:Int) ≤ room∧aP X = 1 + rh Ts:=by
  rcases h with ⟨rfl,hl⟩ | ⟨hn,hl⟩
  · match Ts,hl with
    | [a,b,c],_ =>
      have h1:=ok a (by simp)
      have h2:=ok b (by simp)
      have h3:=ok c (by simp)
      refine ⟨.pick a b c,rfl,⟨h1.1,h2.1,h3.1⟩,?_,?_⟩
      · simp only [aR]; omega
      · simp [aP,rh]; omega
  · match Ts,hl with
    | [a,b],_ =>
      have h1:=ok a (by simp)
      have h2:=ok b (by simp)
      refine ⟨.two nm a b,rfl,⟨hn,h1.1,h2.1⟩,?_,?_⟩
      · simp only [aR]; omega
      · simp [aP,rh]; omega
theorem oR (T:Txt P w K mg) {n:Nat} (Ds:FnOk P w K mg base CX0 k T.D0 T.D2 ["_law_script","_law_town","_law_many"] (mH K)) (IJ:FnOk P w K mg base CX0 k T.FB T.FH ["_law_script","_law_town","_law_some"] (yb K)) (Hx:FnOk P w K mg base CX0 k T.Eo T.Eu ["_law_script","_law_town","_law_room"] (mI K n)):FnOk P w K mg base CX0 (k + 1) T.Eo T.Eu ["_law_script","_law_town","_law_room"] (mI K (n + 1)):=by
  refine T.FO.ok sc__law_tree (fun vs H Q E h=>?_) (fun cdv A outer s H vs Q E hr h=>?_)
  · obtain ⟨a,t,ns,room,p,q,c,rfl,_⟩:=h; rfl
  have nd:=sc__law_tree.nd
  obtain ⟨a,t,ns,room,p,q,c,rfl,hS,hT,hp,hc,hc2,hroom,_,post⟩:=h
  refine ⟨_,(ao (bz (i:=3) nd rfl (Or.inl rfl) (aX (ah aJ (ah (az Ds hr rfl T.D4 T.Dt.kp (dE T) .nil aY (ah (pv 0) (ah (pv 1) (ah ag af)))) af))))
  (ao (bj (aF cg (az Ds hr rfl T.D4 T.Dt.kp (dE T) .nil aY (ah (pv 0) (ah (pv 1) (ah ag af)))) ag (aL _)) (au (bz (i:=3) nd rfl (Or.inl rfl) (aX (ah aJ (ah (az IJ hr rfl T.HK T.FN.kp (kE T) .nil aY (ah (pv 0) (ah (pv 1) (ah (bC (ah ag (ah ag (ah ag (ah ag (ah ag (ah ag (ah ag (ah ag af))))))))) af)))) af))))) aK)
  (ao (bj (PW.pt (cQ (aF nI (pv 2) ag (aL _)) (cQ (aF nI (aE bp (pv 1) ag (fun _ _=>rfl)) ag (aL _)) (de (aF cg (az Ds hr rfl T.D4 T.Dt.kp (dE T) .nil aY (ah (pv 0) (ah (pv 1) (ah ag af)))) ag (aL _)))))) (au (aD (pv 3))) aK)
  (ao (tU (pv 1) ag qt ag A2 jQ)
  (ao (bz (i:=4) nd rfl (Or.inl rfl) (az IJ hr rfl T.HK T.FN.kp (kE T) .nil aY (ah (pv 0) (ah (pv 1) (ah (bC (ah aJ (ah aJ (ah aJ (ah aJ (ah aJ (ah aJ af))))))) af)))))
  (ao (bz (i:=5) nd rfl (Or.inl rfl) (gK (aF cg (pv 4) aJ (aL _)) ag ag))
  (au (aD (bE zo (aX (ah (pv 4) af)) (dN dC rfl T.Ei cV (ah (dO (own:=["_law_k"]) (fr:=[0,1,2]) (N':=["_law_k","_law_script","_law_town","_law_room"]) (uZ rfl T.JC (ah (pv 5) af)) rfl (by show cj ["_law_script","_law_town","_law_room","_law_leaf","_law_name","_law_many"] (fun x=>(aw fu).names.lookup x) _ _ _ _ = true; decide +kernel) rfl (fun _ _ _ _ _=>(aV (i:=0) (by show List.Nodup [("_law_k":Str),("_law_script":Str),("_law_town":Str),("_law_room":Str)]; decide +kernel) rfl (Or.inl rfl))) (fun _ _ _ _ _=>bX) (fun _ _ _ _ _=>(az Hx hr rfl T.HL T.FO.kp (kF T) .nil aY (ah (pv 1) (ah (pv 2) (ah (bE xo (pv 3) ag) af)))))) af))))))))))),?_⟩
  refine dt ⟨_,rfl,_,rfl,a,t,ns,4,p,q,[.int c],rfl,hS,hT,hp,by decide,by decide,fun r1 H1 p1 q1 b1 t1 g1 r1a r1b=>⟨bU (by simp),fun l1 hl1=>?_⟩⟩
  have ne1:l1 ≠ t:=fun z=>by rw [z,t1] at hl1; cases hl1
  have b2:=b1.trans (aC hl1 (.tup [.str "arg",.int r1])).but
  have t2:upd H1 l1 (.tup [.str "arg",.int r1]) t = some (.lst [.int p1,.int q1,.int c]):=by rw [aB (Ne.symm ne1)]; exact t1
  have d2:Dat K (upd H1 l1 (.tup [.str "arg",.int r1])) (toD (.arg r1)) (.ref l1):=Dat.tupI (SqT.of aq) (Dats.cons (Dat.strI _) (Dats.cons (Dat.intI _) Dats.nil))
  refine jO (fun σ G=>∃ (vL:V) (L:Tr) (p q:Int),σ = [some (.ref a),some (.ref t),some (.int room),some vL,none,none]∧But t H G∧G t = some (.lst [.int p,.int q,.int c])∧0 ≤ p∧Ad L∧Dat K G (toD L) vL) ?_ (fun hrest=>?_)
  case refine_2 =>
    refine ⟨_,rfl,_,rfl,a,t,ns,2,p1,q1,[.int c],rfl,hS.but b2 hT,t2,g1,by decide,by decide,fun r3 H3 p3 q3 b3 t3 g3 r3a r3b=>?_⟩
    refine ⟨rfl,_,rfl,?_⟩
    refine kR (fun cc=>?_) (fun cc=>?_)
    · refine ⟨_,rfl,_,rfl,bU (by decide),fun l hl=>?_⟩
      have nel:l ≠ t:=fun z=>by rw [z,t3] at hl; cases hl
      have b4:=(b2.trans b3).trans (aC hl (.lst [.int 0,.int 1,.int 2,.int 5,.int 99,.int 100,.int 1234,.int 9999])).but
      refine ⟨a,t,l,ns,_,p3,q3,[.int c],rfl,hS.but b4 hT,SqL.of aq,nel,by decide,by decide,(by rw [aB (Ne.symm nel)]; exact t3),g3,fun i x H5 p5 q5 b5 t5 g5 hx=>⟨bU (by simp),fun l6 hl6=>?_⟩⟩
      have ne6:l6 ≠ t:=fun z=>by rw [z,t5] at hl6; cases hl6
      obtain ⟨m,em,hm⟩:∃ m:Int,x = .int m∧0 ≤ m∧m ≤ 9999:=by
        have:=List.mem_of_getElem? hx
        simp only [List.mem_cons,List.not_mem_nil,or_false] at this
        rcases this with e | e | e | e | e | e | e | e <;> exact ⟨_,e,by decide,by decide⟩
      subst em
      exact hrest _ _ ⟨.ref l6,.num m,p5,q5,rfl,(b4.trans b5).trans (aC hl6 _).but,(by rw [aB (Ne.symm ne6)]; exact t5),g5,hm,Dat.tupI (SqT.of aq) (Dats.cons (Dat.strI _) (Dats.cons (Dat.intI _) Dats.nil))⟩
    · exact hrest _ _ ⟨.ref l1,.arg r1,p3,q3,rfl,b2.trans b3,t3,g3,⟨r1a,by omega⟩,Dat.mono (b3.grow t2 t3) _ d2⟩
  rintro σ G ⟨vL,L,p,q,rfl,bG,tG,hp,hL,dL⟩
  obtain ⟨okL,dpL,szL⟩:=yY hL
  have back:∀ (G':Hp) (p' q':Int),But t G G'→G' t = some (.lst [.int p',.int q',.int c])→0 ≤ p'→Q vL G':=fun G' p' q' b' t' g' =>
    post vL G' L p' q' c (bG.trans b') t' g' hc (Int.le_refl _) okL (.inl (by omega)) (by omega) (Dat.mono (b'.grow tG t') _ dL)
  refine cO ⟨_,rfl,room,2,rfl,rfl,_,rfl,?_⟩
  refine kR (fun c1=>?_) (fun c1=>?_)
  · exact ⟨_,rfl,back G p q (Same.refl G).but tG hp⟩
  have c1':¬ room < 2:=of_decide_eq_false (Bool.eq_false_iff.mpr c1)
  refine ⟨_,rfl,t,_,2,_,rfl,rfl,SqL.of tG,at2,c,1,rfl,rfl,_,rfl,?_⟩
  refine kR (fun c2=>?_) (fun c2=>?_)
  · exact ⟨_,rfl,back G p q (Same.refl G).but tG hp⟩
  have c2':¬ c < 1:=of_decide_eq_false (Bool.eq_false_iff.mpr c2)
  refine ⟨_,rfl,_,rfl,a,t,ns,4,p,q,[.int c],rfl,hS.but bG hT,tG,hp,by decide,by decide,fun r3 H3 p3 q3 b3 t3 g3 r3a r3b=>?_⟩
  refine ⟨rfl,_,rfl,?_⟩
  refine kR (fun c3=>?_) (fun c3=>?_)
  · exact ⟨_,rfl,back H3 p3 q3 b3 t3 g3⟩
  refine ⟨_,rfl,t,_,2,_,rfl,rfl,(by decide),SqL.of t3,rfl,c,1,rfl,rfl,t,_,2,2,rfl,rfl,t3,ix2,?_⟩
  have b4:But t H (upd H3 t (.lst [.int p3,.int q3,.int (c - 1)])):=But.upd (bG.trans b3)
  refine ⟨_,rfl,_,rfl,bU (by decide),fun l hl=>?_⟩
  have nel:l ≠ t:=fun z=>by rw [z,aq] at hl; cases hl
  have b5:=b4.trans (aC hl (.lst [.str "add",.str "add",.str "sub",.str "mul",.str "less",.str "pick"])).but
  refine ⟨a,t,l,ns,_,p3,q3,[.int (c - 1)],rfl,hS.but b5 hT,SqL.of aq,nel,by decide,by decide,(by rw [aB (Ne.symm nel)]; exact aq),g3,fun i x H5 p5 q5 b6 t5 g5 hx=>?_⟩
  have bH:=b5.trans b6
  obtain ⟨nm,en,hnm⟩:∃ nm:Str,x = .str nm∧(nm = "pick"∨(nm = "add"∨nm = "sub"∨nm = "mul"∨nm = "less")):=by
    have:=List.mem_of_getElem? hx
    simp only [List.mem_cons,List.not_mem_nil,or_false] at this
    rcases this with e | e | e | e | e | e
    · exact ⟨_,e,.inr (.inl rfl)⟩
    · exact ⟨_,e,.inr (.inl rfl)⟩
    · exact ⟨_,e,.inr (.inr (.inl rfl))⟩
    · exact ⟨_,e,.inr (.inr (.inr (.inl rfl)))⟩
    · exact ⟨_,e,.inr (.inr (.inr (.inr rfl)))⟩
    · exact ⟨_,e,.inl rfl⟩
  subst en
  obtain ⟨many,hmany,hif⟩:∃ many:Nat,((nm = "pick"∧many = 3)∨((nm = "add"∨nm = "sub"∨nm = "mul"∨nm = "less")∧many = 2))∧∀ (A B:Prop),(A→many = 3→False)→True:=by
    rcases hnm with h | h
    · exact ⟨3,.inl ⟨h,rfl⟩,fun _ _ _=>trivial⟩
    · exact ⟨2,.inr ⟨h,rfl⟩,fun _ _ _=>trivial⟩
  clear hif
  dsimp only
  refine jO (fun σ G=>σ = [some (.ref a),some (.ref t),some (.int room),some vL,some (.str nm),some (.int many)]∧G = H5) ?_ (fun hrest=>?_)
  case refine_2 =>
    refine ⟨_,rfl,rfl,_,rfl,?_⟩
    refine kR (fun cc=>?_) (fun cc=>?_)
    · have e:V.str nm = V.str "pick":=of_decide_eq_true cc
      injection e with e
      rcases hmany with ⟨_,rfl⟩ | ⟨h,_⟩
      · exact hrest _ _ ⟨rfl,rfl⟩
      · subst e
        exact absurd h (by decide +kernel)
    · have e:¬ V.str nm = V.str "pick":=of_decide_eq_false (Bool.eq_false_iff.mpr cc)
      rcases hmany with ⟨h,_⟩ | ⟨_,rfl⟩
      · exact absurd (by rw [h]) e
      · exact hrest _ _ ⟨rfl,rfl⟩
  rintro σ G ⟨rfl,rfl⟩
  have many_le:2 ≤ many∧many ≤ 3:=by rcases hmany with ⟨_,h⟩ | ⟨_,h⟩ <;> omega
  refine ⟨_,rfl,bU (by simp),fun e he=>?_⟩
  have nee:e ≠ t:=fun z=>by rw [z,t5] at he; cases he
  have t6:upd G e (.tup [.str nm]) t = some (.lst [.int p5,.int q5,.int (c - 1)]):=by rw [aB (Ne.symm nee)]; exact t5
  have b7:=bH.trans (aC he (.tup [.str nm])).but
  dsimp only
  refine gj ?_
  refine sC many (fun R hR=>⟨_,rfl,hR⟩) (by omega) rfl
    (fun l i G'=>∃ (Ts:List Tr) (ys:List V) (p' q' c':Int),But t (upd G e (.tup [.str nm])) G'∧G' t = some (.lst [.int p',.int q',.int c'])∧0 ≤ p'∧0 ≤ c'∧c' ≤ c - 1∧G' l = some (.lst ys)∧Ts.length = i∧(∀ x ∈ Ts,okT x∧((aR x:Int) = 1∨(aR x:Int) ≤ room - 1))∧(rh Ts:Int) ≤ i + 3 * (c - 1 - c')∧Dats K G' (Ts.map toD) ys) (fun l hl=>?_) (fun l i G' hl hi pn=>?_) (fun l G' hl pn=>?_)
  · have nl:l ≠ t:=fun z=>by rw [z,t6] at hl; cases hl
    exact ⟨[],[],p5,q5,c - 1,(aC hl _).but,(by rw [aB (Ne.symm nl)]; exact t6),g5,by omega,Int.le_refl _,aq,rfl,(fun x hx=>absurd hx (by simp)),by simp [rh],Dats.nil⟩
  · obtain ⟨Ts,ys,p',q',c',bt,tt,gp,gc,gc2,hl',lT,okTs,sm,dT⟩:=pn
    have nl:l ≠ t:=fun z=>by rw [z,t6] at hl; cases hl
    have ly:ys.length = i:=by rw [← dT.length,List.length_map,lT]
    refine ⟨_,rfl,_,rfl,_,rfl,room,1,rfl,rfl,a,t,ns,room - 1,p',q',c',rfl,hS.but (b7.trans bt) hT,tt,gp,gc,by omega,by omega,by omega,fun v G2 X p2 q2 c2 bb t2 g2 h2 h2' okX dpX szX dX=>?_⟩
    have hl2:=bb l _ nl hl'
    have g1:dv K G' G2:=bb.grow tt t2
    have g3:dv K G2 (upd G2 l (.lst (ys ++ [v]))):=But.grow (t:=l) (But.upd (Same.refl G2).but) hl2 aq
    refine ⟨ys,hl2,bQ (by omega),⟨_,rfl⟩,Ts ++ [X],ys ++ [v],p2,q2,c2,?_,?_,g2,h2,by omega,aq,by rw [List.length_append,lT]; rfl,?_,?_,?_⟩
    · intro b o hb hbo
      have nb:b ≠ l:=av hbo hl
      rw [aB nb]
      exact bb b o hb (bt b o hb hbo)
    · rw [aB (Ne.symm nl)]; exact t2
    · intro x hx
      rcases List.mem_append.mp hx with hx | hx
      · exact okTs x hx
      · rw [List.mem_singleton.mp hx]
        exact ⟨okX,dpX⟩
    · rw [vD]
      omega
    · rw [List.map_append]
      exact Dats.append (Dats.mono g3 _ (Dats.mono g1 _ dT)) (Dats.cons (Dat.mono g3 _ dX) Dats.nil)
  · obtain ⟨Ts,ys,p',q',c',bt,tt,gp,gc,gc2,hl',lT,okTs,sm,dT⟩:=pn
    have ly:ys.length = many:=by rw [← dT.length,List.length_map,lT]
    refine ⟨l,ys,rfl,.inl ⟨SqL.of hl',fun u hu=>?_⟩⟩
    have nu:u ≠ t:=fun z=>by rw [z,tt] at hu; cases hu
    have se:SqT K (upd G' u (.tup ys)) e [.str nm]:=(aC hu _).sqT (bt.sqT t6 (SqT.of aq))
    refine ⟨e,u,_,ys,rfl,rfl,se,SqT.of aq,(by simp),bU (by rw [List.length_singleton]; omega),fun z=>?_,fun _ x hx=>?_⟩
    · rw [z] at ly
      simp at ly
      omega
    · obtain ⟨X,eX,okX,dpX,szX⟩:=yj (nm:=nm) (Ts:=Ts) (room:=room) (by omega) okTs (hmany.elim (fun h=>.inl ⟨h.1,by omega⟩) (fun h=>.inr ⟨h.1,by omega⟩))
      have nx:x ≠ t:=fun z=>by rw [z,aB (Ne.symm nu),tt] at hx; cases hx
      have s8:=(aC hu (.tup ys)).trans (aC hx (.tup ([.str nm] ++ ys)))
      refine post _ _ X p' q' c' ((b7.trans bt).trans s8.but) (s8 _ _ tt) gp gc (by omega) okX (.inr dpX) (by omega) ?_
      rw [eX]
      exact Dat.tupI (SqT.of aq) (Dats.cons (Dat.strI _) (s8.dats dT))
end
end My
end
section
namespace My
open PySem L2 PyProof.Rows
section
variable {P:Program} {w:World} {K:PySem.W.Frag} {mg:Str→Option Value} {base:Heap} {k:Nat}
theorem gB {b:Bool} (h:(!b) = true):b = false:=by cases b with | true=>cases h | false=>rfl
theorem eF {b:Bool} (h:(!b) = false):b = true:=by cases b with | true=>rfl | false=>cases h
def sgn (c:Nat):Bool:=(!decide (([c]:List Nat) < ("a":Str).cps.toList)) && !decide (("z":Str).cps.toList < ([c]:List Nat))
def iL:D→Bool
  | .str x=>(decide (1 ≤ (x.length:Int)) && decide ((x.length:Int) ≤ 8)) && (x.cps.toList.map sgn).all id
  | _=>false
def Ag:D→Prop
  | .str x=>x.length ≤ sizeLine
  | _=>True
def vW (ds:List D) (d:D):Prop:=∃ x,ds = [x]∧Ag x∧d = .bl (iL x)
theorem rX {x:D} (h:∀ y,x ≠ .str y):ke x "str" = false:=by
  cases x with
  | str y=>exact absurd rfl (h y)
  | _=>rfl
theorem wX {x:D} (h:∀ y,x ≠ .str y):iL x = false:=by
  cases x with
  | str y=>exact absurd rfl (h y)
  | _=>rfl
theorem si (T:Txt P w K mg)  : FnOk P w K mg base CX0 (k + 1) T.GQ T.GU ["thing"] (spD K vW):=by
  refine T.HS.ok sc_is_name (fun vs H Q E h=>?_) (fun cdv A outer s H vs Q E hr h=>?_)
  · obtain ⟨ds,d,hd,⟨x,rfl,_⟩,_⟩:=h; exact hd.length.symm
  have nd:=sc_is_name.nd
  obtain ⟨ds,d,hd,⟨x,rfl,hx,rfl⟩,post⟩:=h
  obtain ⟨v0,rfl,h0⟩:=fZ hd
  refine ⟨_,(ao (bj (PW.pt (cQ (bR (bq (aA (dA wH) rfl T.C1 aQ (aS (pv 0) (aS (dM (v:=.ty "str") rfl T.J7 wc rfl) af))) (fun _=>rfl))) (de (bR (mx gJ gJ ag (aA oj rfl T.De bI (ah (pv 0) af)) (bg (v:=.int 8) rfl T.DY ⟨_,rfl⟩)))))) (au (aD cG)) aK)
  (au (aD (aA (gF rfl) rfl T.Jj j0 (ah (dO (own:=["sign"]) (fr:=[]) (N':=["sign"]) (Bi (pv 0)) rfl (by show cj ["thing"] (fun x=>(aw gM).names.lookup x) _ _ _ _ = true; decide +kernel) rfl (fun _ _ _ _ _=>(aV (i:=0) (by show List.Nodup [("sign":Str)]; decide +kernel) rfl (Or.inl rfl))) (fun _ _ _ _ _=>bX) (fun _ _ _ _ _=>(qR xm xm aJ (pv 0) aJ))) af))))),?_⟩
  by_cases hs:∃ y,x = .str y
  · obtain ⟨y,rfl⟩:=hs
    have hx:y.length ≤ sizeLine:=hx
    refine aO (K:=K) (b:=!(decide (1 ≤ (y.length:Int)) && decide ((y.length:Int) ≤ 8))) ?_ (fun c H1 s1=>?_) (fun c H1 s1=>?_)
    · exact RT.as (bT (bu (aW (bM (aa h0)))) fun _=>bu (ay (jM (p:=fun i j=>decide (i ≤ j)) (r:=fun i j=>decide (i ≤ j)) aj (zF (aa h0) hx) fun _=>aj))) rfl
    · refine aZ (K:=K) (d:=.bl (iL (.str y))) ?_ fun v H' s q=>post v H' (s1.trans s) q
      have e:iL (.str y) = false:=by
        show (_ && _) = false
        have c':=gB c
        rw [c',Bool.false_and]
      rw [e]
      exact dj
    · have c':=eF c
      have hy:y.cps.size ≤ 8:=by
        rw [Bool.and_eq_true] at c'
        have:=of_decide_eq_true c'.2
        have e:y.length = y.cps.size:=rfl
        omega
      refine aZ (K:=K) (d:=.bl (iL (.str y))) ?_ fun v H' s q=>post v H' (s1.trans s) q
      have e:iL (.str y) = (y.cps.toList.map sgn).all id:=by
        show (_ && _) = _
        rw [c',Bool.true_and]
      rw [e]
      refine iT (bs:=y.cps.toList.map sgn) (Bq (aa (s1.dat h0)) (by omega) _ (by simp) rfl (fun H2 i c d s2 hc hd2=>?_))
      rw [List.getElem?_map,List.getElem?_map] at hd2
      have hc':y.cps.toList[i]? = some c:=by simpa using hc
      rw [hc'] at hd2
      cases hd2
      refine RE.as (va (p:=fun i j=>!decide (j.cps.toList < i.cps.toList)) (q':=fun i j=>!decide (j.cps.toList < i.cps.toList)) aG (aa (Dat.strI _)) fun _=>aG) rfl
  · have hs':∀ y,x ≠ .str y:=fun y e=>hs ⟨y,e⟩
    refine aO (K:=K) (b:=true) ?_ (fun c H1 s1=>?_) (fun c=>nomatch c)
    · exact RT.as (bT (b:=true) (c:=true) (RT.as (bu (aW (bM (aa h0)))) (by rw [rX hs']; rfl)) fun c=>nomatch c) rfl
    · refine aZ (K:=K) (d:=.bl (iL x)) ?_ fun v H' s q=>post v H' (s1.trans s) q
      rw [wX hs']
      exact dj
theorem AH:∀ p ∈ TM,∃ i,p.2 = .flat (.int i):=by
  intro p hp
  simp only [TM,List.mem_cons,List.not_mem_nil,or_false] at hp
  rcases hp with rfl | rfl | rfl <;> exact ⟨_,rfl⟩
def dU:D→Bool
  | .tup (.str k :: r)=>decide ((r.length:Int) + 1 = mJ k TM 0) && (cu (r.getD 0 .non) 0 1 && (!decide (k = "gap") || cu (r.getD 1 .non) 0 9999))
  | _=>false
theorem iH (k:Str) (r:List D):dU (.tup (.str k :: r)) = (decide ((r.length:Int) + 1 = mJ k TM 0) && (cu (r.getD 0 .non) 0 1 && (!decide (k = "gap") || cu (r.getD 1 .non) 0 9999))):=rfl
def zX (ds:List D) (d:D):Prop:=∃ x,ds = [x]∧d = .bl (dU x)
theorem qB (k:Str):mJ k TM 0 = 0∨mJ k TM 0 = 2∨(k = "gap"∧mJ k TM 0 = 3):=by
  unfold mJ
  by_cases h1:k = "hole"
  · subst h1; exact .inr (.inl rfl)
  by_cases h2:k = "gap"
  · subst h2; exact .inr (.inr ⟨rfl,rfl⟩)
  by_cases h3:k = "slot"
  · subst h3; exact .inr (.inl rfl)
  have e:KTD.datumAt k TM = none:=by simp [TM,KTD.datumAt,h1,h2,h3]
  rw [e]
  exact .inl rfl
theorem BG {x:D} (h:cC x = false):dU x = false:=by
  unfold cC at h
  unfold dU
  split at h
  · cases h
  · rename_i hn
    first
      | rfl
      | (split
         · rename_i k r; exact absurd rfl (hn k r)
         · rfl)
theorem sf (T:Txt P w K mg) (Ej:FnOk P w K mg base CX0 k T.D1 T.D3 ["thing"] (spD K gS)) (DQ:FnOk P w K mg base CX0 k T.D6 T.D8 ["thing","low","high"] (spD K fw)):FnOk P w K mg base CX0 (k + 1) T.GP T.GT ["thing"] (spD K zX):=by
  refine T.HR.ok sc_is_mark (fun vs H Q E h=>?_) (fun cdv A outer s H vs Q E hr h=>?_)
  · obtain ⟨ds,d,hd,⟨x,rfl,rfl⟩,_⟩:=h; exact hd.length.symm
  have nd:=sc_is_mark.nd
  obtain ⟨ds,d,hd,⟨x,rfl,rfl⟩,post⟩:=h
  obtain ⟨v0,rfl,h0⟩:=fZ hd
  refine ⟨_,(ao (bj (PW.pt (cQ (bR (bq (az Ej hr rfl T.FQ T.Ez.kp (fY T) .nil aY (ah (pv 0) af)) (fun _=>rfl))) (de (aF gh (aA aH rfl T.De bI (ah (pv 0) af)) (uY (bg (v:=.ref T.DC) rfl T.Dj rfl) (aE aI (pv 0) ag (fun _ _=>rfl)) ag ⟨rfl,rfl,rfl,rfl⟩) (aL _))))) (au (aD cG)) aK)
  (ao (bj (bR (bq (az DQ hr rfl T.E2 T.Ea.kp (eZ T) .nil aY (ah (aE aI (pv 0) ag (fun _ _=>rfl)) (ah ag (ah ag af)))) (fun _=>rfl))) (au (aD cG)) aK)
  (au (aD (xu (bZ gh (aE aI (pv 0) ag (fun _ _=>rfl)) aJ (aL _)) (fD (az DQ hr rfl T.E2 T.Ea.kp (eZ T) .nil aY (ah (aE aI (pv 0) ag (fun _ _=>rfl)) (ah ag (ah (bg (v:=.int 9999) rfl T.Fq ⟨_,rfl⟩) af)))))))))),?_⟩
  cases ht:cC x with
  | false =>
    refine aO (K:=K) (b:=true) ?_ (fun c H1 s1=>?_) (fun c=>nomatch c)
    · exact RT.as (bT (b:=true) (c:=true) (RT.as (bu (aW (bh (ae (aa h0) ax) ⟨x,rfl,rfl⟩))) (by rw [ht]; rfl)) fun c=>nomatch c) rfl
    · refine aZ (K:=K) (d:=.bl (dU x)) ?_ fun v H' s q=>post v H' (s1.trans s) q
      rw [BG ht]
      exact dj
  | true =>
    have ht':=ht
    unfold cC at ht'
    split at ht'
    · rename_i kd r
      have el:((((D.str kd) :: r).length:Nat):Int) = (r.length:Int) + 1:=by rw [List.length_cons]; omega
      refine aO (K:=K) (b:=!decide ((r.length:Int) + 1 = mJ kd TM 0)) ?_ (fun c H1 s1=>?_) (fun c H1 s1=>?_)
      · have b1:=eO (K:=K) (cq (aa (σ:=dW ["thing"] [v0]) (k:=0) h0)) (vq (i:=0) T.C5 (aN (k:=0) (aa (σ:=dW ["thing"] [v0]) (k:=0) h0) aj rfl) aj AH)
        rw [el] at b1
        exact RT.as (bT (b:=false) (RT.as (bu (aW (bh (ae (aa h0) ax) ⟨_,rfl,rfl⟩))) (by rw [ht]; rfl)) fun _=>ay b1) (Bool.false_or _)
      · refine aZ (K:=K) (d:=.bl (dU (.tup (.str kd :: r)))) ?_ fun v H' s q=>post v H' (s1.trans s) q
        have e:dU (.tup (.str kd :: r)) = false:=by
          rw [iH]
          rw [show decide ((r.length:Int) + 1 = mJ kd TM 0) = false from gB c,Bool.false_and]
        rw [e]
        exact dj
      · have c':decide ((r.length:Int) + 1 = mJ kd TM 0) = true:=eF c
        have hl:=of_decide_eq_true c'
        have h1:=s1.dat h0
        obtain ⟨y,r',er⟩:∃ y r',r = y :: r':=by
          cases r with
          | nil=>rcases qB kd with h | h | ⟨_,h⟩ <;> (rw [h] at hl; simp at hl)
          | cons y r'=>exact ⟨y,r',rfl⟩
        subst er
        refine aO (K:=K) (b:=!cu y 0 1) (bu (aW (bh (R:=fw) (ae (aN (k:=1) (aa h1) aj rfl) (ae aj (ae aj ax))) ⟨y,0,1,rfl,rfl⟩))) (fun c2 H2 s2=>?_) (fun c2 H2 s2=>?_)
        · refine aZ (K:=K) (d:=.bl (dU (.tup (.str kd :: y :: r')))) ?_ fun v H' s q=>post v H' (s1.trans (s2.trans s)) q
          have e:dU (.tup (.str kd :: y :: r')) = false:=by
            rw [iH,c',Bool.true_and]
            show (cu y 0 1 && _) = false
            rw [show cu y 0 1 = false from gB c2,Bool.false_and]
          rw [e]
          exact dj
        · refine aZ (K:=K) (d:=.bl (dU (.tup (.str kd :: y :: r')))) ?_ fun v H' s q=>post v H' (s1.trans (s2.trans s)) q
          have h2:=s2.dat h1
          have e:dU (.tup (.str kd :: y :: r')) = (!decide (kd = "gap") || cu (r'.getD 0 .non) 0 9999):=by
            rw [iH,c',Bool.true_and]
            show (cu y 0 1 && (!decide (kd = "gap") || cu (r'.getD 0 .non) 0 9999)) = _
            rw [show cu y 0 1 = true from eF c2,Bool.true_and]
          rw [e]
          refine tZ (pe (aN (k:=0) (aa h2) aj rfl) aG) fun c3=>?_
          have hk:kd = "gap":=by simpa using c3
          obtain ⟨z,er⟩:∃ z,r' = [z]:=by
            rcases qB kd with h | h | ⟨_,h⟩
            · rw [h] at hl; simp at hl; omega
            · rw [hk] at h; exact absurd h (by decide +kernel)
            · rw [h] at hl
              match r',hl with
              | [z],_=>exact ⟨z,rfl⟩
              | [],h=>simp at h
              | _ :: _ :: _,h=>simp at h; omega
          subst er
          exact bh (E:=E0) (R:=fw) (ae (aN (k:=2) (aa h2) aj rfl) (ae aj (ae aj ax))) ⟨z,0,9999,rfl,rfl⟩
    · cases ht'
end
end My
end
section
namespace My
open PySem L2 PyProof.Rows
section
variable {P:Program} {w:World} {K:PySem.W.Frag} {mg:Str→Option Value} {base:Heap} {k:Nat}
def jx:D→Bool
  | .tup (.str k :: _)=>decide (k ∈ (["arg","pick"]:List Str))
  | _=>false
def ppD:Nat→D→Bool
  | 0,_=>false
  | n + 1,d=>dU d || (cP d && (!jx d && ((bV d).map (ppD n)).all id))
def Rpp (n:Nat) (ds:List D) (d:D):Prop:=∃ x,ds = [x,.int (4 - (n:Int))]∧d = .bl (ppD n x)
def zY:Nat→List D→D→Prop
  | 0=>fun _ _=>False
  | n + 1=>Rpp n
theorem fR (T:Txt P w K mg) {n:Nat} (JZ:FnOk P w K mg base CX0 k T.GP T.GT ["thing"] (spD K zX)) (Iz:FnOk P w K mg base CX0 k T.F4 T.F8 ["thing"] (spD K vX)) (DB:FnOk P w K mg base CX0 k T.Dh T.Di ["tree"] (spD K fF)) (E6:FnOk P w K mg base CX0 k T.Da T.Dc ["thing","deep"] (spD K (zY n))):FnOk P w K mg base CX0 (k + 1) T.Da T.Dc ["thing","deep"] (spD K (Rpp n)):=by
  refine T.DP.ok sc_is_pattern_part (fun vs H Q E h=>?_) (fun cdv A outer s H vs Q E hr h=>?_)
  · obtain ⟨ds,d,hd,⟨x,rfl,rfl⟩,_⟩:=h; exact hd.length.symm
  have nd:=sc_is_pattern_part.nd
  obtain ⟨ds,d,hd,⟨x,rfl,rfl⟩,post⟩:=h
  obtain ⟨v0,v1,rfl,h0,h1⟩:=fO hd
  refine ⟨_,(ao (bj (aF nG (pv 1) (bg (v:=.int 3) rfl T.Dd ⟨_,rfl⟩) (aL _)) (au (aD cG)) aK)
  (ao (bj (bq (az JZ hr rfl T.Jq T.HR.kp (uk T) .nil aY (ah (pv 0) af)) (fun _=>rfl)) (au (aD cG)) aK)
  (ao (bj (PW.pt (cQ (bR (bq (az Iz hr rfl T.IF T.GW.kp (m7 T) .nil aY (ah (pv 0) af)) (fun _=>rfl))) (de (aF nH (aE aI (pv 0) ag (fun _ _=>rfl)) (aX (ah aJ (ah aJ af))) (by with_unfolding_all rfl))))) (au (aD cG)) aK)
  (au (aD (aA (gF rfl) rfl T.Jj j0 (ah (dO (own:=["within"]) (fr:=[1]) (N':=["within","deep"]) (iN (az DB hr rfl T.EB T.DF.kp (eK T) .nil aY (ah (pv 0) af))) rfl (by show cj ["thing","deep"] (fun x=>(aw cK).names.lookup x) _ _ _ _ = true; decide +kernel) rfl (fun _ _ _ _ _=>(aV (i:=0) (by show List.Nodup [("within":Str),("deep":Str)]; decide +kernel) rfl (Or.inl rfl))) (fun _ _ _ _ _=>bX) (fun _ _ _ _ _=>(az E6 hr rfl T.Fg T.DP.kp (fX T) .nil aY (ah (pv 0) (ah (bE dF (pv 1) ag) af))))) af))))))),?_⟩
  cases n with
  | zero =>
    refine aO (K:=K) (b:=true) (RT.as (ay (d5 (p:=fun i j=>decide (j < i)) (aa h1) aj)) rfl) (fun c H1 s1=>?_) (fun c=>nomatch c)
    exact aZ (K:=K) (d:=.bl false) dj fun v H' s q=>post v H' (s1.trans s) q
  | succ n =>
    refine aO (K:=K) (b:=false) (RT.as (ay (d5 (p:=fun i j=>decide (j < i)) (aa h1) aj)) (decide_eq_false (by omega))) (fun c=>nomatch c) (fun c H1 s1=>?_)
    have h0:=s1.dat h0
    have h1:=s1.dat h1
    refine aO (K:=K) (b:=dU x) (aW (bh (ae (aa h0) ax) ⟨x,rfl,rfl⟩)) (fun c H2 s2=>?_) (fun c H2 s2=>?_)
    · refine aZ (K:=K) (d:=.bl true) dj fun v H' s q=>post v H' (s1.trans (s2.trans s)) ?_
      have e:ppD (n + 1) x = true:=by unfold ppD; rw [c]; rfl
      rw [e]
      exact q
    have h0:=s2.dat h0
    have h1:=s2.dat h1
    have e1:ppD (n + 1) x = (cP x && (!jx x && ((bV x).map (ppD n)).all id)):=by
      show (dU x || _) = _
      rw [c,Bool.false_or]
    cases hn:cP x with
    | false =>
      refine aO (K:=K) (b:=true) (RT.as (bT (b:=true) (c:=true) (RT.as (bu (aW (bh (ae (aa h0) ax) ⟨x,rfl,rfl⟩))) (by rw [hn]; rfl)) fun c=>nomatch c) rfl) (fun c H3 s3=>?_) (fun c=>nomatch c)
      refine aZ (K:=K) (d:=.bl false) dj fun v H' s q=>post v H' (s1.trans (s2.trans (s3.trans s))) ?_
      rw [e1,hn]
      exact q
    | true =>
      obtain ⟨kd,r,ek⟩:=me hn
      have few:=lV hn
      have h0':Dat K H2 (.tup (.str kd :: r)) v0:=by rw [← ek]; exact h0
      refine aO (K:=K) (b:=jx x) (RT.as (bT (b:=false) (RT.as (bu (aW (bh (ae (aa h0) ax) ⟨x,rfl,rfl⟩))) (by rw [hn]; rfl)) fun _=>ay (Bv (ys:=["arg","pick"]) (aN (k:=0) (aa h0') aj rfl) (ba (ae aG (ae aG ax))))) (by rw [ek]; exact Bool.false_or _)) (fun c3 H3 s3=>?_) (fun c3 H3 s3=>?_)
      · refine aZ (K:=K) (d:=.bl false) dj fun v H' s q=>post v H' (s1.trans (s2.trans (s3.trans s))) ?_
        rw [e1,hn,c3]
        exact q
      · have h1:=s3.dat h1
        refine aZ (K:=K) (d:=.bl (((bV x).map (ppD n)).all id)) (iT (o8 (cs:=bV x) (bh (R:=fF) (ae (aa (s3.dat h0)) ax) ⟨kd,r,by rw [ek],by rw [ek]⟩) (by omega) _ (by simp) rfl (fun H4 i z vz d s4 hz hi hvz=>?_))) fun v H' s q=>post v H' (s1.trans (s2.trans (s3.trans s))) ?_
        · rw [List.getElem?_map,List.getElem?_map,hz] at hi
          cases hi
          exact bh (E:=E0) (R:=Rpp n) (ae (aa hvz) (ae (RE.as (eH (aa (s4.dat h1)) aj) (congrArg D.int (by omega:(4:Int) - ((n + 1:Nat):Int) + 1 = 4 - (n:Int)))) ax)) ⟨z,rfl,rfl⟩
        · rw [e1,hn,c3]
          exact q
def j8 (k:Str):D→Bool
  | .tup (.str h :: _)=>decide (h = k)
  | _=>false
def b8:Nat→Str→D→List D
  | 0,_,_=>[]
  | n + 1,k,d=>if j8 k d = true then [d] else (bV d).flatMap (b8 n k)
def iA (n:Nat) (ds es:List D):Prop:=∃ x k,ds = [x,.str k]∧n ≤ 3∧ppD n x = true∧es = b8 n k x
theorem qC {d:D} (h:dU d = true):∃ k r,d = .tup (.str k :: r):=by
  unfold dU at h
  split at h
  · exact ⟨_,_,rfl⟩
  · cases h
theorem wW {k:Str} {r:List D} (h:dU (.tup (.str k :: r)) = true):k = "hole"∨k = "gap"∨k = "slot":=by
  rw [iH,Bool.and_eq_true] at h
  have hl:=of_decide_eq_true h.1
  unfold mJ at hl
  by_cases h1:k = "hole"
  · exact .inl h1
  by_cases h2:k = "gap"
  · exact .inr (.inl h2)
  by_cases h3:k = "slot"
  · exact .inr (.inr h3)
  have e:KTD.datumAt k TM = none:=by simp [TM,KTD.datumAt,h1,h2,h3]
  rw [e] at hl
  dsimp only at hl
  omega
theorem mL {k:Str} (h:k = "hole"∨k = "gap"∨k = "slot"):KTD.inKeys k TB = false∧KTD.inKeys k TL = false:=by
  rcases h with rfl | rfl | rfl <;> decide +kernel
theorem uL {d:D} (h:dU d = true):bV d = []:=by
  obtain ⟨k,r,rfl⟩:=qC h
  exact kg (mL (wW h)).1
theorem sy {n:Nat} {d:D} (h:ppD n d = true):∃ k r,d = .tup (.str k :: r):=by
  cases n with
  | zero=>cases h
  | succ n =>
    have h':(dU d || (cP d && (!jx d && ((bV d).map (ppD n)).all id))) = true:=h
    rw [Bool.or_eq_true] at h'
    rcases h' with h' | h'
    · exact qC h'
    · rw [Bool.and_eq_true] at h'
      exact me h'.1
theorem o4 {n:Nat} {d:D} (h:ppD (n + 1) d = true):(bV d).length ≤ 3∧∀ c ∈ bV d,ppD n c = true:=by
  have h':(dU d || (cP d && (!jx d && ((bV d).map (ppD n)).all id))) = true:=h
  rw [Bool.or_eq_true] at h'
  rcases h' with h' | h'
  · rw [uL h']
    exact ⟨by simp,fun c hc=>absurd hc (by simp)⟩
  · rw [Bool.and_eq_true,Bool.and_eq_true] at h'
    refine ⟨lV h'.1,fun c hc=>?_⟩
    have z:=List.all_eq_true.mp h'.2.2 (ppD n c) (List.mem_map.mpr ⟨c,hc,rfl⟩)
    exact z
theorem tH {α β:Type} (f:α→List β) (m:Nat):∀ l:List α,(∀ x ∈ l,(f x).length ≤ m)→(l.flatMap f).length ≤ l.length * m
  | [],_=>by simp
  | x :: l,h=>by
    have h1:=h x (by simp)
    have h2:=tH f m l fun y hy=>h y (by simp [hy])
    rw [List.flatMap_cons,List.length_append,List.length_cons,Nat.succ_mul]
    omega
theorem lX (k:Str):∀ (n:Nat) (d:D),ppD n d = true→(b8 n k d).length ≤ 3 ^ n
  | 0,d,h=>by cases h
  | n + 1,d,h=>by
    unfold b8
    split
    · have:1 ≤ 3 ^ (n + 1):=Nat.one_le_iff_ne_zero.mpr (by simp)
      simpa using this
    · obtain ⟨h1,h2⟩:=o4 h
      have z:=tH (b8 n k) (3 ^ n) (bV d) fun c hc=>lX k n c (h2 c hc)
      have z2:(bV d).length * 3 ^ n ≤ 3 * 3 ^ n:=Nat.mul_le_mul_right _ h1
      rw [Nat.pow_succ,Nat.mul_comm (3 ^ n) 3]
      omega
theorem p3 {n:Nat} (h:n ≤ 3):3 ^ n ≤ 27:=by
  match n,h with
  | 0,_=>decide
  | 1,_=>decide
  | 2,_=>decide
  | 3,_=>decide
theorem qO (T:Txt P w K mg) {n:Nat} (DB:FnOk P w K mg base CX0 k T.Dh T.Di ["tree"] (spD K fF)) (Gf:FnOk P w K mg base CX0 k T.Er T.Ex ["pattern","kind"] (iz K (iA n))):FnOk P w K mg base CX0 (k + 1) T.Er T.Ex ["pattern","kind"] (iz K (iA (n + 1))):=by
  refine T.Fo.ok sc_marks_in (fun vs H Q E h=>?_) (fun cdv A outer s H vs Q E hr h=>?_)
  · obtain ⟨ds,es,hd,⟨x,kk,rfl,_⟩,_⟩:=h; exact hd.length.symm
  have nd:=sc_marks_in.nd
  obtain ⟨ds,es,hd,⟨x,kk,rfl,hn3,hp,rfl⟩,post⟩:=h
  obtain ⟨v0,v1,rfl,h0,h1⟩:=fO hd
  refine ⟨_,(ao (bj (aF cg (aE aI (pv 0) ag (fun _ _=>rfl)) (pv 1) (aL _)) (au (aD (bC (ah (pv 0) af)))) aK)
  (ao (bz (i:=2) nd rfl (Or.inl rfl) (bC af))
  (ao (hV PassesOwn.never rfl (iN (az DB hr rfl T.EB T.DF.kp (eK T) .nil aY (ah (pv 0) af))) (aV (i:=3) nd rfl (Or.inl rfl)) (au (bF (cZ PySem.F.plainAttrs_list PySem.F.slot_list_extend PySem.F.type_list_extend fL (pv 2) (ah (az Gf hr rfl T.Hr T.Fo.kp (jd T) .nil aY (ah (pv 3) (ah (pv 1) af))) af)))))
  (au (aD (pv 2)))))),?_⟩
  obtain ⟨kd,r,ek⟩:=sy hp
  have h0':Dat K H (.tup (.str kd :: r)) v0:=by rw [← ek]; exact h0
  have eh:j8 kk x = decide (kd = kk):=by rw [ek]; rfl
  obtain ⟨few,kok⟩:=o4 hp
  have cap:=lX kk (n + 1) x hp
  have cap3:=p3 hn3
  refine aO (K:=K) (b:=j8 kk x) (RT.as (ay (br (aN (k:=0) (aa h0') aj rfl) (aa h1))) eh.symm) (fun c H1 s1=>?_) (fun c H1 s1=>?_)
  · refine ix ((hZ (K:=K) (es:=[x]) (ae (aa (s1.dat h0)) ax)).use fun l ys H2 hl s2 hy hd2=>?_)
    refine post l ys H2 (s1.trans s2) hy (s1.free hl) ?_
    unfold b8
    rw [if_pos c]
    exact hd2
  have em:b8 (n + 1) kk x = (bV x).flatMap (b8 n kk):=by
    show (if j8 kk x = true then _ else _) = _
    rw [if_neg (by rw [c]; exact Bool.false_ne_true)]
  rw [em] at cap post
  have h0:=s1.dat h0
  have h1:=s1.dat h1
  have hk1:=h1.strE
  refine fg (K:=K) (es:=[]) (hZ ax) fun wl ys0 H2 hw s2 hy0 hd0=>?_
  have hw0:H wl = none:=s1.free hw
  refine cO (RE.use (bh (R:=fF) (d:=.tup (bV x)) (ae (aa (K:=K) (k:=0) (s2.dat h0)) ax) ⟨kd,r,by rw [ek],by rw [ek]⟩) fun v4 H4 s4 q4=>?_)
  obtain ⟨a,vs,ea,hq,hds⟩:=q4.tupE
  subst ea
  have hl:=hds.length
  refine ⟨a,rfl,⟨vs,hq⟩,oz (xs:=vs) (fun i σ G=>∃ (z:Option V) (ys:List V),σ = [some v0,some v1,some (.ref wl),z]∧Same H G∧SqT K G a vs∧Dats K G (bV x) vs∧G wl = some (.lst ys)∧Dats K G (((bV x).take i).flatMap (b8 n kk)) ys) ?_ (fun i σ G _ ⟨z,ys,_,_,p,_⟩=>p) ?_ ?_⟩
  · exact ⟨none,ys0,rfl,s1.trans (s2.trans s4),hq,hds,s4 _ _ hy0,s4.dats hd0⟩
  · rintro i vx σ G hi ⟨z,ys,rfl,sG,hqG,hdG,hwG,hyG⟩
    obtain ⟨dx,ex,hx⟩:=hdG.getV hi
    have hpx:=kok dx (List.mem_of_getElem? ex)
    subst hk1
    refine ⟨_,rfl,.inl ⟨rfl,_,SqL.of hwG⟩,_,rfl,_,rfl,[dx,.str kk],_,(Dats.cons hx (Dats.cons (Dat.strI _) Dats.nil):Dats K G [dx,.str kk] [vx,.str kk]),⟨dx,kk,rfl,by omega,hpx,rfl⟩,fun r us H5 s5 hr5 _ hd5=>?_⟩
    have hw5:=s5 _ _ hwG
    have b6:But wl H5 (upd H5 wl (.lst (ys ++ us))):=But.upd (Same.refl H5).but
    have g6:dv K H5 (upd H5 wl (.lst (ys ++ us))):=b6.grow hw5 aq
    have et:((bV x).take (i + 1)).flatMap (b8 n kk) = ((bV x).take i).flatMap (b8 n kk) ++ b8 n kk dx:=by
      rw [List.take_add_one,ex]
      simp
    have lt:(((bV x).take (i + 1)).flatMap (b8 n kk)).length ≤ 27:=by
      have e2:((bV x).take (i + 1)).flatMap (b8 n kk) ++ ((bV x).drop (i + 1)).flatMap (b8 n kk) = (bV x).flatMap (b8 n kk):=by
        rw [← List.flatMap_append,List.take_append_drop]
      have:=congrArg List.length e2
      rw [List.length_append] at this
      omega
    have ly:=hyG.length
    have lu:=hd5.length
    rw [et,List.length_append] at lt
    refine ⟨wl,r,ys,us,rfl,rfl,hw5,hr5,bU (by omega),some vx,ys ++ us,rfl,fun b o hb=>b6 b o (av hb hw0) (s5 _ _ (sG _ _ hb)),g6.tup _ _ (s5.sqT hqG),Dats.mono g6 _ (s5.dats hdG),aq,?_⟩
    rw [et]
    exact Dats.append (Dats.mono g6 _ (s5.dats hyG)) (Dats.mono g6 _ hd5)
  · rintro σ G ⟨z,ys,rfl,sG,hqG,hdG,hwG,hyG⟩
    refine ⟨_,rfl,post wl ys G sG hwG hw0 ?_⟩
    rw [← hl,List.take_length] at hyG
    exact hyG
def BB:D→D
  | .tup (_ :: y :: _)=>y
  | _=>.non
theorem r6 {k:Str} {r:List D} (h:dU (.tup (.str k :: r)) = true):∃ i r',r = .int i :: r':=by
  rw [iH,Bool.and_eq_true,Bool.and_eq_true] at h
  have hw:=h.2.1
  cases r with
  | nil=>cases hw
  | cons y r' =>
    have hw':cu y 0 1 = true:=hw
    cases y with
    | int i=>exact ⟨i,r',rfl⟩
    | _=>cases hw'
theorem iI {k:Str} (hk:k = "hole"∨k = "gap"∨k = "slot"):∀ (n:Nat) (x m:D),ppD n x = true→m ∈ b8 n k x→∃ i r,m = .tup (.str k :: .int i :: r)
  | 0,x,m,h,_=>by cases h
  | n + 1,x,m,h,hm=>by
    unfold b8 at hm
    split at hm
    · rename_i hh
      have e:m = x:=by simpa using hm
      subst e
      obtain ⟨k',r,rfl⟩:=sy h
      have ek:k' = k:=of_decide_eq_true hh
      subst ek
      have h':(dU (.tup (.str k' :: r)) || (cP (.tup (.str k' :: r)) && _)) = true:=h
      rw [Bool.or_eq_true] at h'
      rcases h' with h' | h'
      · obtain ⟨i,r',rfl⟩:=r6 h'
        exact ⟨i,r',rfl⟩
      · rw [Bool.and_eq_true] at h'
        have z:=h'.1
        rw [lZ (mL hk).2,(mL hk).1,Bool.false_and] at z
        cases z
    · obtain ⟨c,hc,hm'⟩:=List.mem_flatMap.mp hm
      exact iI hk n c m ((o4 h).2 c hc) hm'
def zj (k:Str) (x:D):Bool:=cW ((b8 3 k x).map BB) ((List.range (b8 3 k x).length).map fun i:Nat=>D.int i)
def AB (ds:List D) (d:D):Prop:=∃ x k,ds = [x,.str k]∧ppD 3 x = true∧(k = "hole"∨k = "gap"∨k = "slot")∧d = .bl (zj k x)
theorem lg {K:PySem.W.Frag} {σ:L2.St} {H:Hp} {k:Nat} {l:Addr} {ys:List V} (hl:H l = some (.lst ys)) (e:σ[k]? = some (some (.ref l)):=by rfl):RE K (tCB (fun xs H Q=>∃ p ys,xs = [.ref p]∧(SqL K H p ys∨SqT K H p ys)∧Q (.int ys.length) H) (bB (eJ k) cH)) σ H (.int ys.length):=fun H1 s Q q =>
  ⟨.ref l,e,l,ys,rfl,.inl (SqL.of (s _ _ hl)),q _ _ (Same.refl _) (Dat.intI _)⟩
theorem lY {l:List D} (h:∀ d ∈ l,∃ i,d = .int i):cM l = true∧bJ l = 0:=by
  induction l with
  | nil=>exact ⟨by unfold cM; rfl,by unfold bJ; rfl⟩
  | cons d l ih =>
    obtain ⟨i,rfl⟩:=h d (by simp)
    obtain ⟨h1,h2⟩:=ih fun d hd=>h d (by simp [hd])
    refine ⟨?_,?_⟩
    · unfold cM; rw [h1]; unfold noL; rfl
    · unfold bJ; rw [h2]; unfold dS; rfl
theorem mj (T:Txt P w K mg) (Gf:FnOk P w K mg base CX0 k T.Er T.Ex ["pattern","kind"] (iz K (iA 3))):FnOk P w K mg base CX0 (k + 1) T.EM T.ER ["pattern","kind"] (spD K AB):=by
  refine T.Fw.ok sc_is_numbered (fun vs H Q E h=>?_) (fun cdv A outer s H vs Q E hr h=>?_)
  · obtain ⟨ds,d,hd,⟨x,kk,rfl,_⟩,_⟩:=h; exact hd.length.symm
  have nd:=sc_is_numbered.nd
  obtain ⟨ds,d,hd,⟨x,kk,rfl,hp,hk,rfl⟩,post⟩:=h
  obtain ⟨v0,v1,rfl,h0,h1⟩:=fO hd
  refine ⟨_,(ao (dI (i:=2) (own:=["mark"]) (fr:=[]) (N':=["mark"]) (dq (az Gf hr rfl T.Hr T.Fo.kp (jd T) .nil aY (ah (pv 0) (ah (pv 1) af)))) rfl (by show cj ["pattern","kind","numbers"] (fun x=>(aw d6).names.lookup x) _ _ _ _ = true; decide +kernel) rfl (fun _ _ _ _ _=>(aV (i:=0) (by show List.Nodup [("mark":Str)]; decide +kernel) rfl (Or.inl rfl))) (fun _ _ _ _ _=>bX) (fun _ _ _ _ _=>(aE (r:=o6 K) aI (pv 0) ag (fun _ _=>rfl))) nd rfl rfl rfl)
  (au (aD (bZ (oY hr) (pv 2) (dN (mV rfl) rfl T.JS sY (ah (dN wt rfl T.JC wb (ah (aA aH rfl T.De bI (ah (pv 2) af)) af)) af)) (aL _))))),?_⟩
  have cap:=lX kk 3 x hp
  refine fg (K:=K) (es:=(b8 3 kk x).map BB) (zA (cs:=b8 3 kk x) (hW (R:=iA 3) (ae (aa h0) (ae (aa h1) ax)) ⟨x,kk,rfl,by decide,hp,rfl⟩) (Nat.le_trans cap (by decide)) _ (by simp) rfl (fun H1 i c v d s1 hc hi hv=>?_)) fun l ys H2 hl s2 hy hd2=>?_
  · rw [List.getElem?_map,hc] at hi
    cases hi
    obtain ⟨j,r,rfl⟩:=iI hk 3 x c hp (List.mem_of_getElem? hc)
    exact aN (k:=1) (aa hv) aj rfl
  have ll:=hd2.length
  rw [List.length_map] at ll
  refine ⟨_,rfl,(o7 (K:=K) (n:=ys.length) (lg (k:=2) hy) (by rw [← ll]; exact Nat.le_trans cap (by decide))).use fun l2 ys2 H3 hl2 s3 hy3 hd3=>?_⟩
  have i1:∀ d ∈ (b8 3 kk x).map BB,∃ i,d = .int i:=fun d hdm=>by
    obtain ⟨m,hm,rfl⟩:=List.mem_map.mp hdm
    obtain ⟨j,r,rfl⟩:=iI hk 3 x m hp hm
    exact ⟨j,rfl⟩
  have i2:∀ d ∈ (List.range ys.length).map (fun i:Nat=>D.int i),∃ i,d = .int i:=fun d hdm=>by
    obtain ⟨m,hm,rfl⟩:=List.mem_map.mp hdm
    exact ⟨_,rfl⟩
  refine ⟨l,l2,ys,ys2,_,_,rfl,rfl,SqL.of (s3 _ _ hy),SqL.of hy3,s3.dats hd2,hd3,(lY i1).1,(lY i2).1,by rw [(lY i1).2]; decide,?_⟩
  refine post _ _ (s2.trans s3) ?_
  unfold zj
  rw [ll]
  exact Dat.blI _
def o2 (x:D):Bool:=ppD 3 x && (!j8 "hole" x && ((["hole","gap","slot"]:List Str).map fun k=>zj k x).all id)
def AC (ds:List D) (d:D):Prop:=∃ x,ds = [x]∧d = .bl (o2 x)
theorem mZ (T:Txt P w K mg) (E6:FnOk P w K mg base CX0 k T.Da T.Dc ["thing","deep"] (spD K (Rpp 3))) (Jo:FnOk P w K mg base CX0 k T.EM T.ER ["pattern","kind"] (spD K AB)):FnOk P w K mg base CX0 (k + 1) T.E9 T.Fe ["thing"] (spD K AC):=by
  refine T.F1.ok sc_is_pattern (fun vs H Q E h=>?_) (fun cdv A outer s H vs Q E hr h=>?_)
  · obtain ⟨ds,d,hd,⟨x,rfl,rfl⟩,_⟩:=h; exact hd.length.symm
  have nd:=sc_is_pattern.nd
  obtain ⟨ds,d,hd,⟨x,rfl,rfl⟩,post⟩:=h
  obtain ⟨v0,rfl,h0⟩:=fZ hd
  refine ⟨_,(ao (bj (PW.pt (cQ (bR (bq (az E6 hr rfl T.Fg T.DP.kp (fX T) .nil aY (ah (pv 0) (ah ag af))) (fun _=>rfl))) (de (aF cg (aE aI (pv 0) ag (fun _ _=>rfl)) aJ (aL _))))) (au (aD cG)) aK)
  (au (aD (aA (gF rfl) rfl T.Jj j0 (ah (dO (own:=["kind"]) (fr:=[0]) (N':=["kind","thing"]) (Bj (bg (v:=.ref T.DC) rfl T.Dj rfl)) rfl (by show cj ["thing"] (fun x=>(aw eP).names.lookup x) _ _ _ _ = true; decide +kernel) rfl (fun _ _ _ _ _=>(aV (i:=0) (by show List.Nodup [("kind":Str),("thing":Str)]; decide +kernel) rfl (Or.inl rfl))) (fun _ _ _ _ _=>bX) (fun _ _ _ _ _=>(az Jo hr rfl T.Ic T.Fw.kp (mT T) .nil aY (ah (pv 1) (ah (pv 0) af))))) af))))),?_⟩
  cases hp:ppD 3 x with
  | false =>
    refine aO (K:=K) (b:=true) (RT.as (bT (b:=true) (c:=true) (RT.as (bu (aW (bh (R:=Rpp 3) (ae (aa h0) (ae aj ax)) ⟨x,rfl,rfl⟩))) (by rw [hp]; rfl)) fun c=>nomatch c) rfl) (fun c H3 s3=>?_) (fun c=>nomatch c)
    refine aZ (K:=K) (d:=.bl false) dj fun v H' s q=>post v H' (s3.trans s) ?_
    unfold o2
    rw [hp]
    exact q
  | true =>
    obtain ⟨kd,r,ek⟩:=sy hp
    have h0':Dat K H (.tup (.str kd :: r)) v0:=by rw [← ek]; exact h0
    refine aO (K:=K) (b:=j8 "hole" x) (RT.as (bT (b:=false) (RT.as (bu (aW (bh (R:=Rpp 3) (ae (aa h0) (ae aj ax)) ⟨x,rfl,rfl⟩))) (by rw [hp]; rfl)) fun _=>ay (br (aN (k:=0) (aa h0') aj rfl) aG)) (by rw [ek]; exact Bool.false_or _)) (fun c H1 s1=>?_) (fun c H1 s1=>?_)
    · refine aZ (K:=K) (d:=.bl false) dj fun v H' s q=>post v H' (s1.trans s) ?_
      unfold o2
      rw [hp,c]
      exact q
    · refine aZ (K:=K) (d:=.bl (((["hole","gap","slot"]:List Str).map fun k=>zj k x).all id)) (iT (Br T.HH (by decide) _ rfl rfl (fun H2 i kk d s2 hk hi=>?_))) fun v H' s q=>post v H' (s1.trans s) ?_
      · rw [List.getElem?_map,List.getElem?_map,hk] at hi
        cases hi
        refine bh (E:=E0) (R:=AB) (ae (aa (s2.dat (s1.dat h0))) (ae (aa (Dat.strI kk)) ax)) ⟨x,kk,rfl,hp,?_,rfl⟩
        have:=List.mem_of_getElem? hk
        simpa using this
      · unfold o2
        rw [hp,c]
        exact q
def nR (k:Str) (T:List (Str × KTD.Dat)):Str:=match KTD.datumAt k T with | some (.flat (.str z))=>z | _=>""
theorem AF {k:Str} (h:KTD.inKeys k TF = true):KTD.datumAt k TF = some (.flat (.str (nR k TF))):=by
  unfold nR
  by_cases h1:k = "low"
  · subst h1; rfl
  by_cases h2:k = "high"
  · subst h2; rfl
  by_cases h3:k = "arg"
  · subst h3; rfl
  have e:KTD.inKeys k TF = false:=by simp [TF,KTD.inKeys,h1,h2,h3]
  rw [e] at h
  cases h
def lJ (p:D):D→Bool
  | .tup (.str k :: r)=>decide ((r.length:Int) + 1 = 2) && (KTD.inKeys k TF && cu (r.getD 0 .non) 0 (((b8 3 (nR k TF) p).length:Int) - 1))
  | _=>false
theorem qh (p:D) (k:Str) (r:List D):lJ p (.tup (.str k :: r)) = (decide ((r.length:Int) + 1 = 2) && (KTD.inKeys k TF && cu (r.getD 0 .non) 0 (((b8 3 (nR k TF) p).length:Int) - 1))):=rfl
def vT (ds:List D) (d:D):Prop:=∃ x p,ds = [x,p]∧ppD 3 p = true∧d = .bl (lJ p x)
theorem yK {p x:D} (h:cC x = false):lJ p x = false:=by
  unfold cC at h
  unfold lJ
  split at h
  · cases h
  · rename_i hn
    first
      | rfl
      | (split
         · rename_i k r; exact absurd rfl (hn k r)
         · rfl)
theorem mY (T:Txt P w K mg) (Ej:FnOk P w K mg base CX0 k T.D1 T.D3 ["thing"] (spD K gS)) (Gf:FnOk P w K mg base CX0 k T.Er T.Ex ["pattern","kind"] (iz K (iA 3))) (DQ:FnOk P w K mg base CX0 k T.D6 T.D8 ["thing","low","high"] (spD K fw)):FnOk P w K mg base CX0 (k + 1) T.E8 T.Fd ["thing","pattern"] (spD K vT):=by
  refine T.F0.ok sc_is_filling (fun vs H Q E h=>?_) (fun cdv A outer s H vs Q E hr h=>?_)
  · obtain ⟨ds,d,hd,⟨x,p,rfl,_⟩,_⟩:=h; exact hd.length.symm
  have nd:=sc_is_filling.nd
  obtain ⟨ds,d,hd,⟨x,p,rfl,hp,rfl⟩,post⟩:=h
  obtain ⟨v0,v1,rfl,h0,h1⟩:=fO hd
  refine ⟨_,(ao (bj (PW.pt (cQ (bR (bq (az Ej hr rfl T.FQ T.Ez.kp (fY T) .nil aY (ah (pv 0) af)) (fun _=>rfl))) (cQ (aF gh (aA aH rfl T.De bI (ah (pv 0) af)) ag (aL _)) (de (aF qQ (aE aI (pv 0) ag (fun _ _=>rfl)) (bg (v:=.ref T.EJ) rfl T.DR rfl) (by with_unfolding_all rfl)))))) (au (aD cG)) aK)
  (au (aD (az DQ hr rfl T.E2 T.Ea.kp (eZ T) .nil aY (ah (aE aI (pv 0) ag (fun _ _=>rfl)) (ah ag (ah (bE xo (aA aH rfl T.De bI (ah (az Gf hr rfl T.Hr T.Fo.kp (jd T) .nil aY (ah (pv 1) (ah (aE yV (bg (v:=.ref T.EJ) rfl T.DR rfl) (aE aI (pv 0) ag (fun _ _=>rfl)) (fun _ _=>rfl)) af))) af)) ag) af))))))),?_⟩
  cases ht:cC x with
  | false =>
    refine aO (K:=K) (b:=true) ?_ (fun c H1 s1=>?_) (fun c=>nomatch c)
    · exact RT.as (bT (b:=true) (c:=true) (RT.as (bu (aW (bh (ae (aa h0) ax) ⟨x,rfl,rfl⟩))) (by rw [ht]; rfl)) fun c=>nomatch c) rfl
    · refine aZ (K:=K) (d:=.bl (lJ p x)) ?_ fun v H' s q=>post v H' (s1.trans s) q
      rw [yK ht]
      exact dj
  | true =>
    have ht':=ht
    unfold cC at ht'
    split at ht'
    · rename_i kd r
      have el:((((D.str kd) :: r).length:Nat):Int) = (r.length:Int) + 1:=by rw [List.length_cons]; omega
      have b1:=eO (K:=K) (cq (aa (σ:=dW ["thing","pattern"] [v0,v1]) (k:=0) h0)) (aj (i:=2))
      rw [el] at b1
      refine aO (K:=K) (b:=!decide ((r.length:Int) + 1 = 2) || !KTD.inKeys kd TF) (RT.as (bT (b:=false) (RT.as (bu (aW (bh (ae (aa h0) ax) ⟨_,rfl,rfl⟩))) (by rw [ht]; rfl)) fun _=>bT (ay b1) fun _=>ay (qY (aN (k:=0) (aa h0) aj rfl) T.DS)) (Bool.false_or _)) (fun c H1 s1=>?_) (fun c H1 s1=>?_)
      · refine aZ (K:=K) (d:=.bl false) dj fun v H' s q=>post v H' (s1.trans s) ?_
        have e:lJ p (.tup (.str kd :: r)) = false:=by
          rw [qh]
          cases h2:decide ((r.length:Int) + 1 = 2) with
          | false=>rfl
          | true =>
            rw [h2] at c
            have h3:KTD.inKeys kd TF = false:=gB c
            rw [h3]
            rfl
        rw [e]
        exact q
      · rw [Bool.or_eq_false_iff] at c
        have c1:=eF c.1
        have c2:=eF c.2
        obtain ⟨y,er⟩:∃ y,r = [y]:=by
          match r,of_decide_eq_true c1 with
          | [],h=>simp at h
          | [y],_=>exact ⟨y,rfl⟩
          | _ :: _ :: _,h=>simp at h; omega
        subst er
        have h0:=s1.dat h0
        have h1:=s1.dat h1
        refine aZ (K:=K) (d:=.bl (cu y 0 (((b8 3 (nR kd TF) p).length:Int) - 1))) (bh (R:=fw) (ae (aN (k:=1) (aa h0) aj rfl) (ae aj (ae (Bx (zE (hW (R:=iA 3) (ae (aa h1) (ae (vk (aN (k:=0) (aa h0) aj rfl) T.DS (by rfl) (AF c2)) ax)) ⟨p,nR kd TF,rfl,by decide,hp,rfl⟩)) aj) ax))) ⟨y,0,_,rfl,rfl⟩) fun v H' s q=>post v H' (s1.trans s) ?_
        rw [qh,c1,c2]
        exact q
    · cases ht'
def pU (p x:D):Bool:=cu x 0 99 || lJ p x
def vS (ds:List D) (d:D):Prop:=∃ x p,ds = [x,p]∧ppD 3 p = true∧d = .bl (pU p x)
theorem r9 (T:Txt P w K mg) (DQ:FnOk P w K mg base CX0 k T.D6 T.D8 ["thing","low","high"] (spD K fw)) (Ju:FnOk P w K mg base CX0 k T.E8 T.Fd ["thing","pattern"] (spD K vT)):FnOk P w K mg base CX0 (k + 1) T.GO T.GS ["thing","pattern"] (spD K vS):=by
  refine T.HQ.ok sc_is_cell (fun vs H Q E h=>?_) (fun cdv A outer s H vs Q E hr h=>?_)
  · obtain ⟨ds,d,hd,⟨x,p,rfl,_⟩,_⟩:=h; exact hd.length.symm
  have nd:=sc_is_cell.nd
  obtain ⟨ds,d,hd,⟨x,p,rfl,hp,rfl⟩,post⟩:=h
  obtain ⟨v0,v1,rfl,h0,h1⟩:=fO hd
  refine ⟨_,(au (aD (xu (az DQ hr rfl T.E2 T.Ea.kp (eZ T) .nil aY (ah (pv 0) (ah ag (ah (bg (v:=.int 99) rfl T.EA ⟨_,rfl⟩) af)))) (fD (az Ju hr rfl T.Ir T.F0.kp (oh T) .nil aY (ah (pv 0) (ah (pv 1) af))))))),?_⟩
  exact aZ (K:=K) (d:=.bl (pU p x)) (tZ (bh (R:=fw) (ae (aa h0) (ae aj (ae aj ax))) ⟨x,0,99,rfl,rfl⟩) fun _=>bh (R:=vT) (ae (aa h0) (ae (aa h1) ax)) ⟨x,p,rfl,hp,rfl⟩) post
end
end My
end
section
namespace My
open PySem L2 PyProof.Rows
section
variable {P:Program} {w:World} {K:PySem.W.Frag} {mg:Str→Option Value} {base:Heap} {k:Nat}
def nC (c:Int):Option (Str × Nat):=match INS[c.toNat]? with
  | some (.tup [.str nm,.int m])=>some (nm,m.toNat)
  | _=>none
theorem A1 {c:Int} {nm:Str} {m:Nat} (h:nC c = some (nm,m)):INS[c.toNat]? = some (.tup [.str nm,.int (m:Int)])∧c.toNat < 17:=by
  unfold nC at h
  have hlt:c.toNat < 17:=by
    by_cases hc:c.toNat < 17
    · exact hc
    · rw [List.getElem?_eq_none (by show (17:Nat) ≤ c.toNat; omega)] at h
      cases h
  refine ⟨?_,hlt⟩
  have all:∀ i:Nat,i < 17→∀ nm m,(match INS[i]? with | some (.tup [.str nm,.int m])=>some (nm,m.toNat) | _=>none) = some (nm,m)→INS[i]? = some (.tup [.str nm,.int (m:Int)]):=by
    intro i hi nm m e
    match i,hi with
    | 0,_=>cases e; rfl
    | 1,_=>cases e; rfl
    | 2,_=>cases e; rfl
    | 3,_=>cases e; rfl
    | 4,_=>cases e; rfl
    | 5,_=>cases e; rfl
    | 6,_=>cases e; rfl
    | 7,_=>cases e; rfl
    | 8,_=>cases e; rfl
    | 9,_=>cases e; rfl
    | 10,_=>cases e; rfl
    | 11,_=>cases e; rfl
    | 12,_=>cases e; rfl
    | 13,_=>cases e; rfl
    | 14,_=>cases e; rfl
    | 15,_=>cases e; rfl
    | 16,_=>cases e; rfl
    | n + 17,h=>omega
  exact all c.toNat hlt nm m h
def gX (cells:List D) (p m:Nat):List D:=(cells.drop (p + 1)).take m
def vU (ds:List D) (d:D):Prop:=∃ (cells:List D) (p:Nat) (c:Int) (nm:Str) (m:Nat),ds = [.tup cells,.int p]∧cells[p]? = some (.int c)∧0 ≤ c∧nC c = some (nm,m)∧(gX cells p m).length = m∧d = .tup [.str nm,.tup (gX cells p m)]
theorem jH (T:Txt P w K mg)  : FnOk P w K mg base CX0 (k + 1) T.DU T.DX ["cells","place"] (spD K vU):=by
  refine T.EF.ok sc_instruction_at (fun vs H Q E h=>?_) (fun cdv A outer s H vs Q E hr h=>?_)
  · obtain ⟨ds,d,hd,⟨cells,p,c,nm,m,rfl,_⟩,_⟩:=h; exact hd.length.symm
  have nd:=sc_instruction_at.nd
  obtain ⟨ds,d,hd,⟨cells,p,c,nm,m,rfl,hc,c0,hi,hb,rfl⟩,post⟩:=h
  obtain ⟨v0,v1,rfl,h0,h1⟩:=fO hd
  refine ⟨_,(ao (bj (PW.pt (cQ (aF xl (pv 1) (aA aH rfl T.De bI (ah (pv 0) af)) (aL _)) (de (aF xl (aE aI (pv 0) (pv 1) (fun _ _=>rfl)) (aA aH rfl T.De bI (ah (bg (v:=.ref T.Ek) rfl T.DG rfl) af)) (aL _))))) (au jL) aK)
  (ao (hU (aE aI (bg (v:=.ref T.Ek) rfl T.DG rfl) (aE aI (pv 0) (pv 1) (fun _ _=>rfl)) (fun _ _=>rfl)) (gD rfl (bx (aV (i:=2) nd rfl (Or.inl rfl)) (bx (aV (i:=3) nd rfl (Or.inl rfl)) d8))))
  (ao (bz (i:=4) nd rfl (Or.inl rfl) (dN dC rfl T.Ei cV (ah (iM mD (pv 0) (iS (bE dF (pv 1) ag)) (iS (bE dF (bE dF (pv 1) ag) (pv 3)))) af)))
  (ao (bj (aF nI (aA aH rfl T.De bI (ah (pv 4) af)) (pv 3) (aL _)) (au jL) aK)
  (au (aD (aX (ah (pv 2) (ah (pv 4) af))))))))),?_⟩
  obtain ⟨hi,h17⟩:=A1 hi
  have hp:p < cells.length:=(List.getElem?_eq_some_iff.mp hc).1
  have ec:c = ((c.toNat:Nat):Int):=by omega
  refine aO (K:=K) (b:=false) (RT.as (bT (b:=false) (c:=false) (RT.as (ay (d5 (p:=fun i j=>decide (j ≤ i)) (aa h1) (cq (aa h0)))) (decide_eq_false (by omega))) fun _=>RT.as (ay (d5 (p:=fun i j=>decide (j ≤ i)) (aN (k:=p) (aa h0) (aa h1) hc) (cq (my T.Gn)))) (decide_eq_false (by show ¬ (17:Int) ≤ c; omega))) rfl) (fun c=>nomatch c) (fun _ H1 s1=>?_)
  have h0:=s1.dat h0
  have h1:=s1.dat h1
  refine pw (K:=K) (d:=.str nm) (e:=.int m) (aN (k:=c.toNat) (my T.Gn) (RE.as (aN (k:=p) (aa h0) (aa h1) hc) (congrArg D.int ec)) hi) fun v2 v3 H2 s2 h2 h3=>?_
  have h0:=s2.dat h0
  have h1:=s2.dat h1
  have el:(p:Int) + 1 = ((p + 1:Nat):Int):=by omega
  have eh:(p:Int) + 1 + (m:Int) = ((p + 1 + m:Nat):Int):=by omega
  refine dP (K:=K) (d:=.tup (gX cells p m)) (RE.as (vv (Bt (lo:=p + 1) (hi:=p + 1 + m) (aa h0) (RE.as (eH (aa h1) aj) (congrArg D.int el)) (RE.as (eH (eH (aa h1) aj) (aa h3)) (congrArg D.int eh)) (by omega) (by omega))) (by unfold gX; rw [show p + 1 + m - (p + 1) = m by omega])) fun v4 H3 s3 h4=>?_
  refine aO (K:=K) (b:=false) (RT.as (ay (d5 (p:=fun i j=>decide (i < j)) (cq (aa h4)) (aa (s3.dat h3)))) (decide_eq_false (by rw [hb]; omega))) (fun c=>nomatch c) (fun _ H4 s4=>?_)
  exact aZ (K:=K) (d:=.tup [.str nm,.tup (gX cells p m)]) (ba (ae (aa (s4.dat (s3.dat h2))) (ae (aa (s4.dat h4)) ax))) fun v H' s q=>post v H' (s1.trans (s2.trans (s3.trans (s4.trans s)))) q
abbrev SS:List Str:=["put","far","load","add","sub","mul","less","more","twice","about"]
def B3 (rec:Nat→Option Bool) (pat:D) (cells:List D) (p:Nat):D→Option Bool
  | .int c=>(match nC c with
    | some (nm,m)=>if (gX cells p m).length = m then (if (!decide (nm ∈ SS) || !((gX cells p m).map (pU pat)).all id) = true then some false else rec (p + 1 + m)) else none
    | none=>none)
  | _=>none
def lD:Nat→D→List D→Nat→Option Bool
  | 0,_,_,_=>none
  | n + 1,pat,cells,p=>match cells[p]? with
    | none=>some true
    | some x=>if cu x 0 99 = false then some false else B3 (lD n pat cells) pat cells p x
def Ax (ds:List D) (d:D):Prop:=∃ (cells:List D) (pat:D) (b:Bool),ds = [.tup cells,pat]∧ppD 3 pat = true∧cells.length ≤ 100∧lD (cells.length + 1) pat cells 0 = some b∧d = .bl b
def CP (σ:L2.St) (_:Hp):Nat:=match σ[2]? with
  | some (some (V.int p))=>(200 - p).toNat
  | _=>0
theorem AJ {cells:List D} {p m:Nat}:(gX cells p m).length ≤ cells.length:=by
  unfold gX
  rw [List.length_take,List.length_drop]
  omega
theorem yB {cells:List D} {p m:Nat} (h:(gX cells p m).length = m) (hp:p < cells.length):p + 1 + m ≤ cells.length:=by
  unfold gX at h
  rw [List.length_take,List.length_drop] at h
  omega
theorem i5 (T:Txt P w K mg) (DQ:FnOk P w K mg base CX0 k T.D6 T.D8 ["thing","low","high"] (spD K fw)) (Iy:FnOk P w K mg base CX0 k T.DU T.DX ["cells","place"] (spD K vU)) (JY:FnOk P w K mg base CX0 k T.GO T.GS ["thing","pattern"] (spD K vS)):FnOk P w K mg base CX0 (k + 1) T.DD T.DE ["cells","pattern"] (spD K Ax):=by
  refine T.D9.ok sc_are_instructions (fun vs H Q E h=>?_) (fun cdv A outer s H vs Q E hr h=>?_)
  · obtain ⟨ds,d,hd,⟨cells,pat,bb,rfl,_⟩,_⟩:=h; exact hd.length.symm
  have nd:=sc_are_instructions.nd
  obtain ⟨ds,d,hd,⟨cells,pat,bb,rfl,hp,hl,hr2,rfl⟩,post⟩:=h
  obtain ⟨v0,v1,rfl,h0,h1⟩:=fO hd
  refine ⟨_,(ao (bz (i:=2) nd rfl (Or.inl rfl) ag)
  (ao (qT PassesOwn.never (aF nI (pv 2) (aA aH rfl T.De bI (ah (pv 0) af)) (aL _)) (ao (bj (bR (bq (az DQ hr rfl T.E2 T.Ea.kp (eZ T) .nil aY (ah (aE aI (pv 0) (pv 2) (fun _ _=>rfl)) (ah ag (ah (bg (v:=.int 99) rfl T.EA ⟨_,rfl⟩) af)))) (fun _=>rfl))) (au (aD cG)) aK)
  (ao (zw (au (hU (az Iy hr rfl T.He T.EF.kp (jY T) .nil aY (ah (pv 0) (ah (pv 2) af))) (gD rfl (bx (aV (i:=3) nd rfl (Or.inl rfl)) (bx (aV (i:=4) nd rfl (Or.inl rfl)) d8))))))
  (ao (bj (PW.pt (cQ (aF jK (pv 3) (bg (v:=.ref T.Hi) rfl T.Ft rfl) (by with_unfolding_all rfl)) (de (bR (bq (aA (gF rfl) rfl T.Jj j0 (ah (dO (own:=["cell"]) (fr:=[1]) (N':=["cell","pattern"]) (iN (pv 4)) rfl (by show cj ["cells","pattern","place","name","behind"] (fun x=>(aw cz).names.lookup x) _ _ _ _ = true; decide +kernel) rfl (fun _ _ _ _ _=>(aV (i:=0) (by show List.Nodup [("cell":Str),("pattern":Str)]; decide +kernel) rfl (Or.inl rfl))) (fun _ _ _ _ _=>bX) (fun _ _ _ _ _=>(az JY hr rfl T.Jp T.HQ.kp (uj T) .nil aY (ah (pv 0) (ah (pv 1) af))))) af)) (fun _=>rfl)))))) (au (aD cG)) aK)
  (au (xD (i:=2) nd rfl (Or.inl rfl) (bE dF ag (aA aH rfl T.De bI (ah (pv 4) af))) rT))))))
  (au (aD cG)))),?_⟩
  refine dt (x9 (cO (rA (fun σ G=>∃ (p n:Nat) (z3 z4:Option V),σ = [some v0,some v1,some (.int p),z3,z4]∧Same H G∧lD n pat cells p = some bb∧p ≤ cells.length) CP ?_ ?_ ?_)))
  · exact ⟨0,_,none,none,rfl,Same.refl _,hr2,Nat.zero_le _⟩
  · rintro σ G ⟨p,n,z3,z4,rfl,sG,ha,hpl⟩
    have g0:=sG.dat h0
    have g1:=sG.dat h1
    refine RT.use (b:=decide ((p:Int) < (cells.length:Int))) (ay (d5 (p:=fun i j=>decide (i < j)) (aa (K:=K) (Dat.intI (p:Int))) (cq (aa g0)))) fun G1 s1=>?_
    obtain ⟨n,rfl⟩:∃ m,n = m + 1:=by
      cases n with
      | zero=>cases ha
      | succ m=>exact ⟨m,rfl⟩
    by_cases hlt:p < cells.length
    · rw [decide_eq_true (by omega:(p:Int) < (cells.length:Int))]
      refine qx ?_
      have hx:cells[p]? = some cells[p]:=List.getElem?_eq_getElem hlt
      generalize cells[p] = x at hx
      have ha':(if cu x 0 99 = false then some false else B3 (lD n pat cells) pat cells p x) = some bb:=by
        have e:lD (n + 1) pat cells p = some bb:=ha
        unfold lD at e
        rw [hx] at e
        exact e
      have g0:=s1.dat g0
      have g1:=s1.dat g1
      refine aO (K:=K) (b:=!cu x 0 99) (bu (aW (bh (R:=fw) (ae (aN (k:=p) (aa g0) (aa (Dat.intI (p:Int))) hx) (ae aj (ae aj ax))) ⟨x,0,99,rfl,rfl⟩))) (fun cB G2 s2=>?_) (fun cB G2 s2=>?_)
      · rw [if_pos (gB cB)] at ha'
        cases ha'
        exact post _ _ (sG.trans (s1.trans s2)) (Dat.blI _)
      · have cw:=eF cB
        rw [if_neg (by rw [cw]; exact fun z=>nomatch z)] at ha'
        cases x with
        | int c =>
          have ha':(match nC c with
            | some (nm,m)=>if (gX cells p m).length = m then (if (!decide (nm ∈ SS) || !((gX cells p m).map (pU pat)).all id) = true then some false else lD n pat cells (p + 1 + m)) else none
            | none=>none) = some bb:=ha'
          have c0:0 ≤ c:=by
            have z:(decide (0 ≤ c) && decide (c ≤ 99)) = true:=cw
            rw [Bool.and_eq_true] at z
            exact of_decide_eq_true z.1
          cases hin:nC c with
          | none=>rw [hin] at ha'; cases ha'
          | some nm =>
            obtain ⟨nm,m⟩:=nm
            rw [hin] at ha'
            dsimp only at ha'
            by_cases hb:(gX cells p m).length = m
            · rw [if_pos hb] at ha'
              have g0:=s2.dat g0
              have g1:=s2.dat g1
              refine pw (K:=K) (d:=.str nm) (e:=.tup (gX cells p m)) (bh (R:=vU) (ae (aa g0) (ae (aa (Dat.intI (p:Int))) ax)) ⟨cells,p,c,nm,m,rfl,hx,c0,hin,hb,rfl⟩) fun v3 v4 G3 s3 g3 g4=>?_
              have g1:=s3.dat g1
              have lb:=AJ (cells:=cells) (p:=p) (m:=m)
              refine aO (K:=K) (b:=!decide (nm ∈ SS) || !((gX cells p m).map (pU pat)).all id) (bT (ay (vp (ys:=SS) (aa g3) (my T.IW))) fun _=>bu (aW (iT (o8 (aa g4) (by omega) _ (by simp) rfl (fun G4 i z vz d s4 hz hi hvz=>?_))))) (fun c2 G4 s4=>?_) (fun c2 G4 s4=>?_)
              · rw [List.getElem?_map,List.getElem?_map,hz] at hi
                cases hi
                exact bh (E:=E0) (R:=vS) (ae (aa hvz) (ae (aa (s4.dat g1)) ax)) ⟨z,pat,rfl,hp,rfl⟩
              · rw [if_pos c2] at ha'
                cases ha'
                exact post _ _ (sG.trans (s1.trans (s2.trans (s3.trans s4)))) (Dat.blI _)
              · rw [if_neg (by rw [c2]; exact Bool.false_ne_true)] at ha'
                refine ⟨_,rfl,RE.use (eH (K:=K) aj (cq (aa (s4.dat g4)))) fun v5 G5 s5 q5=>?_⟩
                refine ⟨p,1 + ((gX cells p m).length:Int),rfl,q5.intE,?_⟩
                have ep:(p:Int) + (1 + ((gX cells p m).length:Int)) = ((p + 1 + m:Nat):Int):=by rw [hb]; omega
                have he:=yB hb hlt
                refine ⟨⟨p + 1 + m,n,some v3,some v4,by rw [← ep]; rfl,sG.trans (s1.trans (s2.trans (s3.trans (s4.trans s5)))),ha',he⟩,?_⟩
                show (200 - ((p:Int) + (1 + ((gX cells p m).length:Int)))).toNat < (200 - (p:Int)).toNat
                omega
            · rw [if_neg hb] at ha'
              cases ha'
        | _=>cases ha'
    · rw [decide_eq_false (by omega:¬ (p:Int) < (cells.length:Int))]
      refine lU ?_
      have e:lD (n + 1) pat cells p = some true:=by
        unfold lD
        rw [List.getElem?_eq_none (by omega)]
      rw [e] at ha
      cases ha
      exact post _ _ (sG.trans s1) (Dat.blI _)
  · intro σ G Q1 Q2 hQ hc
    obtain ⟨v,e,v',e',p,ys,e2,hq,i,j,e3,e4,b,e5,q⟩:=hc
    exact ⟨v,e,v',e',p,ys,e2,hq,i,j,e3,e4,b,e5,hQ _ _ q⟩
def rW:D→Bool
  | .str x=>decide (x = "pick")
  | _=>false
def csD (pat:D):D→Option Bool
  | .tup l=>if (decide (1 ≤ (l.length:Int)) && decide ((l.length:Int) ≤ 12)) = false then some false else lD (l.length + 1) pat l 0
  | _=>some false
def mn:D→Option Bool
  | .tup [nm,pat,cs]=>if (!iL nm || (rW nm || !o2 pat)) = true then some false else csD pat cs
  | _=>some false
def CQ:D→Prop
  | .tup (nm :: _)=>Ag nm
  | _=>True
def rE (ds:List D) (d:D):Prop:=∃ (x:D) (b:Bool),ds = [x]∧CQ x∧mn x = some b∧d = .bl b
theorem t8 {K:PySem.W.Frag} {te:TE} {us:TS} {En:Ends} {σ:L2.St} {H:Hp} {i j l:Nat} {d e f:D} (h:RE K te σ H (.tup [d,e,f])) (q:∀ v w x H',Same H H'→Dat K H' d v→Dat K H' e w→Dat K H' f x→us En (((σ.set i (some v)).set j (some w)).set l (some x)) H') :
    jS (m5 te (rR K 3 (iu (cf i) (iu (cf j) (iu (cf l) uC))))) us En σ H :=
  h.use fun x H1 s1 q1=>by
    obtain ⟨a,vs,e1,hq,hd⟩:=q1.tupE
    obtain ⟨v,w,x,e2,hv,hw,hx⟩:=p6 hd
    subst e1 e2
    exact ⟨a,_,rfl,hq,rfl,v,_,rfl,w,_,rfl,x,_,rfl,rfl,q v w x H1 s1 hv hw hx⟩
theorem lS {x:D} (h:∀ y,x ≠ .tup y):ke x "tuple" = false:=by
  cases x with
  | tup y=>exact absurd rfl (h y)
  | _=>rfl
theorem xC {x:D} (h:∀ a b c,x ≠ .tup [a,b,c]):mn x = some false:=by
  unfold mn
  split
  · rename_i a b c; exact absurd rfl (h a b c)
  · rfl
theorem Bc {x:D} (h:o2 x = true):ppD 3 x = true:=by
  unfold o2 at h
  rw [Bool.and_eq_true] at h
  exact h.1
theorem wY {x:D} (h:iL x = true):∃ y,x = .str y:=by
  cases x with
  | str y=>exact ⟨y,rfl⟩
  | _=>cases h
theorem qM (T:Txt P w K mg) (J0:FnOk P w K mg base CX0 k T.GQ T.GU ["thing"] (spD K vW)) (Jv:FnOk P w K mg base CX0 k T.E9 T.Fe ["thing"] (spD K AC)) (Ie:FnOk P w K mg base CX0 k T.DD T.DE ["cells","pattern"] (spD K Ax)):FnOk P w K mg base CX0 (k + 1) T.Gk T.Gw ["thing"] (spD K rE):=by
  refine T.Hn.ok sc_is_piece (fun vs H Q E h=>?_) (fun cdv A outer s H vs Q E hr h=>?_)
  · obtain ⟨ds,d,hd,⟨x,bb,rfl,_⟩,_⟩:=h; exact hd.length.symm
  have nd:=sc_is_piece.nd
  obtain ⟨ds,d,hd,⟨x,bb,rfl,hok,hpc,rfl⟩,post⟩:=h
  obtain ⟨v0,rfl,h0⟩:=fZ hd
  refine ⟨_,(ao (bj (PW.pt (cQ (bR (bq (aA (dA fP) rfl T.C1 aQ (aS (pv 0) (aS (dM (v:=.ty "tuple") rfl T.Ei cV rfl) af))) (fun _=>rfl))) (de (aF gh (aA aH rfl T.De bI (ah (pv 0) af)) ag (aL _))))) (au (aD cG)) aK)
  (ao (hU (pv 0) (gD rfl (bx (aV (i:=1) nd rfl (Or.inl rfl)) (bx (aV (i:=2) nd rfl (Or.inl rfl)) (bx (aV (i:=3) nd rfl (Or.inl rfl)) d8)))))
  (ao (bj (PW.pt (cQ (bR (bq (az J0 hr rfl T.Jr T.HS.kp (um T) .nil aY (ah (pv 1) af)) (fun _=>rfl))) (cQ (aF cg (pv 1) aJ (aL _)) (de (bR (bq (az Jv hr rfl T.Iu T.F1.kp (oi T) .nil aY (ah (pv 2) af)) (fun _=>rfl))))))) (au (aD cG)) aK)
  (ao (bj (PW.pt (cQ (bR (bq (aA (dA fP) rfl T.C1 aQ (aS (pv 3) (aS (dM (v:=.ty "tuple") rfl T.Ei cV rfl) af))) (fun _=>rfl))) (de (bR (mx gJ gJ ag (aA aH rfl T.De bI (ah (pv 3) af)) (bg (v:=.int 12) rfl T.Dg ⟨_,rfl⟩)))))) (au (aD cG)) aK)
  (au (aD (az Ie hr rfl T.GB T.D9.kp (jc T) .nil aY (ah (pv 3) (ah (pv 2) af))))))))),?_⟩
  by_cases h3:∃ a b c,x = .tup [a,b,c]
  · obtain ⟨nm,pat,cs,rfl⟩:=h3
    refine aO (K:=K) (b:=false) (RT.as (bT (b:=false) (c:=false) (RT.as (bu (aW (bM (aa h0)))) rfl) fun _=>RT.as (ay (eO (cq (aa h0)) aj)) rfl) rfl) (fun c=>nomatch c) (fun _ H1 s1=>?_)
    refine t8 (K:=K) (d:=nm) (e:=pat) (f:=cs) (aa (s1.dat h0)) fun v1 v2 v3 H2 s2 h1 h2 h3=>?_
    have hpc':(if (!iL nm || (rW nm || !o2 pat)) = true then some false else csD pat cs) = some bb:=hpc
    refine aO (K:=K) (b:=!iL nm || (rW nm || !o2 pat)) (bT (bu (aW (bh (R:=vW) (ae (aa h1) ax) ⟨nm,rfl,hok,rfl⟩))) fun c=>bT ?_ fun _=>bu (aW (bh (R:=AC) (ae (aa h2) ax) ⟨pat,rfl,rfl⟩))) (fun c H3 s3=>?_) (fun c H3 s3=>?_)
    · obtain ⟨y,rfl⟩:=wY (eF c)
      exact ay (br (aa h1) aG)
    · rw [if_pos c] at hpc'
      cases hpc'
      exact aZ (K:=K) (d:=.bl false) dj fun v H' s q=>post v H' (s1.trans (s2.trans (s3.trans s))) q
    · rw [if_neg (by rw [c]; exact Bool.false_ne_true)] at hpc'
      rw [Bool.or_eq_false_iff,Bool.or_eq_false_iff] at c
      have hp:=Bc (eF c.2.2)
      have h2:=s3.dat h2
      have h3:=s3.dat h3
      have s13:=s1.trans (s2.trans s3)
      by_cases hc:∃ l,cs = .tup l
      · obtain ⟨l,rfl⟩:=hc
        have hpc':(if (decide (1 ≤ (l.length:Int)) && decide ((l.length:Int) ≤ 12)) = false then some false else lD (l.length + 1) pat l 0) = some bb:=hpc'
        refine aO (K:=K) (b:=!(decide (1 ≤ (l.length:Int)) && decide ((l.length:Int) ≤ 12))) (RT.as (bT (b:=false) (RT.as (bu (aW (bM (aa h3)))) rfl) fun _=>bu (ay (jM (p:=fun i j=>decide (i ≤ j)) (r:=fun i j=>decide (i ≤ j)) aj (cq (aa h3)) fun _=>aj))) (Bool.false_or _)) (fun c4 H4 s4=>?_) (fun c4 H4 s4=>?_)
        · rw [if_pos (gB c4)] at hpc'
          cases hpc'
          exact aZ (K:=K) (d:=.bl false) dj fun v H' s q=>post v H' (s13.trans (s4.trans s)) q
        · have c5:=eF c4
          rw [if_neg (by rw [c5]; exact fun z=>nomatch z)] at hpc'
          rw [Bool.and_eq_true] at c5
          have l12:=of_decide_eq_true c5.2
          exact aZ (K:=K) (d:=.bl bb) (bh (R:=Ax) (ae (aa (s4.dat h3)) (ae (aa (s4.dat h2)) ax)) ⟨l,pat,bb,rfl,hp,by omega,hpc',rfl⟩) fun v H' s q=>post v H' (s13.trans (s4.trans s)) q
      · have hc':∀ y,cs ≠ .tup y:=fun y e=>hc ⟨y,e⟩
        have e:bb = false:=by
          cases cs with
          | tup y=>exact absurd rfl (hc' y)
          | _=>cases hpc'; rfl
        refine aO (K:=K) (b:=true) (RT.as (bT (b:=true) (c:=true) (RT.as (bu (aW (bM (aa h3)))) (by rw [lS hc']; rfl)) fun c=>nomatch c) rfl) (fun c4 H4 s4=>?_) (fun c=>nomatch c)
        rw [e] at post
        exact aZ (K:=K) (d:=.bl false) dj fun v H' s q=>post v H' (s13.trans (s4.trans s)) q
  · have h3':∀ a b c,x ≠ .tup [a,b,c]:=fun a b c e=>h3 ⟨a,b,c,e⟩
    rw [xC h3'] at hpc
    cases hpc
    refine aO (K:=K) (b:=true) ?_ (fun c H1 s1=>?_) (fun c=>nomatch c)
    · by_cases ht:∃ l,x = .tup l
      · obtain ⟨l,rfl⟩:=ht
        refine RT.as (bT (b:=false) (c:=true) (RT.as (bu (aW (bM (aa h0)))) rfl) fun _=>RT.as (ay (eO (cq (aa h0)) aj)) ?_) rfl
        have:¬ (l.length:Int) = 3:=fun e=>by
          match l,e with
          | [a,b,c],_=>exact h3' a b c rfl
          | [],h=>simp at h
          | [_],h=>simp at h
          | [_,_],h=>simp at h
          | _ :: _ :: _ :: _ :: _,h=>simp at h; omega
        rw [decide_eq_false this]
        rfl
      · have ht':∀ y,x ≠ .tup y:=fun y e=>ht ⟨y,e⟩
        exact RT.as (bT (b:=true) (c:=true) (RT.as (bu (aW (bM (aa h0)))) (by rw [lS ht']; rfl)) fun c=>nomatch c) rfl
    · exact aZ (K:=K) (d:=.bl false) dj fun v H' s q=>post v H' (s1.trans s) q
end
end My
end
section
namespace My
open PySem L2 PyProof.Rows
section
variable {P:Program} {w:World} {K:PySem.W.Frag} {mg:Str→Option Value} {base:Heap} {k:Nat}
theorem kq {sp:Sp} {dvs:List V} {E:XK} {tA:TA} {σ:L2.St} {H:Hp} {Q:VK} (h:tA σ H fun vs H1=>sp (vs ++ dvs) H1 Q E):gQ sp dvs E tA σ H Q:=h
theorem d4 {te:TE} {tA:TA} {σ:L2.St} {H:Hp} {Q:List V→Hp→Prop} (h:te σ H fun x H1=>tA σ H1 fun xs H2=>Q (x :: xs) H2):bB te tA σ H Q:=h
inductive Pa where
  | hole (i:Int)
  | gap (i m:Int)
  | slot (i:Int)
  | num (n:Int)
  | two (o:Str) (a b:Pa)
def toP:Pa→D
  | .hole i=>.tup [.str "hole",.int i]
  | .gap i m=>.tup [.str "gap",.int i,.int m]
  | .slot i=>.tup [.str "slot",.int i]
  | .num n=>.tup [.str "num",.int n]
  | .two o a b=>.tup [.str o,toP a,toP b]
abbrev okB (o:Str):Prop:=o = "add"∨o = "sub"∨o = "mul"∨o = "less"
def fV:Pa→Prop
  | .num n=>0 ≤ n∧n ≤ 9999
  | .two o a b=>okB o∧fV a∧fV b
  | _=>True
def cx:Pa→Nat
  | .two _ a b=>max (cx a) (cx b) + 1
  | _=>1
theorem j5 (p:Pa):1 ≤ cx p:=by cases p <;> simp [cx]
abbrev Fnd:Type:=List Tr × List Int × List Int
def BO (f g:Fnd):Fnd:=(f.1 ++ g.1,f.2.1 ++ g.2.1,f.2.2 ++ g.2.2)
def bY:Pa→Tr→Option Fnd
  | .hole _,t=>some ([t],[],[])
  | .gap _ m,.num n=>if n ≤ m then some ([],[n],[]) else none
  | .gap _ _,_=>none
  | .slot _,.arg k=>some ([],[],[k])
  | .slot _,_=>none
  | .num n,.num m=>if m = n then some ([],[],[]) else none
  | .num _,_=>none
  | .two o a b,.two o' x y=>if o' = o then (match bY a x,bY b y with
    | some f,some g=>some (BO f g)
    | _,_=>none) else none
  | .two _ _ _,_=>none
def CM:Pa→Bool
  | .hole _=>true
  | .gap _ _=>true
  | .slot _=>true
  | _=>false
theorem wG (t:Tr) (ht:okT t):∃ kd r,toD t = .tup (.str kd :: r)∧(kd = "num"↔∃ n,t = .num n)∧(kd = "arg"↔∃ n,t = .arg n):=by
  cases t with
  | num n=>exact ⟨_,_,rfl,⟨fun _=>⟨n,rfl⟩,fun _=>rfl⟩,⟨fun e=>absurd e (by decide +kernel),fun ⟨m,e⟩=>nomatch e⟩⟩
  | arg n=>exact ⟨_,_,rfl,⟨fun e=>absurd e (by decide +kernel),fun ⟨m,e⟩=>nomatch e⟩,⟨fun _=>⟨n,rfl⟩,fun _=>rfl⟩⟩
  | two o a b =>
    have h:o = "add"∨o = "sub"∨o = "mul"∨o = "less":=ht.1
    refine ⟨_,_,rfl,⟨fun e=>?_,fun ⟨m,e⟩=>nomatch e⟩,⟨fun e=>?_,fun ⟨m,e⟩=>nomatch e⟩⟩
    · subst e; exact absurd h (by decide +kernel)
    · subst e; exact absurd h (by decide +kernel)
  | pick a b c=>exact ⟨_,_,rfl,⟨fun e=>absurd e (by decide +kernel),fun ⟨m,e⟩=>nomatch e⟩,⟨fun e=>absurd e (by decide +kernel),fun ⟨m,e⟩=>nomatch e⟩⟩
def jv (ds:List D) (d:D):Prop:=∃ p t,ds = [toP p,toD t]∧CM p = true∧okT t∧d = .bl (bY p t).isSome
theorem qr {i m:Int} {t:Tr} (h:∀ n,t ≠ .num n):bY (.gap i m) t = none:=by
  cases t with
  | num n=>exact absurd rfl (h n)
  | _=>rfl
theorem nP {i:Int} {t:Tr} (h:∀ n,t ≠ .arg n):bY (.slot i) t = none:=by
  cases t with
  | arg n=>exact absurd rfl (h n)
  | _=>rfl
theorem kn (T:Txt P w K mg)  : FnOk P w K mg base CX0 (k + 1) T.Ec T.Ee ["mark","tree"] (spD K jv):=by
  refine T.EU.ok sc_may_stand_for (fun vs H Q E h=>?_) (fun cdv A outer s H vs Q E hr h=>?_)
  · obtain ⟨ds,d,hd,⟨p,t,rfl,_⟩,_⟩:=h; exact hd.length.symm
  have nd:=sc_may_stand_for.nd
  obtain ⟨ds,d,hd,⟨p,t,rfl,hm,ht,rfl⟩,post⟩:=h
  obtain ⟨v0,v1,rfl,h0,h1⟩:=fO hd
  refine ⟨_,(ao (bj (aF cg (aE aI (pv 0) ag (fun _ _=>rfl)) aJ (aL _)) (au (aD (fC (bZ cg (aE aI (pv 1) ag (fun _ _=>rfl)) aJ (aL _)) (fD (bZ gJ (aE aI (pv 1) ag (fun _ _=>rfl)) (aE aI (pv 0) ag (fun _ _=>rfl)) (aL _)))))) aK)
  (au (aD (xu (bZ cg (aE aI (pv 0) ag (fun _ _=>rfl)) aJ (aL _)) (fD (bZ cg (aE aI (pv 1) ag (fun _ _=>rfl)) aJ (aL _))))))),?_⟩
  obtain ⟨kd,r,ek,hnum,harg⟩:=wG t ht
  have h1':Dat K H (.tup (.str kd :: r)) v1:=by rw [← ek]; exact h1
  cases p with
  | hole i =>
    have h0:Dat K H (.tup [.str "hole",.int i]) v0:=h0
    refine aO (K:=K) (b:=false) (RT.as (ay (br (aN (k:=0) (aa h0) aj rfl) aG)) (decide_eq_false (by decide +kernel))) (fun c=>nomatch c) (fun _ H1 s1=>?_)
    exact aZ (K:=K) (d:=.bl true) (RE.as (tZ (b:=true) (c:=true) (RE.as (br (aN (k:=0) (aa (s1.dat h0)) aj rfl) aG) (congrArg D.bl (decide_eq_true rfl))) fun c=>nomatch c) rfl) fun v H' s q=>post v H' (s1.trans s) q
  | gap i m =>
    have h0:Dat K H (.tup [.str "gap",.int i,.int m]) v0:=h0
    refine aO (K:=K) (b:=true) (RT.as (ay (br (aN (k:=0) (aa h0) aj rfl) aG)) (decide_eq_true rfl)) (fun _ H1 s1=>?_) (fun c=>nomatch c)
    by_cases hn:∃ n,t = .num n
    · obtain ⟨n,rfl⟩:=hn
      have h1:Dat K H (.tup [.str "num",.int n]) v1:=h1
      refine aZ (K:=K) (d:=.bl (decide (n ≤ m))) (RE.as (cm (b:=true) (RE.as (br (aN (k:=0) (aa (s1.dat h1)) aj rfl) aG) (congrArg D.bl (decide_eq_true rfl))) fun _=>d5 (p:=fun i j=>decide (i ≤ j)) (aN (k:=1) (aa (s1.dat h1)) aj rfl) (aN (k:=2) (aa (s1.dat h0)) aj rfl)) rfl) fun v H' s q=>post v H' (s1.trans s) ?_
      have e:(bY (.gap i m) (.num n)).isSome = decide (n ≤ m):=by
        show (if n ≤ m then some _ else none).isSome = _
        by_cases z:n ≤ m
        · rw [if_pos z,decide_eq_true z]; rfl
        · rw [if_neg z,decide_eq_false z]; rfl
      rw [e]
      exact q
    · refine aZ (K:=K) (d:=.bl false) (RE.as (cm (b:=false) (c:=true) (RE.as (br (aN (k:=0) (aa (s1.dat h1')) aj rfl) aG) (congrArg D.bl (decide_eq_false (fun e=>hn (hnum.mp e))))) fun c=>nomatch c) rfl) fun v H' s q=>post v H' (s1.trans s) ?_
      rw [qr fun n e=>hn ⟨n,e⟩]
      exact q
  | slot i =>
    have h0:Dat K H (.tup [.str "slot",.int i]) v0:=h0
    refine aO (K:=K) (b:=false) (RT.as (ay (br (aN (k:=0) (aa h0) aj rfl) aG)) (decide_eq_false (by decide +kernel))) (fun c=>nomatch c) (fun _ H1 s1=>?_)
    refine aZ (K:=K) (d:=.bl (decide (kd = "arg"))) (RE.as (tZ (b:=false) (RE.as (br (aN (k:=0) (aa (s1.dat h0)) aj rfl) aG) (congrArg D.bl (decide_eq_false (by decide +kernel)))) fun _=>br (aN (k:=0) (aa (s1.dat h1')) aj rfl) aG) (congrArg D.bl (Bool.false_or _))) fun v H' s q=>post v H' (s1.trans s) ?_
    by_cases ha:∃ n,t = .arg n
    · rw [decide_eq_true (harg.mpr ha)] at q
      obtain ⟨n,rfl⟩:=ha
      exact q
    · rw [decide_eq_false (fun e=>ha (harg.mp e))] at q
      rw [nP fun n e=>ha ⟨n,e⟩]
      exact q
  | num n=>cases hm
  | two o a b=>cases hm
def iP (K:PySem.W.Frag) (o:Addr→Addr→Addr→HO) (n:Nat):Sp:=fun vs H Q _=>∃ (p:Pa) (t:Tr) (v0 v1:V) (f l0 l1 l2:Addr) (a b c:List V),vs = [v0,v1,.ref f]∧fV p∧okT t∧aR t ≤ 8∧cx p ≤ n∧n ≤ 3∧Dat K H (toP p) v0∧Dat K H (toD t) v1 ∧
  H f = some (o l0 l1 l2)∧f ≠ l0∧f ≠ l1∧f ≠ l2∧Tri l0 l1 l2 H a b c∧a.length + 2 ^ n ≤ 100∧b.length + 2 ^ n ≤ 100∧c.length + 2 ^ n ≤ 100 ∧
  ∀ (H':Hp) (a' b' c':List V),But3 l0 l1 l2 H H'→Tri l0 l1 l2 H' (a ++ a') (b ++ b') (c ++ c')→a'.length ≤ 2 ^ n→b'.length ≤ 2 ^ n→c'.length ≤ 2 ^ n →
    (∀ fd:Fnd,bY p t = some fd→Dats K H' (fd.1.map toD) a'∧Dats K H' (fd.2.1.map D.int) b'∧Dats K H' (fd.2.2.map D.int) c')→Q (.bl (bY p t).isSome) H'
def oD (l0 l1 l2:Addr):HO:=.dK [(Sum.inr "hole",.ref l0),(Sum.inr "gap",.ref l1),(Sum.inr "slot",.ref l2)]
theorem tQ (l0 l1 l2:Addr):jt ([(Sum.inr "hole",V.ref l0),(Sum.inr "gap",.ref l1),(Sum.inr "slot",.ref l2)]:List (Key × V)) (Sum.inr "hole") = some (.ref l0):=rfl
theorem xj (l0 l1 l2:Addr):jt ([(Sum.inr "hole",V.ref l0),(Sum.inr "gap",.ref l1),(Sum.inr "slot",.ref l2)]:List (Key × V)) (Sum.inr "gap") = some (.ref l1):=rfl
theorem tR (l0 l1 l2:Addr):jt ([(Sum.inr "hole",V.ref l0),(Sum.inr "gap",.ref l1),(Sum.inr "slot",.ref l2)]:List (Key × V)) (Sum.inr "slot") = some (.ref l2):=rfl
theorem wD {H:Hp} {f:Addr} {kvs:List (Key × V)} {x:Str} {v:V} (h:H f = some (.dK kvs)) (e:jt kvs (Sum.inr x) = some v):DGet H f (.str x) (some v):=by
  have g:=DGet.k (k:=Sum.inr x) h
  rw [e] at g
  exact g
theorem mK {k:Str} (h:k = "hole"∨k = "gap"∨k = "slot"):KTD.inKeys k TM = true:=by
  rcases h with rfl | rfl | rfl <;> decide +kernel
theorem yA {o:Str} (h:okB o):KTD.inKeys o TM = false∧¬ o = "num":=by
  rcases h with rfl | rfl | rfl | rfl <;> decide +kernel
theorem xH (n:Nat):1 ≤ 2 ^ n:=Nat.one_le_iff_ne_zero.mpr (by simp)
theorem ko {n:Nat} {α:Type} {x y:List α} (h1:x.length ≤ 2 ^ n) (h2:y.length ≤ 2 ^ n):(x ++ y).length ≤ 2 ^ (n + 1):=by
  rw [List.length_append,Nat.pow_succ]; omega
theorem dk {o o':Str} {a b:Pa} {x y:Tr} {fd:Fnd} (h:bY (.two o a b) (.two o' x y) = some fd):o' = o∧∃ f g,bY a x = some f∧bY b y = some g∧fd = BO f g:=by
  unfold bY at h
  by_cases e:o' = o
  · rw [if_pos e] at h
    cases h1:bY a x with
    | none=>rw [h1] at h; cases h
    | some f =>
      cases h2:bY b y with
      | none=>rw [h1,h2] at h; cases h
      | some g =>
        rw [h1,h2] at h
        cases h
        exact ⟨e,f,g,rfl,rfl,rfl⟩
  · rw [if_neg e] at h; cases h
theorem gd {o:Str} {a b:Pa} {x y:Tr} (h:bY a x = none):bY (.two o a b) (.two o x y) = none:=by
  unfold bY
  rw [if_pos rfl,h]
theorem lP {o:Str} {a b:Pa} {x y:Tr} {f:Fnd} (h:bY a x = some f):(bY (.two o a b) (.two o x y)).isSome = (bY b y).isSome:=by
  show (if o = o then _ else none:Option Fnd).isSome = _
  rw [if_pos rfl,h]
  cases bY b y <;> rfl
theorem qk {o kd:Str} {a b:Pa} {t:Tr} {r:List D} (hp:okB o) (ek:toD t = .tup (.str kd :: r)) (h:¬ kd = o):bY (.two o a b) t = none:=by
  cases t with
  | two o' x y =>
    unfold bY
    rw [if_neg]
    intro e
    apply h
    have z:toD (.two o' x y) = .tup [.str o',toD x,toD y]:=rfl
    rw [z] at ek
    injection ek with ek
    injection ek with ek _
    injection ek with ek
    rw [← ek,e]
  | _=>rfl
theorem qv {o kd:Str} {t:Tr} {r:List D} (ho:okB o) (ek:toD t = .tup (.str kd :: r)) (h:kd = o):∃ x y,t = .two o x y:=by
  subst h
  cases t with
  | two o' x y =>
    have z:toD (.two o' x y) = .tup [.str o',toD x,toD y]:=rfl
    rw [z] at ek
    injection ek with ek
    injection ek with ek _
    injection ek with ek
    subst ek
    exact ⟨x,y,rfl⟩
  | num n =>
    have z:toD (.num n) = .tup [.str "num",.int n]:=rfl
    rw [z] at ek
    injection ek with ek
    injection ek with ek _
    injection ek with ek
    subst ek
    exact absurd ho (by decide +kernel)
  | arg n =>
    have z:toD (.arg n) = .tup [.str "arg",.int n]:=rfl
    rw [z] at ek
    injection ek with ek
    injection ek with ek _
    injection ek with ek
    subst ek
    exact absurd ho (by decide +kernel)
  | pick x y u =>
    have z:toD (.pick x y u) = .tup [.str "pick",toD x,toD y,toD u]:=rfl
    rw [z] at ek
    injection ek with ek
    injection ek with ek _
    injection ek with ek
    subst ek
    exact absurd ho (by decide +kernel)
theorem tP {o:Addr→Addr→Addr→HO} (vs:List V) (H:Hp) (Q:VK) (E:XK):¬ iP K o 0 vs H Q E:=fun ⟨p,_,_,_,_,_,_,_,_,_,_,_,_,_,_,h,_⟩=>by
  have:=j5 p
  omega
theorem sr (T:Txt P w K mg) {n:Nat} (IR:FnOk P w K mg base CX0 k T.Ec T.Ee ["mark","tree"] (spD K jv)) (HP:FnOk P w K mg base CX0 k T.Fk T.Fl ["pattern","tree","found"] (iP K oD n)):FnOk P w K mg base CX0 (k + 1) T.Fk T.Fl ["pattern","tree","found"] (iP K oD (n + 1)):=by
  refine T.Ga.ok sc_matches (fun vs H Q E h=>?_) (fun cdv A outer s H vs Q E hr h=>?_)
  · obtain ⟨p,t,v0,v1,f,l0,l1,l2,a,b,c,rfl,_⟩:=h; rfl
  have nd:=sc_matches.nd
  obtain ⟨p,t,v0,v1,f,l0,l1,l2,a,b,c,rfl,okp,okt,dpt,hn,hn3,h0,h1,hf,f0,f1,f2,tri,la,lb,lc,post⟩:=h
  refine ⟨_,(ao (bz (i:=3) nd rfl (Or.inl rfl) (aE aI (pv 0) ag (fun _ _=>rfl)))
  (ao (bj (aF jJ (pv 3) (bg (v:=.ref T.DC) rfl T.Dj rfl) (by with_unfolding_all rfl)) (ao (bj (bR (bq (az IR hr rfl T.Hw T.EU.kp (kP T) .nil aY (ah (pv 0) (ah (pv 1) af))) (fun _=>rfl))) (au (aD cG)) aK)
  (ao (bF (cZ PySem.F.plainAttrs_list PySem.F.slot_list_append PySem.F.type_list_append bL (kX (tJ hr) (pv 2) (pv 3) (fun _ _=>rfl)) (ah (gK (aF cg (pv 3) aJ (aL _)) (pv 1) (aE aI (pv 1) ag (fun _ _=>rfl))) af)))
  (au (aD cG)))) aK)
  (ao (bj (aF gh (aE aI (pv 1) ag (fun _ _=>rfl)) (pv 3) (aL _)) (au (aD cG)) aK)
  (ao (bj (aF cg (pv 3) aJ (aL _)) (au (aD (bZ cg (aE aI (pv 1) ag (fun _ _=>rfl)) (aE aI (pv 0) ag (fun _ _=>rfl)) (aL _)))) aK)
  (au (aD (fC (az HP hr rfl T.HZ T.Ga.kp (jZ T) .nil aY (ah (aE aI (pv 0) ag (fun _ _=>rfl)) (ah (aE aI (pv 1) ag (fun _ _=>rfl)) (ah (pv 2) af)))) (fD (az HP hr rfl T.HZ T.Ga.kp (jZ T) .nil aY (ah (aE aI (pv 0) ag (fun _ _=>rfl)) (ah (aE aI (pv 1) ag (fun _ _=>rfl)) (ah (pv 2) af)))))))))))),?_⟩
  obtain ⟨kd,r,ek,hnum,harg⟩:=wG t okt
  have hf':∀ {G:Hp},But3 l0 l1 l2 H G→G f = some (oD l0 l1 l2):=fun bb=>bb _ _ f0 f1 f2 hf
  have p1:=xH (n + 1)
  have p2:2 ^ (n + 1) = 2 * 2 ^ n:=by rw [Nat.pow_succ,Nat.mul_comm]
  cases p with
  | hole i =>
    have h0:Dat K H (.tup [.str "hole",.int i]) v0:=h0
    refine dP (K:=K) (d:=.str "hole") (aN (k:=0) (aa h0) aj rfl) fun v3 H1 s1 q3=>?_
    have ev:=q3.strE
    subst ev
    refine aO (K:=K) (b:=true) (RT.as (ay (ft (aa q3) T.C5)) (mK (.inl rfl))) (fun _ H2 s2=>?_) (fun c=>nomatch c)
    have s12:=s1.trans s2
    refine aO (K:=K) (b:=!true) (bu (aW (bh (R:=jv) (d:=.bl true) (ae (aa (s12.dat h0)) (ae (aa (s12.dat h1)) ax)) ⟨.hole i,t,rfl,rfl,okt,rfl⟩))) (fun c=>nomatch c) (fun _ H3 s3=>?_)
    have s13:=s12.trans s3
    refine cO ⟨_,rfl,_,rfl,f,.ref l0,rfl,wD (s13 _ _ hf) (tQ l0 l1 l2),.inl ⟨rfl,_,SqL.of (s13 _ _ tri.h0)⟩,?_⟩
    refine RE.use (K:=K) (d:=toD t) (mz (b:=true) (RT.as (ay (K:=K) (br (aa (Dat.strI "hole")) aG)) (decide_eq_true rfl)) (fun _=>aa (s13.dat h1)) (fun c=>nomatch c)) fun y H4 s4 q4=>?_
    have s14:=s13.trans s4
    have tri4:=tri.same s14
    refine ⟨l0,a,y,rfl,rfl,tri4.h0,bQ (by omega),?_⟩
    obtain ⟨t5,b5⟩:=tri4.p0 (v:=y)
    refine post _ [y] [] [] (s14.but3.trans b5) t5 (by simpa using p1) (by simp) (by simp) fun fd e=>?_
    cases e
    exact ⟨Dats.cons (Dat.mono (b5.grow tri4 t5) _ q4) Dats.nil,Dats.nil,Dats.nil⟩
  | gap i m =>
    have h0:Dat K H (.tup [.str "gap",.int i,.int m]) v0:=h0
    refine dP (K:=K) (d:=.str "gap") (aN (k:=0) (aa h0) aj rfl) fun v3 H1 s1 q3=>?_
    have ev:=q3.strE
    subst ev
    refine aO (K:=K) (b:=true) (RT.as (ay (ft (aa q3) T.C5)) (mK (.inr (.inl rfl)))) (fun _ H2 s2=>?_) (fun c=>nomatch c)
    have s12:=s1.trans s2
    refine aO (K:=K) (b:=!(bY (.gap i m) t).isSome) (bu (aW (bh (R:=jv) (ae (aa (s12.dat h0)) (ae (aa (s12.dat h1)) ax)) ⟨.gap i m,t,rfl,rfl,okt,rfl⟩))) (fun cN H3 s3=>?_) (fun cS H3 s3=>?_)
    · have s13:=s12.trans s3
      have e:(bY (.gap i m) t).isSome = false:=gB cN
      refine aZ (K:=K) (d:=.bl false) dj fun v H' s qq=>?_
      rw [qq.blE,← e]
      have s14:=s13.trans s
      exact post _ [] [] [] s14.but3 (tri.same s14).nil (by simp) (by simp) (by simp) fun fd z=>by rw [z] at e; cases e
    · have s13:=s12.trans s3
      obtain ⟨nn,rfl⟩:∃ nn,t = .num nn:=by
        have cS':=eF cS
        cases t with
        | num nn=>exact ⟨nn,rfl⟩
        | _=>cases cS'
      have h1:Dat K H (.tup [.str "num",.int nn]) v1:=h1
      refine cO ⟨_,rfl,_,rfl,f,.ref l1,rfl,wD (s13 _ _ hf) (xj l0 l1 l2),.inl ⟨rfl,_,SqL.of (s13 _ _ tri.h1)⟩,?_⟩
      refine RE.use (K:=K) (d:=.int nn) (mz (b:=false) (RT.as (ay (K:=K) (br (aa (Dat.strI "gap")) aG)) (decide_eq_false (by decide +kernel))) (fun c=>nomatch c) (fun _=>aN (k:=1) (aa (s13.dat h1)) aj rfl)) fun y H4 s4 q4=>?_
      have s14:=s13.trans s4
      have tri4:=tri.same s14
      refine ⟨l1,b,y,rfl,rfl,tri4.h1,bQ (by omega),?_⟩
      obtain ⟨t5,b5⟩:=tri4.p1 (v:=y)
      have e:=eF cS
      show Q (.bl true) _
      rw [← e]
      refine post _ [] [y] [] (s14.but3.trans b5) t5 (by simp) (by simpa using p1) (by simp) fun fd z=>?_
      have z':(if nn ≤ m then some ([],[nn],[]) else none:Option Fnd) = some fd:=z
      by_cases hm:nn ≤ m
      · rw [if_pos hm] at z'
        cases z'
        exact ⟨Dats.nil,Dats.cons (Dat.mono (b5.grow tri4 t5) _ q4) Dats.nil,Dats.nil⟩
      · rw [if_neg hm] at z'
        cases z'
  | slot i =>
    have h0:Dat K H (.tup [.str "slot",.int i]) v0:=h0
    refine dP (K:=K) (d:=.str "slot") (aN (k:=0) (aa h0) aj rfl) fun v3 H1 s1 q3=>?_
    have ev:=q3.strE
    subst ev
    refine aO (K:=K) (b:=true) (RT.as (ay (ft (aa q3) T.C5)) (mK (.inr (.inr rfl)))) (fun _ H2 s2=>?_) (fun c=>nomatch c)
    have s12:=s1.trans s2
    refine aO (K:=K) (b:=!(bY (.slot i) t).isSome) (bu (aW (bh (R:=jv) (ae (aa (s12.dat h0)) (ae (aa (s12.dat h1)) ax)) ⟨.slot i,t,rfl,rfl,okt,rfl⟩))) (fun cN H3 s3=>?_) (fun cS H3 s3=>?_)
    · have s13:=s12.trans s3
      have e:(bY (.slot i) t).isSome = false:=gB cN
      refine aZ (K:=K) (d:=.bl false) dj fun v H' s qq=>?_
      rw [qq.blE,← e]
      have s14:=s13.trans s
      exact post _ [] [] [] s14.but3 (tri.same s14).nil (by simp) (by simp) (by simp) fun fd z=>by rw [z] at e; cases e
    · have s13:=s12.trans s3
      obtain ⟨nn,rfl⟩:∃ nn,t = .arg nn:=by
        have cS':=eF cS
        cases t with
        | arg nn=>exact ⟨nn,rfl⟩
        | _=>cases cS'
      have h1:Dat K H (.tup [.str "arg",.int nn]) v1:=h1
      refine cO ⟨_,rfl,_,rfl,f,.ref l2,rfl,wD (s13 _ _ hf) (tR l0 l1 l2),.inl ⟨rfl,_,SqL.of (s13 _ _ tri.h2)⟩,?_⟩
      refine RE.use (K:=K) (d:=.int nn) (mz (b:=false) (RT.as (ay (K:=K) (br (aa (Dat.strI "slot")) aG)) (decide_eq_false (by decide +kernel))) (fun c=>nomatch c) (fun _=>aN (k:=1) (aa (s13.dat h1)) aj rfl)) fun y H4 s4 q4=>?_
      have s14:=s13.trans s4
      have tri4:=tri.same s14
      refine ⟨l2,c,y,rfl,rfl,tri4.h2,bQ (by omega),?_⟩
      obtain ⟨t5,b5⟩:=tri4.p2 (v:=y)
      have e:=eF cS
      show Q (.bl true) _
      rw [← e]
      refine post _ [] [] [y] (s14.but3.trans b5) t5 (by simp) (by simp) (by simpa using p1) fun fd z=>?_
      cases z
      exact ⟨Dats.nil,Dats.nil,Dats.cons (Dat.mono (b5.grow tri4 t5) _ q4) Dats.nil⟩
  | num m =>
    have h0:Dat K H (.tup [.str "num",.int m]) v0:=h0
    have h1':Dat K H (.tup (.str kd :: r)) v1:=by rw [← ek]; exact h1
    refine dP (K:=K) (d:=.str "num") (aN (k:=0) (aa h0) aj rfl) fun v3 H1 s1 q3=>?_
    refine aO (K:=K) (b:=false) (RT.as (ay (ft (aa q3) T.C5)) (by decide +kernel)) (fun c=>nomatch c) (fun _ H2 s2=>?_)
    have s12:=s1.trans s2
    refine aO (K:=K) (b:=!decide (kd = "num")) (ay (pe (aN (k:=0) (aa (s12.dat h1')) aj rfl) (aa (s2.dat q3)))) (fun cN H3 s3=>?_) (fun cS H3 s3=>?_)
    · have s13:=s12.trans s3
      have hne:¬ kd = "num":=of_decide_eq_false (gB cN)
      have e:bY (.num m) t = none:=by
        cases t with
        | num n=>exact absurd (hnum.mpr ⟨n,rfl⟩) hne
        | _=>rfl
      refine aZ (K:=K) (d:=.bl false) dj fun v H' s qq=>?_
      rw [qq.blE]
      have s14:=s13.trans s
      have pz:=post _ [] [] [] s14.but3 (tri.same s14).nil (by simp) (by simp) (by simp) fun fd z=>by rw [e] at z; cases z
      rw [e] at pz
      exact pz
    · have s13:=s12.trans s3
      obtain ⟨nn,rfl⟩:=hnum.mp (of_decide_eq_true (eF cS))
      have h1:Dat K H (.tup [.str "num",.int nn]) v1:=h1
      refine aO (K:=K) (b:=true) (RT.as (ay (br (aa ((s2.trans s3).dat q3)) aG)) (decide_eq_true rfl)) (fun _ H4 s4=>?_) (fun c=>nomatch c)
      have s14:=s13.trans s4
      refine aZ (K:=K) (d:=.bl (decide (nn = m))) (o9 (aN (k:=1) (aa (s14.dat h1)) aj rfl) (aN (k:=1) (aa (s14.dat h0)) aj rfl)) fun v H' s qq=>?_
      rw [qq.blE]
      have s15:=s14.trans s
      have pz:=post _ [] [] [] s15.but3 (tri.same s15).nil (by simp) (by simp) (by simp) fun fd z=>by
        have z':(if nn = m then some ([],[],[]) else none:Option Fnd) = some fd:=z
        by_cases hm:nn = m
        · rw [if_pos hm] at z'
          cases z'
          exact ⟨Dats.nil,Dats.nil,Dats.nil⟩
        · rw [if_neg hm] at z'
          cases z'
      have e:(bY (.num m) (.num nn)).isSome = decide (nn = m):=by
        show (if nn = m then some _ else none:Option Fnd).isSome = _
        by_cases hm:nn = m
        · rw [if_pos hm,decide_eq_true hm]; rfl
        · rw [if_neg hm,decide_eq_false hm]; rfl
      rw [e] at pz
      exact pz
  | two o pa pb =>
    have h0:Dat K H (.tup [.str o,toP pa,toP pb]) v0:=h0
    have h1':Dat K H (.tup (.str kd :: r)) v1:=by rw [← ek]; exact h1
    obtain ⟨b1,b2⟩:=yA okp.1
    refine dP (K:=K) (d:=.str o) (aN (k:=0) (aa h0) aj rfl) fun v3 H1 s1 q3=>?_
    refine aO (K:=K) (b:=false) (RT.as (ay (ft (aa q3) T.C5)) b1) (fun c=>nomatch c) (fun _ H2 s2=>?_)
    have s12:=s1.trans s2
    refine aO (K:=K) (b:=!decide (kd = o)) (ay (pe (aN (k:=0) (aa (s12.dat h1')) aj rfl) (aa (s2.dat q3)))) (fun cN H3 s3=>?_) (fun cS H3 s3=>?_)
    · have s13:=s12.trans s3
      have e:=qk (a:=pa) (b:=pb) okp.1 ek (of_decide_eq_false (gB cN))
      refine aZ (K:=K) (d:=.bl false) dj fun v H' s qq=>?_
      rw [qq.blE]
      have s14:=s13.trans s
      have pz:=post _ [] [] [] s14.but3 (tri.same s14).nil (by simp) (by simp) (by simp) fun fd z=>by rw [e] at z; cases z
      rw [e] at pz
      exact pz
    · have s13:=s12.trans s3
      obtain ⟨x,y,rfl⟩:=qv okp.1 ek (of_decide_eq_true (eF cS))
      have h1:Dat K H (.tup [.str o,toD x,toD y]) v1:=h1
      refine aO (K:=K) (b:=false) (RT.as (ay (br (aa ((s2.trans s3).dat q3)) aG)) (decide_eq_false b2)) (fun c=>nomatch c) (fun _ H4 s4=>?_)
      have s14:=s13.trans s4
      have dpa:cx pa ≤ n:=by simp only [cx] at hn; omega
      have dpb:cx pb ≤ n:=by simp only [cx] at hn; omega
      have dpx:aR x ≤ 8:=by simp only [aR] at dpt; omega
      have dpy:aR y ≤ 8:=by simp only [aR] at dpt; omega
      refine RE.use (K:=K) (d:=toP pa) (aN (k:=1) (aa (s14.dat h0)) aj rfl) fun w0 H5 s5 q5=>?_
      refine RE.use (K:=K) (d:=toD x) (aN (k:=1) (aa ((s14.trans s5).dat h1)) aj rfl) fun w1 H6 s6 q6=>?_
      have s16:=s14.trans (s5.trans s6)
      have tri6:=tri.same s16
      refine ⟨_,rfl,pa,x,w0,w1,f,l0,l1,l2,a,b,c,rfl,okp.2.1,okt.2.1,dpx,dpa,by omega,s6.dat q5,q6,s16 _ _ hf,f0,f1,f2,tri6,by omega,by omega,by omega,fun H7 a1 b1' c1 bb7 tri7 ka kb kc d7=>?_⟩
      refine ⟨_,rfl,?_⟩
      have n8:2 ^ n ≤ 8:=by
        have:n ≤ 3:=by omega
        match n,this with
        | 0,_=>decide
        | 1,_=>decide
        | 2,_=>decide
        | 3,_=>decide
      have g67:dv K H6 H7:=bb7.grow tri6 tri7
      have bb17:But3 l0 l1 l2 H H7:=s16.but3.trans bb7
      cases hfa:bY pa x with
      | none =>
        refine lU ?_
        have pz:=post H7 a1 b1' c1 bb17 tri7 (Nat.le_trans ka (Nat.pow_le_pow_right (by decide) (by omega))) (Nat.le_trans kb (Nat.pow_le_pow_right (by decide) (by omega))) (Nat.le_trans kc (Nat.pow_le_pow_right (by decide) (by omega))) fun fd z=>by rw [gd hfa] at z; cases z
        rw [gd hfa] at pz
        exact pz
      | some fa =>
        refine qx ?_
        obtain ⟨da,db,dc⟩:=d7 fa hfa
        refine kq (d4 (RE.use (K:=K) (d:=toP pb) (aN (k:=2) (aa (Dat.mono g67 _ (s16.dat h0))) aj rfl) fun w2 H8 s8 q8=>?_))
        refine d4 (RE.use (K:=K) (d:=toD y) (aN (k:=2) (aa (s8.dat (Dat.mono g67 _ (s16.dat h1)))) aj rfl) fun w3 H9 s9 q9=>?_)
        have s79:=s8.trans s9
        have tri9:=tri7.same s79
        refine ⟨_,rfl,pb,y,w2,w3,f,l0,l1,l2,a ++ a1,b ++ b1',c ++ c1,rfl,okp.2.2,okt.2.2,dpy,dpb,by omega,s9.dat q8,q9,s79 _ _ (hf' bb17),f0,f1,f2,tri9,by rw [List.length_append]; omega,by rw [List.length_append]; omega,by rw [List.length_append]; omega,fun H10 a2 b2' c2 bb10 tri10 ma mb mc d10=>?_⟩
        have g:=bb10.grow (K:=K) tri9 tri10
        rw [List.append_assoc,List.append_assoc,List.append_assoc] at tri10
        have pz:=post H10 (a1 ++ a2) (b1' ++ b2') (c1 ++ c2) (bb17.trans (s79.but3.trans bb10)) tri10 (ko ka ma) (ko kb mb) (ko kc mc) fun fd z=>by
          obtain ⟨_,f',g',e1,e2,e3⟩:=dk z
          rw [hfa] at e1
          cases e1
          obtain ⟨da2,db2,dc2⟩:=d10 g' e2
          subst e3
          refine ⟨?_,?_,?_⟩
          · show Dats K H10 ((fa.1 ++ g'.1).map toD) _
            rw [List.map_append]
            exact Dats.append (Dats.mono g _ (s79.dats da)) da2
          · show Dats K H10 ((fa.2.1 ++ g'.2.1).map D.int) _
            rw [List.map_append]
            exact Dats.append (Dats.mono g _ (s79.dats db)) db2
          · show Dats K H10 ((fa.2.2 ++ g'.2.2).map D.int) _
            rw [List.map_append]
            exact Dats.append (Dats.mono g _ (s79.dats dc)) dc2
        rw [lP hfa] at pz
        exact pz
end
end My
end
section
namespace My
open PySem L2 PyProof.Rows
section
variable {P:Program} {w:World} {K:PySem.W.Frag} {mg:Str→Option Value} {base:Heap} {k:Nat}
def fdD:Option Fnd→D
  | none=>.non
  | some f=>.tup [.tup (f.1.map toD),.tup (f.2.1.map D.int),.tup (f.2.2.map D.int)]
def rD (ds:List D) (d:D):Prop:=∃ nm p cs t,ds = [.tup [nm,toP p,cs],toD t]∧fV p∧okT t∧aR t ≤ 8∧cx p ≤ 3∧d = fdD (bY p t)
theorem A7 (x y z:V):kh [] ([(Sum.inr (Str.ofString "hole"),x),(Sum.inr (Str.ofString "gap"),y),(Sum.inr (Str.ofString "slot"),z)]:List (Key × V)) = [(Sum.inr (Str.ofString "hole"),x),(Sum.inr (Str.ofString "gap"),y),(Sum.inr (Str.ofString "slot"),z)]:=rfl
theorem Cd {K:PySem.W.Frag} {te:TE} {ts us:TS} {En:Ends} {σ:L2.St} {H:Hp} (h:te σ H fun x H'=>∃ k,vZ K x H' k∧if (!k) = true then ts { En with nx:=us En } σ H' else us En σ H'):jS (zQ (BF (fun σ H Q=>te σ H fun x H'=>∃ k,vZ K x H' k∧Q k H')) ts uc) us En σ H:=h
theorem qL (T:Txt P w K mg) (HP:FnOk P w K mg base CX0 k T.Fk T.Fl ["pattern","tree","found"] (iP K oD 3)):FnOk P w K mg base CX0 (k + 1) T.Gj T.Gv ["piece","tree"] (spD K rD):=by
  refine T.Hm.ok sc_found_in (fun vs H Q E h=>?_) (fun cdv A outer s H vs Q E hr h=>?_)
  · obtain ⟨ds,d,hd,⟨nm,p,cs,t,rfl,_⟩,_⟩:=h; exact hd.length.symm
  have nd:=sc_found_in.nd
  obtain ⟨ds,d,hd,⟨nm,p,cs,t,rfl,okp,okt,dpt,dpp,rfl⟩,post⟩:=h
  obtain ⟨v0,v1,rfl,h0,h1⟩:=fO hd
  refine' ⟨_,?ybody,?yread⟩
  case ybody =>
    refine' ao ?y26 ?y27
    case y26 =>
      refine' bz (i:=2) ?y15 ?y16 ?y17 ?y18
      case y15=>exact nd
      case y16=>exact rfl
      case y17=>exact Or.inl rfl
      case y18 =>
        refine' zr ?y10 ?y11 ?y12 ?y13 ?y14
        case y10 =>
          refine' mw ?y7 ?y8 ?y9
          case y7=>exact aJ
          case y8=>exact (bC af)
          case y9 =>
            refine' mw ?y4 ?y5 ?y6
            case y4=>exact aJ
            case y5=>exact (bC af)
            case y6 =>
              refine' mw ?y1 ?y2 ?y3
              case y1=>exact aJ
              case y2=>exact (bC af)
              case y3=>exact zu
        case y11=>exact rfl
        case y12=>exact rfl
        case y13=>simp
        case y14=>decide
    case y27 =>
      refine' ao ?y24 ?y25
      case y24 =>
        refine' bj ?y20 ?y21 ?y22
        case y20=>exact (bR (bq (az HP hr rfl T.HZ T.Ga.kp (jZ T) .nil aY (ah (aE aI (pv 0) ag (fun _ _=>rfl)) (ah (pv 1) (ah (pv 2) af)))) (fun _=>rfl)))
        case y21 =>
          refine' au ?y19
          case y19=>exact (aD dn)
        case y22=>exact aK
      case y25 =>
        refine' au ?y23
        case y23=>exact (aD (aX (ah (dN dC rfl T.Ei cV (ah (kX (tJ hr) (pv 2) aJ (fun _ _=>rfl)) af)) (ah (dN dC rfl T.Ei cV (ah (kX (tJ hr) (pv 2) aJ (fun _ _=>rfl)) af)) (ah (dN dC rfl T.Ei cV (ah (kX (tJ hr) (pv 2) aJ (fun _ _=>rfl)) af)) af)))))
  case yread =>
    refine dt (fun f hf=>⟨bU (by decide),fun l0 hl0=>⟨bU (by decide),fun l1 hl1=>⟨bU (by decide),fun l2 hl2=>⟨?_,[(Sum.inr "hole",.ref l0),(Sum.inr "gap",.ref l1),(Sum.inr "slot",.ref l2)],rfl,by simp,?_⟩⟩⟩⟩)
    · rw [aB (av (by rw [aB (av (by rw [aB (av aq hl0)]; exact aq) hl1),aB (av aq hl0)]; exact aq) hl2),aB (av (by rw [aB (av aq hl0)]; exact aq) hl1),aB (av aq hl0)]
      exact aq
    rw [A7]
    have n0f:f ≠ l0:=av aq hl0
    have n1f:f ≠ l1:=av (by rw [aB n0f]; exact aq) hl1
    have n10:l0 ≠ l1:=av aq hl1
    have n2f:f ≠ l2:=av (by rw [aB n1f,aB n0f]; exact aq) hl2
    have n20:l0 ≠ l2:=av (by rw [aB n10]; exact aq) hl2
    have n21:l1 ≠ l2:=av aq hl2
    generalize hG:upd (upd (upd (upd (upd H f (.dK [])) l0 (.lst [])) l1 (.lst [])) l2 (.lst [])) f (.dK [(Sum.inr "hole",V.ref l0),(Sum.inr "gap",.ref l1),(Sum.inr "slot",.ref l2)]) = G
    have gf:G f = some (oD l0 l1 l2):=by rw [← hG]; exact aq
    have tri:Tri l0 l1 l2 G [] [] []:=by
      rw [← hG]
      refine ⟨?_,?_,?_,n10,n20,n21⟩
      · rw [aB (Ne.symm n0f),aB n20,aB n10]; exact aq
      · rw [aB (Ne.symm n1f),aB n21]; exact aq
      · rw [aB (Ne.symm n2f)]; exact aq
    have sG:Same H G:=fun x o hx=>by
      have zf:=av hx hf
      have z0:x ≠ l0:=av (by rw [aB zf]; exact hx) hl0
      have z1:x ≠ l1:=av (by rw [aB z0,aB zf]; exact hx) hl1
      have z2:x ≠ l2:=av (by rw [aB z1,aB z0,aB zf]; exact hx) hl2
      rw [← hG,aB zf,aB z2,aB z1,aB z0,aB zf]
      exact hx
    have free0:H l0 = none:=by rw [aB (Ne.symm n0f)] at hl0; exact hl0
    have free1:H l1 = none:=by rw [aB (Ne.symm n10),aB (Ne.symm n1f)] at hl1; exact hl1
    have free2:H l2 = none:=by rw [aB (Ne.symm n21),aB (Ne.symm n20),aB (Ne.symm n2f)] at hl2; exact hl2
    refine Cd (K:=K) (kq (d4 (RE.use (K:=K) (d:=toP p) (aN (k:=1) (aa (sG.dat h0)) aj rfl) fun w0 G1 s1 q0=>?_)))
    refine ⟨_,rfl,_,rfl,p,t,w0,v1,f,l0,l1,l2,[],[],[],rfl,okp,okt,dpt,dpp,by decide,q0,(sG.trans s1).dat h1,s1 _ _ gf,n0f,n1f,n2f,tri.same s1,by decide,by decide,by decide,fun H' a' b' c' bb tri' _ _ _ dd=>⟨_,rfl,?_⟩⟩
    have sm:Same H H':=fun x o hx=>bb x o (av hx free0) (av hx free1) (av hx free2) (s1 _ _ (sG _ _ hx))
    cases hft:bY p t with
    | none =>
      refine qx ?_
      rw [hft] at post
      exact post _ _ sm Dat.nonI
    | some fd =>
      refine lU ?_
      obtain ⟨d0,d1,d2⟩:=dd fd hft
      have gf':H' f = some (.dK [(Sum.inr "hole",V.ref l0),(Sum.inr "gap",.ref l1),(Sum.inr "slot",.ref l2)]):=bb _ _ n0f n1f n2f (s1 _ _ gf)
      rw [hft] at post
      exact aZ (K:=K) (d:=fdD (some fd)) (ba (ae (ku gf' (tQ l0 l1 l2) tri'.h0 d0) (ae (ku gf' (xj l0 l1 l2) tri'.h1 d1) (ae (ku gf' (tR l0 l1 l2) tri'.h2 d2) ax)))) fun v H'' s qq=>post v H'' (sm.trans s) qq
abbrev kB (ds:List D) (d:D):Prop:=∃ x,ds = [x]∧fe x = true∧d = .non
end
end My
end
section
namespace My
open PySem L2 PyProof.Rows
section
variable {P:Program} {w:World} {K:PySem.W.Frag} {mg:Str→Option Value} {base:Heap} {k:Nat}
abbrev LPD:List D:=[.tup [.str "inc",.tup [.str "add",.tup [.str "hole",.int 0],.tup [.str "num",.int 1]],.tup [.int 12,.int 1]],
  .tup [.str "both",.tup [.str "add",.tup [.str "slot",.int 0],.tup [.str "slot",.int 1]],.tup [.int 3,.tup [.str "arg",.int 0],.int 3,.tup [.str "arg",.int 1],.int 4]],
  .tup [.str "twofold",.tup [.str "mul",.tup [.str "hole",.int 0],.tup [.str "num",.int 2]],.tup [.int 13,.int 4]],
  .tup [.str "fewer",.tup [.str "sub",.tup [.str "hole",.int 0],.tup [.str "gap",.int 0,.int 99]],.tup [.int 1,.tup [.str "low",.int 0],.int 5]],
  .tup [.str "addmul",.tup [.str "add",.tup [.str "mul",.tup [.str "hole",.int 0],.tup [.str "hole",.int 1]],.tup [.str "gap",.int 0,.int 99]],.tup [.int 6,.int 12,.tup [.str "low",.int 0]]],
  .tup [.str "turned",.tup [.str "less",.tup [.str "gap",.int 0,.int 99],.tup [.str "hole",.int 0]],.tup [.int 1,.tup [.str "low",.int 0],.int 14,.int 7]],
  .tup [.str "far",.tup [.str "add",.tup [.str "hole",.int 0],.tup [.str "gap",.int 0,.int 9999]],.tup [.int 2,.tup [.str "low",.int 0],.tup [.str "high",.int 0],.int 4]],
  .tup [.str "pair",.tup [.str "sub",.tup [.str "gap",.int 0,.int 99],.tup [.str "gap",.int 1,.int 99]],.tup [.int 1,.tup [.str "low",.int 0],.int 1,.tup [.str "low",.int 1],.int 5]]]
theorem mh (T:Txt P w K mg)  : FnOk P w K mg base CX0 (k + 1) T.EK T.EN [] (iz K fun ds es=>ds = []∧es = LPD):=by
  refine T.Fu.ok sc__law_pieces (fun vs H Q E h=>?_) (fun cdv A outer s H vs Q E hr h=>?_)
  · obtain ⟨ds,es,hd,⟨rfl,rfl⟩,_⟩:=h; exact hd.length.symm
  have nd:=sc__law_pieces.nd
  obtain ⟨ds,es,hd,⟨rfl,rfl⟩,post⟩:=h
  have ez:=hd.nilE
  subst ez
  refine' ⟨_,?ybody,?yread⟩
  case ybody =>
    refine' ao ?y278 ?y279
    case y278 =>
      refine' hU ?y35 ?y36 ?y37 ?y38
      case y35 =>
        refine' aX ?y34
        case y34 =>
          refine' ah ?y32 ?y33
          case y32=>exact (aX (ah aJ (ah ag af)))
          case y33 =>
            refine' ah ?y30 ?y31
            case y30=>exact (aX (ah aJ (ah ag af)))
            case y31 =>
              refine' ah ?y28 ?y29
              case y28=>exact (aX (ah aJ (ah ag (ah ag af))))
              case y29=>exact af
      case y36=>exact (gD rfl (bx (aV (i:=0) nd rfl (Or.inl rfl)) (bx (aV (i:=1) nd rfl (Or.inl rfl)) (bx (aV (i:=2) nd rfl (Or.inl rfl)) d8))))
      case y37=>rfl
      case y38=>kernel_rfl
    case y279 =>
      refine' ao ?y276 ?y277
      case y276 =>
        refine' bz (i:=3) ?y56 ?y57 ?y58 ?y59
        case y56=>exact nd
        case y57=>exact rfl
        case y58=>exact Or.inl rfl
        case y59 =>
          refine' bC ?y55
          case y55 =>
            refine' ah ?y53 ?y54
            case y53 =>
              refine' aX ?y52
              case y52 =>
                refine' ah ?y50 ?y51
                case y50=>exact aJ
                case y51 =>
                  refine' ah ?y48 ?y49
                  case y48 =>
                    refine' aX ?y45
                    case y45 =>
                      refine' ah ?y43 ?y44
                      case y43=>exact aJ
                      case y44 =>
                        refine' ah ?y41 ?y42
                        case y41=>exact (pv 0)
                        case y42 =>
                          refine' ah ?y39 ?y40
                          case y39=>exact (aX (ah aJ (ah ag af)))
                          case y40=>exact af
                  case y49 =>
                    refine' ah ?y46 ?y47
                    case y46=>exact (aX (ah ag (ah ag af)))
                    case y47=>exact af
            case y54=>exact af
      case y277 =>
        refine' ao ?y274 ?y275
        case y274 =>
          refine' bF ?y93
          case y93 =>
            refine' cZ ?y87 ?y88 ?y89 ?y90 ?y91 ?y92
            case y87=>exact PySem.F.plainAttrs_list
            case y88=>exact PySem.F.slot_list_append
            case y89=>exact PySem.F.type_list_append
            case y90=>exact bL
            case y91=>exact (pv 3)
            case y92 =>
              refine' ah ?y85 ?y86
              case y85 =>
                refine' aX ?y84
                case y84 =>
                  refine' ah ?y82 ?y83
                  case y82=>exact aJ
                  case y83 =>
                    refine' ah ?y80 ?y81
                    case y80 =>
                      refine' aX ?y66
                      case y66 =>
                        refine' ah ?y64 ?y65
                        case y64=>exact aJ
                        case y65 =>
                          refine' ah ?y62 ?y63
                          case y62=>exact (aX (ah aJ (ah ag af)))
                          case y63 =>
                            refine' ah ?y60 ?y61
                            case y60=>exact (aX (ah aJ (ah ag af)))
                            case y61=>exact af
                    case y81 =>
                      refine' ah ?y78 ?y79
                      case y78 =>
                        refine' aX ?y77
                        case y77 =>
                          refine' ah ?y75 ?y76
                          case y75=>exact ag
                          case y76 =>
                            refine' ah ?y73 ?y74
                            case y73=>exact (aX (ah aJ (ah ag af)))
                            case y74 =>
                              refine' ah ?y71 ?y72
                              case y71=>exact ag
                              case y72 =>
                                refine' ah ?y69 ?y70
                                case y69=>exact (aX (ah aJ (ah ag af)))
                                case y70 =>
                                  refine' ah ?y67 ?y68
                                  case y67=>exact ag
                                  case y68=>exact af
                      case y79=>exact af
              case y86=>exact af
        case y275 =>
          refine' ao ?y272 ?y273
          case y272 =>
            refine' bF ?y116
            case y116 =>
              refine' cZ ?y110 ?y111 ?y112 ?y113 ?y114 ?y115
              case y110=>exact PySem.F.plainAttrs_list
              case y111=>exact PySem.F.slot_list_append
              case y112=>exact PySem.F.type_list_append
              case y113=>exact bL
              case y114=>exact (pv 3)
              case y115 =>
                refine' ah ?y108 ?y109
                case y108 =>
                  refine' aX ?y107
                  case y107 =>
                    refine' ah ?y105 ?y106
                    case y105=>exact aJ
                    case y106 =>
                      refine' ah ?y103 ?y104
                      case y103 =>
                        refine' aX ?y100
                        case y100 =>
                          refine' ah ?y98 ?y99
                          case y98=>exact aJ
                          case y99 =>
                            refine' ah ?y96 ?y97
                            case y96=>exact (pv 0)
                            case y97 =>
                              refine' ah ?y94 ?y95
                              case y94=>exact (aX (ah aJ (ah ag af)))
                              case y95=>exact af
                      case y104 =>
                        refine' ah ?y101 ?y102
                        case y101=>exact (aX (ah ag (ah ag af)))
                        case y102=>exact af
                case y109=>exact af
          case y273 =>
            refine' ao ?y270 ?y271
            case y270 =>
              refine' bF ?y139
              case y139 =>
                refine' cZ ?y133 ?y134 ?y135 ?y136 ?y137 ?y138
                case y133=>exact PySem.F.plainAttrs_list
                case y134=>exact PySem.F.slot_list_append
                case y135=>exact PySem.F.type_list_append
                case y136=>exact bL
                case y137=>exact (pv 3)
                case y138 =>
                  refine' ah ?y131 ?y132
                  case y131 =>
                    refine' aX ?y130
                    case y130 =>
                      refine' ah ?y128 ?y129
                      case y128=>exact aJ
                      case y129 =>
                        refine' ah ?y126 ?y127
                        case y126=>exact (aX (ah aJ (ah (pv 0) (ah (pv 2) af))))
                        case y127 =>
                          refine' ah ?y124 ?y125
                          case y124 =>
                            refine' aX ?y123
                            case y123 =>
                              refine' ah ?y121 ?y122
                              case y121=>exact ag
                              case y122 =>
                                refine' ah ?y119 ?y120
                                case y119=>exact (aX (ah aJ (ah ag af)))
                                case y120 =>
                                  refine' ah ?y117 ?y118
                                  case y117=>exact ag
                                  case y118=>exact af
                          case y125=>exact af
                  case y132=>exact af
            case y271 =>
              refine' ao ?y268 ?y269
              case y268 =>
                refine' bF ?y169
                case y169 =>
                  refine' cZ ?y163 ?y164 ?y165 ?y166 ?y167 ?y168
                  case y163=>exact PySem.F.plainAttrs_list
                  case y164=>exact PySem.F.slot_list_append
                  case y165=>exact PySem.F.type_list_append
                  case y166=>exact bL
                  case y167=>exact (pv 3)
                  case y168 =>
                    refine' ah ?y161 ?y162
                    case y161 =>
                      refine' aX ?y160
                      case y160 =>
                        refine' ah ?y158 ?y159
                        case y158=>exact aJ
                        case y159 =>
                          refine' ah ?y156 ?y157
                          case y156 =>
                            refine' aX ?y146
                            case y146 =>
                              refine' ah ?y144 ?y145
                              case y144=>exact aJ
                              case y145 =>
                                refine' ah ?y142 ?y143
                                case y142=>exact (aX (ah aJ (ah (pv 0) (ah (pv 1) af))))
                                case y143 =>
                                  refine' ah ?y140 ?y141
                                  case y140=>exact (pv 2)
                                  case y141=>exact af
                          case y157 =>
                            refine' ah ?y154 ?y155
                            case y154 =>
                              refine' aX ?y153
                              case y153 =>
                                refine' ah ?y151 ?y152
                                case y151=>exact ag
                                case y152 =>
                                  refine' ah ?y149 ?y150
                                  case y149=>exact ag
                                  case y150 =>
                                    refine' ah ?y147 ?y148
                                    case y147=>exact (aX (ah aJ (ah ag af)))
                                    case y148=>exact af
                            case y155=>exact af
                    case y162=>exact af
              case y269 =>
                refine' ao ?y266 ?y267
                case y266 =>
                  refine' bF ?y194
                  case y194 =>
                    refine' cZ ?y188 ?y189 ?y190 ?y191 ?y192 ?y193
                    case y188=>exact PySem.F.plainAttrs_list
                    case y189=>exact PySem.F.slot_list_append
                    case y190=>exact PySem.F.type_list_append
                    case y191=>exact bL
                    case y192=>exact (pv 3)
                    case y193 =>
                      refine' ah ?y186 ?y187
                      case y186 =>
                        refine' aX ?y185
                        case y185 =>
                          refine' ah ?y183 ?y184
                          case y183=>exact aJ
                          case y184 =>
                            refine' ah ?y181 ?y182
                            case y181=>exact (aX (ah aJ (ah (pv 2) (ah (pv 0) af))))
                            case y182 =>
                              refine' ah ?y179 ?y180
                              case y179 =>
                                refine' aX ?y178
                                case y178 =>
                                  refine' ah ?y176 ?y177
                                  case y176=>exact ag
                                  case y177 =>
                                    refine' ah ?y174 ?y175
                                    case y174=>exact (aX (ah aJ (ah ag af)))
                                    case y175 =>
                                      refine' ah ?y172 ?y173
                                      case y172=>exact ag
                                      case y173 =>
                                        refine' ah ?y170 ?y171
                                        case y170=>exact ag
                                        case y171=>exact af
                              case y180=>exact af
                      case y187=>exact af
                case y267 =>
                  refine' ao ?y264 ?y265
                  case y264 =>
                    refine' bF ?y226
                    case y226 =>
                      refine' cZ ?y220 ?y221 ?y222 ?y223 ?y224 ?y225
                      case y220=>exact PySem.F.plainAttrs_list
                      case y221=>exact PySem.F.slot_list_append
                      case y222=>exact PySem.F.type_list_append
                      case y223=>exact bL
                      case y224=>exact (pv 3)
                      case y225 =>
                        refine' ah ?y218 ?y219
                        case y218 =>
                          refine' aX ?y217
                          case y217 =>
                            refine' ah ?y215 ?y216
                            case y215=>exact aJ
                            case y216 =>
                              refine' ah ?y213 ?y214
                              case y213 =>
                                refine' aX ?y201
                                case y201 =>
                                  refine' ah ?y199 ?y200
                                  case y199=>exact aJ
                                  case y200 =>
                                    refine' ah ?y197 ?y198
                                    case y197=>exact (pv 0)
                                    case y198 =>
                                      refine' ah ?y195 ?y196
                                      case y195=>exact (aX (ah aJ (ah ag (ah ag af))))
                                      case y196=>exact af
                              case y214 =>
                                refine' ah ?y211 ?y212
                                case y211 =>
                                  refine' aX ?y210
                                  case y210 =>
                                    refine' ah ?y208 ?y209
                                    case y208=>exact ag
                                    case y209 =>
                                      refine' ah ?y206 ?y207
                                      case y206=>exact (aX (ah aJ (ah ag af)))
                                      case y207 =>
                                        refine' ah ?y204 ?y205
                                        case y204=>exact (aX (ah aJ (ah ag af)))
                                        case y205 =>
                                          refine' ah ?y202 ?y203
                                          case y202=>exact ag
                                          case y203=>exact af
                                case y212=>exact af
                        case y219=>exact af
                  case y265 =>
                    refine' ao ?y262 ?y263
                    case y262 =>
                      refine' bF ?y260
                      case y260 =>
                        refine' cZ ?y254 ?y255 ?y256 ?y257 ?y258 ?y259
                        case y254=>exact PySem.F.plainAttrs_list
                        case y255=>exact PySem.F.slot_list_append
                        case y256=>exact PySem.F.type_list_append
                        case y257=>exact bL
                        case y258=>exact (pv 3)
                        case y259 =>
                          refine' ah ?y252 ?y253
                          case y252 =>
                            refine' aX ?y251
                            case y251 =>
                              refine' ah ?y249 ?y250
                              case y249=>exact aJ
                              case y250 =>
                                refine' ah ?y247 ?y248
                                case y247 =>
                                  refine' aX ?y233
                                  case y233 =>
                                    refine' ah ?y231 ?y232
                                    case y231=>exact aJ
                                    case y232 =>
                                      refine' ah ?y229 ?y230
                                      case y229=>exact (aX (ah aJ (ah ag (ah ag af))))
                                      case y230 =>
                                        refine' ah ?y227 ?y228
                                        case y227=>exact (aX (ah aJ (ah ag (ah ag af))))
                                        case y228=>exact af
                                case y248 =>
                                  refine' ah ?y245 ?y246
                                  case y245 =>
                                    refine' aX ?y244
                                    case y244 =>
                                      refine' ah ?y242 ?y243
                                      case y242=>exact ag
                                      case y243 =>
                                        refine' ah ?y240 ?y241
                                        case y240=>exact (aX (ah aJ (ah ag af)))
                                        case y241 =>
                                          refine' ah ?y238 ?y239
                                          case y238=>exact ag
                                          case y239 =>
                                            refine' ah ?y236 ?y237
                                            case y236=>exact (aX (ah aJ (ah ag af)))
                                            case y237 =>
                                              refine' ah ?y234 ?y235
                                              case y234=>exact ag
                                              case y235=>exact af
                                  case y246=>exact af
                          case y253=>exact af
                    case y263 =>
                      refine' au ?y261
                      case y261=>exact (aD (pv 3))
  case yread =>
    refine t8 (K:=K) (d:=.tup [.str "hole",.int 0]) (e:=.tup [.str "hole",.int 1]) (f:=.tup [.str "gap",.int 0,.int 99]) (ba (ae (ba (ae aG (ae aj ax))) (ae (ba (ae aG (ae aj ax))) (ae (ba (ae aG (ae aj (ae aj ax)))) ax)))) fun vh vo vg H1 s1 dh do_ dg=>?_
    refine fg (K:=K) (hZ (ae (ba (ae aG (ae (ba (ae aG (ae (aa dh) (ae (ba (ae aG (ae aj ax))) ax)))) (ae (ba (ae aj (ae aj ax))) ax)))) ax)) fun lb x0 G0 hb s2 h0 e0=>?_
    have hlb:H lb = none:=s1.free hb
    have dh:=s2.dat dh
    have do_:=s2.dat do_
    have dg:=s2.dat dg
    have bb0:But lb H G0:=(s1.trans s2).but
    have l0:=e0.length
    simp only [List.length_cons,List.length_nil,List.length_append] at l0
    refine gk (K:=K) (ba (ae aG (ae (ba (ae aG (ae (ba (ae aG (ae aj ax))) (ae (ba (ae aG (ae aj ax))) ax)))) (ae (ba (ae aj (ae (ba (ae aG (ae aj ax))) (ae aj (ae (ba (ae aG (ae aj ax))) (ae aj ax)))))) ax)))) h0 (by first | omega | (simp only [List.length_append,List.length_cons,List.length_nil]; omega)) fun y1 G1 b1 h1 e1'=>?_
    have g1:dv K _ G1:=b1.grow h0 h1
    have dh:=Dat.mono g1 _ dh
    have do_:=Dat.mono g1 _ do_
    have dg:=Dat.mono g1 _ dg
    have e1:=Dats.append (Dats.mono g1 _ e0) (Dats.cons e1' Dats.nil)
    have l1:=e1.length
    have bb1:=bb0.trans b1
    simp only [List.length_cons,List.length_nil,List.length_append] at l1
    refine gk (K:=K) (ba (ae aG (ae (ba (ae aG (ae (aa dh) (ae (ba (ae aG (ae aj ax))) ax)))) (ae (ba (ae aj (ae aj ax))) ax)))) h1 (by first | omega | (simp only [List.length_append,List.length_cons,List.length_nil]; omega)) fun y2 G2 b2 h2 e2'=>?_
    have g2:dv K _ G2:=b2.grow h1 h2
    have dh:=Dat.mono g2 _ dh
    have do_:=Dat.mono g2 _ do_
    have dg:=Dat.mono g2 _ dg
    have e2:=Dats.append (Dats.mono g2 _ e1) (Dats.cons e2' Dats.nil)
    have l2:=e2.length
    have bb2:=bb1.trans b2
    simp only [List.length_cons,List.length_nil,List.length_append] at l2
    refine gk (K:=K) (ba (ae aG (ae (ba (ae aG (ae (aa dh) (ae (aa dg) ax)))) (ae (ba (ae aj (ae (ba (ae aG (ae aj ax))) (ae aj ax)))) ax)))) h2 (by first | omega | (simp only [List.length_append,List.length_cons,List.length_nil]; omega)) fun y3 G3 b3 h3 e3'=>?_
    have g3:dv K _ G3:=b3.grow h2 h3
    have dh:=Dat.mono g3 _ dh
    have do_:=Dat.mono g3 _ do_
    have dg:=Dat.mono g3 _ dg
    have e3:=Dats.append (Dats.mono g3 _ e2) (Dats.cons e3' Dats.nil)
    have l3:=e3.length
    have bb3:=bb2.trans b3
    simp only [List.length_cons,List.length_nil,List.length_append] at l3
    refine gk (K:=K) (ba (ae aG (ae (ba (ae aG (ae (ba (ae aG (ae (aa dh) (ae (aa do_) ax)))) (ae (aa dg) ax)))) (ae (ba (ae aj (ae aj (ae (ba (ae aG (ae aj ax))) ax)))) ax)))) h3 (by first | omega | (simp only [List.length_append,List.length_cons,List.length_nil]; omega)) fun y4 G4 b4 h4 e4'=>?_
    have g4:dv K _ G4:=b4.grow h3 h4
    have dh:=Dat.mono g4 _ dh
    have do_:=Dat.mono g4 _ do_
    have dg:=Dat.mono g4 _ dg
    have e4:=Dats.append (Dats.mono g4 _ e3) (Dats.cons e4' Dats.nil)
    have l4:=e4.length
    have bb4:=bb3.trans b4
    simp only [List.length_cons,List.length_nil,List.length_append] at l4
    refine gk (K:=K) (ba (ae aG (ae (ba (ae aG (ae (aa dg) (ae (aa dh) ax)))) (ae (ba (ae aj (ae (ba (ae aG (ae aj ax))) (ae aj (ae aj ax))))) ax)))) h4 (by first | omega | (simp only [List.length_append,List.length_cons,List.length_nil]; omega)) fun y5 G5 b5 h5 e5'=>?_
    have g5:dv K _ G5:=b5.grow h4 h5
    have dh:=Dat.mono g5 _ dh
    have do_:=Dat.mono g5 _ do_
    have dg:=Dat.mono g5 _ dg
    have e5:=Dats.append (Dats.mono g5 _ e4) (Dats.cons e5' Dats.nil)
    have l5:=e5.length
    have bb5:=bb4.trans b5
    simp only [List.length_cons,List.length_nil,List.length_append] at l5
    refine gk (K:=K) (ba (ae aG (ae (ba (ae aG (ae (aa dh) (ae (ba (ae aG (ae aj (ae aj ax)))) ax)))) (ae (ba (ae aj (ae (ba (ae aG (ae aj ax))) (ae (ba (ae aG (ae aj ax))) (ae aj ax))))) ax)))) h5 (by first | omega | (simp only [List.length_append,List.length_cons,List.length_nil]; omega)) fun y6 G6 b6 h6 e6'=>?_
    have g6:dv K _ G6:=b6.grow h5 h6
    have dh:=Dat.mono g6 _ dh
    have do_:=Dat.mono g6 _ do_
    have dg:=Dat.mono g6 _ dg
    have e6:=Dats.append (Dats.mono g6 _ e5) (Dats.cons e6' Dats.nil)
    have l6:=e6.length
    have bb6:=bb5.trans b6
    simp only [List.length_cons,List.length_nil,List.length_append] at l6
    refine gk (K:=K) (ba (ae aG (ae (ba (ae aG (ae (ba (ae aG (ae aj (ae aj ax)))) (ae (ba (ae aG (ae aj (ae aj ax)))) ax)))) (ae (ba (ae aj (ae (ba (ae aG (ae aj ax))) (ae aj (ae (ba (ae aG (ae aj ax))) (ae aj ax)))))) ax)))) h6 (by first | omega | (simp only [List.length_append,List.length_cons,List.length_nil]; omega)) fun y7 G7 b7 h7 e7'=>?_
    have g7:dv K _ G7:=b7.grow h6 h7
    have dh:=Dat.mono g7 _ dh
    have do_:=Dat.mono g7 _ do_
    have dg:=Dat.mono g7 _ dg
    have e7:=Dats.append (Dats.mono g7 _ e6) (Dats.cons e7' Dats.nil)
    have l7:=e7.length
    have bb7:=bb6.trans b7
    have sm:Same H G7:=fun b o hbo=>bb7 b o (av hbo hlb) hbo
    exact ⟨_,rfl,post lb _ G7 sm h7 hlb e7⟩
end
end My
end
section
namespace My
open PySem L2 PyProof.Rows
section
variable {P:Program} {w:World} {K:PySem.W.Frag} {mg:Str→Option Value} {base:Heap} {k:Nat}
structure Pc where
  nm:Str
  pt:Pa
  cs:List D
def pcD (p:Pc):D:=.tup [.str p.nm,toP p.pt,.tup p.cs]
def fA:Pa→Bool
  | .hole _=>false
  | _=>true
structure zl (p:Pc):Prop where
  nm:p.nm ≠ "pick"
  ok:fV p.pt
  dp:cx p.pt ≤ 3
  cs:p.cs.length ≤ 12
  nh:fA p.pt = true
structure Wy where
  nm:Str
  cs:List D
  ts:List Tr
def wyD (w:Wy):D:=.tup [.str w.nm,.tup w.cs,.tup (w.ts.map toD)]
def eR (t:Tr) (p:Pc):Option Wy:=(bY p.pt t).map fun f=>⟨p.nm,p.cs,f.1⟩
def qw:Tr→Bool
  | .pick _ _ _=>true
  | _=>false
def dJ (ps:List Pc) (t:Tr):List Wy:=if qw t = true then [⟨"pick",[],bW t⟩] else ps.filterMap (eR t)
def jl (near far many:Int):List Int:=if many ≤ 9 then [near,many] else [far,many % 100,many / 100]
def fm (many:Int):Int:=if many ≤ 9 then 2 else 3
theorem jB (near far many:Int):((jl near far many).length:Int) = fm many:=by
  unfold jl fm
  split <;> rfl
theorem wL (a:Int):2 ≤ fm a∧fm a ≤ 3:=by unfold fm; split <;> omega
def tT (y z:Int):Int:=fm (y + fm z) + fm z
def m4 (w:Wy) (ls:List Int):Int:=if w.nm = "pick" then tT (ls.getD 1 0) (ls.getD 2 0) else (w.cs.length:Int)
def cJ (w:Wy) (ls:List Int):Int:=m4 w ls + ls.sum
abbrev Bst:Type:=Option (Int × D)
def bD:Bst→D
  | none=>.non
  | some b=>.tup [.int b.1,b.2]
def dD:List Bst→Option (List (Int × D))
  | []=>some []
  | none :: _=>none
  | some b :: r=>(dD r).map (b :: ·)
def cvD (nm:Str) (bs:List (Int × D)):D:=.tup [.str nm,.tup (bs.map (·.2))]
def gY (best:Bst) (l:Int) (c:D):Bst:=match best with
  | none=>some (l,c)
  | some b=>if l < b.1 then some (l,c) else some b
def rg (best:Bst) (w:Wy):Option (List (Int × D))→Bst
  | none=>best
  | some bs=>gY best (cJ w (bs.map (·.1))) (cvD w.nm bs)
def fE (f:Tr→Bst) (best:Bst) (w:Wy):Bst:=rg best w (dD (w.ts.map f))
def jf (ps:List Pc) (f:Tr→Bst) (t:Tr):Bst:=(dJ ps t).foldl (fE f) none
def kH (ps:List Pc):Nat→Tr→Bst
  | 0,_=>none
  | n + 1,t=>jf ps (kH ps n) t
def bf (ps:List Pc) (t:Tr):Bst:=kH ps (aP t) t
theorem nO (t:Tr):1 ≤ aP t:=by cases t <;> simp [aP]
theorem oy:∀ (p:Pa) (t:Tr) (f:Fnd),bY p t = some f→∀ x ∈ f.1,x ∈ aM t
  | .hole i,t,f,h,x,hx=>by
    cases h
    simp at hx
    rw [hx,eG]
    exact List.mem_cons_self
  | .gap i m,t,f,h,x,hx=>by
    cases t with
    | num n =>
      have h':(if n ≤ m then some ([],[n],[]) else none:Option Fnd) = some f:=h
      by_cases z:n ≤ m
      · rw [if_pos z] at h'; cases h'; simp at hx
      · rw [if_neg z] at h'; cases h'
    | _=>cases h
  | .slot i,t,f,h,x,hx=>by
    cases t with
    | arg n=>cases h; simp at hx
    | _=>cases h
  | .num m,t,f,h,x,hx=>by
    cases t with
    | num n =>
      have h':(if n = m then some ([],[],[]) else none:Option Fnd) = some f:=h
      by_cases z:n = m
      · rw [if_pos z] at h'; cases h'; simp at hx
      · rw [if_neg z] at h'; cases h'
    | _=>cases h
  | .two o a b,t,f,h,x,hx=>by
    cases t with
    | two o' u v =>
      obtain ⟨_,f1,f2,e1,e2,e3⟩:=dk h
      subst e3
      have hx':x ∈ f1.1 ++ f2.1:=hx
      simp only [aM,List.mem_cons,List.mem_append]
      rcases List.mem_append.mp hx' with hx | hx
      · exact .inr (.inl (oy a u f1 e1 x hx))
      · exact .inr (.inr (oy b v f2 e2 x hx))
    | _=>cases h
theorem lO {p:Pa} {t:Tr} {f:Fnd} (hp:fA p = true) (h:bY p t = some f):∀ x ∈ f.1,x ∈ (bW t).flatMap aM:=by
  intro x hx
  cases p with
  | hole i=>cases hp
  | gap i m =>
    cases t with
    | num n =>
      have h':(if n ≤ m then some ([],[n],[]) else none:Option Fnd) = some f:=h
      by_cases z:n ≤ m
      · rw [if_pos z] at h'; cases h'; simp at hx
      · rw [if_neg z] at h'; cases h'
    | _=>cases h
  | slot i =>
    cases t with
    | arg n=>cases h; simp at hx
    | _=>cases h
  | num m =>
    cases t with
    | num n =>
      have h':(if n = m then some ([],[],[]) else none:Option Fnd) = some f:=h
      by_cases z:n = m
      · rw [if_pos z] at h'; cases h'; simp at hx
      · rw [if_neg z] at h'; cases h'
    | _=>cases h
  | two o a b =>
    cases t with
    | two o' u v =>
      obtain ⟨_,f1,f2,e1,e2,e3⟩:=dk h
      subst e3
      have hx':x ∈ f1.1 ++ f2.1:=hx
      simp only [bW,List.flatMap_cons,List.flatMap_nil,List.append_nil,List.mem_append]
      rcases List.mem_append.mp hx' with hx | hx
      · exact .inl (oy a u f1 e1 x hx)
      · exact .inr (oy b v f2 e2 x hx)
    | _=>cases h
theorem vA (t:Tr):t ∈ aM t:=by rw [eG]; exact List.mem_cons_self
theorem jU {ps:List Pc} (hp:∀ p ∈ ps,fA p.pt = true) {t:Tr} {w:Wy} (hw:w ∈ dJ ps t):∀ x ∈ w.ts,x ∈ (bW t).flatMap aM:=by
  unfold dJ at hw
  split at hw
  · rw [List.mem_singleton.mp hw]
    intro x hx
    exact List.mem_flatMap.mpr ⟨x,hx,vA x⟩
  · obtain ⟨p,h1,h2⟩:=List.mem_filterMap.mp hw
    unfold eR at h2
    cases e:bY p.pt t with
    | none=>rw [e] at h2; cases h2
    | some f =>
      rw [e] at h2
      cases h2
      exact lO (hp p h1) e
theorem dH:∀ (t x:Tr),x ∈ aM t→aP x ≤ aP t∧aR x ≤ aR t
  | .num n,x,h=>by
    have e:x = .num n:=by simpa [aM] using h
    subst e; exact ⟨Nat.le_refl _,Nat.le_refl _⟩
  | .arg n,x,h=>by
    have e:x = .arg n:=by simpa [aM] using h
    subst e; exact ⟨Nat.le_refl _,Nat.le_refl _⟩
  | .two o a b,x,h=>by
    simp only [aM,List.mem_cons,List.mem_append] at h
    rcases h with rfl | h | h
    · exact ⟨Nat.le_refl _,Nat.le_refl _⟩
    · have:=dH a x h; simp only [aP,aR]; omega
    · have:=dH b x h; simp only [aP,aR]; omega
  | .pick a b c,x,h=>by
    simp only [aM,List.mem_cons,List.mem_append] at h
    rcases h with rfl | (h | h) | h
    · exact ⟨Nat.le_refl _,Nat.le_refl _⟩
    · have:=dH a x h; simp only [aP,aR]; omega
    · have:=dH b x h; simp only [aP,aR]; omega
    · have:=dH c x h; simp only [aP,aR]; omega
theorem ff:∀ (t x:Tr),okT t→x ∈ aM t→okT x
  | .num n,x,k,h=>by
    have e:x = .num n:=by simpa [aM] using h
    subst e; exact k
  | .arg n,x,k,h=>by
    have e:x = .arg n:=by simpa [aM] using h
    subst e; exact k
  | .two o a b,x,k,h=>by
    simp only [aM,List.mem_cons,List.mem_append] at h
    rcases h with rfl | h | h
    · exact k
    · exact ff a x k.2.1 h
    · exact ff b x k.2.2 h
  | .pick a b c,x,k,h=>by
    simp only [aM,List.mem_cons,List.mem_append] at h
    rcases h with rfl | (h | h) | h
    · exact k
    · exact ff a x k.1 h
    · exact ff b x k.2.1 h
    · exact ff c x k.2.2 h
theorem uH {t x:Tr} (h:x ∈ bW t):aP x < aP t∧aR x < aR t:=by
  cases t with
  | num n=>simp [bW] at h
  | arg n=>simp [bW] at h
  | two o a b =>
    simp only [bW,List.mem_cons,List.not_mem_nil,or_false] at h
    simp only [aP,aR]
    rcases h with rfl | rfl <;> omega
  | pick a b c =>
    simp only [bW,List.mem_cons,List.not_mem_nil,or_false] at h
    simp only [aP,aR]
    rcases h with rfl | rfl | rfl <;> omega
theorem fc {t x:Tr} (h:x ∈ (bW t).flatMap aM):aP x < aP t∧aR x < aR t:=by
  obtain ⟨k,h1,h2⟩:=List.mem_flatMap.mp h
  have:=uH h1
  have:=dH k x h2
  omega
theorem kA {t x:Tr} (h:x ∈ (bW t).flatMap aM):x ∈ aM t:=by rw [eG]; exact List.mem_cons_of_mem _ h
theorem sH {f g:Tr→Bst} {w:Wy} (h:∀ x ∈ w.ts,f x = g x) (b:Bst):fE f b w = fE g b w:=by
  unfold fE
  rw [List.map_congr_left h]
theorem ji {f g:Tr→Bst}:∀ (ws:List Wy) (b:Bst),(∀ w ∈ ws,∀ x ∈ w.ts,f x = g x)→ws.foldl (fE f) b = ws.foldl (fE g) b
  | [],_,_=>rfl
  | w :: ws,b,h=>by
    rw [List.foldl_cons,List.foldl_cons,sH (h w List.mem_cons_self)]
    exact ji ws _ fun w' hw=>h w' (List.mem_cons_of_mem _ hw)
theorem kI {ps:List Pc} (hp:∀ p ∈ ps,fA p.pt = true):∀ (n:Nat) (t:Tr),aP t ≤ n→kH ps (n + 1) t = kH ps n t
  | 0,t,h=>by have:=nO t; omega
  | n + 1,t,h=>by
    show jf ps (kH ps (n + 1)) t = jf ps (kH ps n) t
    refine ji _ _ fun w hw x hx=>kI hp n x ?_
    have:=fc (jU hp hw x hx)
    omega
theorem pQ {ps:List Pc} (hp:∀ p ∈ ps,fA p.pt = true) {t:Tr}:∀ {n:Nat},aP t ≤ n→kH ps n t = bf ps t:=by
  intro n
  induction n with
  | zero=>intro h; have:=nO t; omega
  | succ n ih =>
    intro h
    by_cases e:aP t = n + 1
    · unfold bf; rw [e]
    · rw [kI hp n t (by omega)]; exact ih (by omega)
theorem jy {ps:List Pc} (hp:∀ p ∈ ps,fA p.pt = true) (t:Tr):bf ps t = jf ps (bf ps) t:=by
  rw [← pQ hp (Nat.le_succ (aP t))]
  show jf ps (kH ps (aP t)) t = _
  refine ji _ _ fun w hw x hx=>pQ hp ?_
  exact Nat.le_of_lt (fc (jU hp hw x hx)).1
theorem sP {ps:List Pc} {t:Tr} {p:Pc} {f:Fnd} (hp:p ∈ ps) (ht:qw t = false) (h:bY p.pt t = some f):(⟨p.nm,p.cs,f.1⟩:Wy) ∈ dJ ps t:=by
  unfold dJ
  rw [if_neg (by rw [ht]; exact Bool.false_ne_true)]
  exact List.mem_filterMap.mpr ⟨p,hp,by unfold eR; rw [h]; rfl⟩
theorem rq {ps:List Pc} {a b c:Tr}:dJ ps (.pick a b c) = [⟨"pick",[],[a,b,c]⟩]:=rfl
def fz:Pa→Nat
  | .hole _=>1
  | .two _ a b=>fz a + fz b
  | _=>0
theorem j7:∀ (p:Pa) (t:Tr) (f:Fnd),bY p t = some f→f.1.length = fz p
  | .hole i,t,f,h=>by cases h; rfl
  | .gap i m,t,f,h=>by
    cases t with
    | num n =>
      have h':(if n ≤ m then some ([],[n],[]) else none:Option Fnd) = some f:=h
      by_cases z:n ≤ m
      · rw [if_pos z] at h'; cases h'; rfl
      · rw [if_neg z] at h'; cases h'
    | _=>cases h
  | .slot i,t,f,h=>by
    cases t with
    | arg n=>cases h; rfl
    | _=>cases h
  | .num m,t,f,h=>by
    cases t with
    | num n =>
      have h':(if n = m then some ([],[],[]) else none:Option Fnd) = some f:=h
      by_cases z:n = m
      · rw [if_pos z] at h'; cases h'; rfl
      · rw [if_neg z] at h'; cases h'
    | _=>cases h
  | .two o a b,t,f,h=>by
    cases t with
    | two o' u v =>
      obtain ⟨_,f1,f2,e1,e2,e3⟩:=dk h
      subst e3
      show (f1.1 ++ f2.1).length = fz a + fz b
      rw [List.length_append,j7 a u f1 e1,j7 b v f2 e2]
    | _=>cases h
abbrev Cv:Pc:=⟨"add",.two "add" (.hole 0) (.hole 1),[.int 4]⟩
abbrev BP:List Pc:=[⟨"one",.gap 0 99,[.int 1,.tup [.str "low",.int 0]]⟩,⟨"two",.gap 0 9999,[.int 2,.tup [.str "low",.int 0],.tup [.str "high",.int 0]]⟩,⟨"slot",.slot 0,[.int 3,.tup [.str "arg",.int 0]]⟩,
  Cv,⟨"sub",.two "sub" (.hole 0) (.hole 1),[.int 5]⟩,⟨"mul",.two "mul" (.hole 0) (.hole 1),[.int 6]⟩,⟨"less",.two "less" (.hole 0) (.hole 1),[.int 7]⟩,⟨"more",.two "add" (.hole 0) (.gap 0 99),[.int 12,.tup [.str "low",.int 0]]⟩]
end
end My
end
section
namespace My
open PySem L2 PyProof.Rows
section
variable {P:Program} {w:World} {K:PySem.W.Frag} {mg:Str→Option Value} {base:Heap} {k:Nat}
def sU (ds es:List D):Prop:=∃ m n f,ds = [.int m,.tup [.int n,.int f]]∧es = (jl n f m).map D.int
theorem Ce {tA:TA} {σ:L2.St} {H:Hp} {Q:VK} (h:tA σ H fun xs H1=>xs.length ≤ sizeLine∧∀ p,H1 p = none→Q (.ref p) (upd H1 p (.tup xs))):vE tA σ H Q:=h
theorem gm {En:Ends} {σ:L2.St} {H:Hp} (h:En.nx σ H):uc En σ H:=h
theorem zK {En:Ends} {σ:L2.St} {H:Hp} (h:En.ct σ H):Ap En σ H:=h
theorem h8 {te:TE} {En:Ends} {σ:L2.St} {G:Hp} {j:Nat} {l:Addr} {xs:List V} {d:D} (h:RE K te σ G d) (hl:G l = some (.lst xs)) (hx:xs.length ≤ 900)
    (q:∀ y G',But l G G'→G' l = some (.lst (xs ++ [y]))→Dat K G' d y→En.nx σ G') (hv:σ[j]? = some (some (.ref l)):=by rfl):rj (tBM K "list" o5 (eJ j) (bB te cH)) En σ G:=by
  refine ⟨_,hv,.inl ⟨rfl,_,SqL.of hl⟩,h.use fun y H1 s1 q1=>?_⟩
  have hl1:=s1 _ _ hl
  refine ⟨l,xs,y,rfl,rfl,hl1,bQ (by omega),?_⟩
  have b:But l H1 (upd H1 l (.lst (xs ++ [y]))):=But.upd (Same.refl _).but
  exact q y _ (s1.but.trans b) aq (Dat.mono (b.grow hl1 aq) _ q1)
theorem pq {te:TE} {En:Ends} {σ:L2.St} {H:Hp} {d:D} {k:Nat} (h:RE K te σ H d) (q:∀ v H',Same H H'→Dat K H' d v→En.nx (σ.set k (some v)) H'):m5 te (cf k) En σ H:=h.use q
theorem oU (T:Txt P w K mg)  : FnOk P w K mg base CX0 (k + 1) T.FC T.FI ["many","kinds"] (iz K sU):=by
  refine T.FP.ok sc_jump_over (fun vs H Q E h=>?_) (fun cdv A outer s H vs Q E hr h=>?_)
  · obtain ⟨ds,d,hd,⟨m,n,f,rfl,_⟩,_⟩:=h; exact hd.length.symm
  have nd:=sc_jump_over.nd
  obtain ⟨ds,es,hd,⟨m,n,f,rfl,rfl⟩,post⟩:=h
  obtain ⟨v0,v1,rfl,h0,h1⟩:=fO hd
  refine ⟨_,(ao (hU (pv 1) (gD rfl (bx (aV (i:=2) nd rfl (Or.inl rfl)) (bx (aV (i:=3) nd rfl (Or.inl rfl)) d8))))
  (ao (bj (aF gJ (pv 0) (bg (v:=.int 9) rfl T.E5 ⟨_,rfl⟩) (aL _)) (au (aD (bC (ah (pv 2) (ah (pv 0) af))))) aK)
  (au (aD (bC (ah (pv 3) (ah (bE fB (pv 0) ag) (ah (bE jI (pv 0) ag) af)))))))),?_⟩
  refine pw (K:=K) (aa h1) fun v w H1 s1 q1 q2=>?_
  have h0:=s1.dat h0
  refine aO (K:=K) (b:=decide (m ≤ 9)) (ay (d5 (p:=fun i j=>decide (i ≤ j)) (aa h0) aj)) (fun c H2 s2=>?_) (fun c H2 s2=>?_)
  · have e:jl n f m = [n,m]:=by unfold jl; rw [if_pos (of_decide_eq_true c)]
    rw [e] at post
    exact ix (RC.use (K:=K) (hZ (ae (aa (s2.dat q1)) (ae (aa (s2.dat h0)) ax))) fun l ys H' hl s hy hd=>post l ys H' (s1.trans (s2.trans s)) hy ((s1.trans s2).free hl) hd)
  · have e:jl n f m = [f,m % 100,m / 100]:=by unfold jl; rw [if_neg (of_decide_eq_false c)]
    rw [e] at post
    exact ix (RC.use (K:=K) (hZ (ae (aa (s2.dat q2)) (ae (sD (aa (s2.dat h0)) aj (by decide)) (ae (pd (aa (s2.dat h0)) aj ⟨by decide,by decide⟩) ax)))) fun l ys H' hl s hy hd=>post l ys H' (s1.trans (s2.trans s)) hy ((s1.trans s2).free hl) hd)
def t9 (K:PySem.W.Frag):Sp:=fun vs H Q _=>∃ y z:Int,vs = [.int y,.int z]∧∀ (p a b:Addr) (us ws:List V) (H':Hp),Same H H'→SqT K H' p [.ref a,.ref b]→H' a = some (.lst us)→H' b = some (.lst ws)→H a = none→H b = none→a ≠ b →
  Dats K H' ((jl 10 11 (y + fm z)).map D.int) us→Dats K H' ((jl 8 9 z).map D.int) ws→Q (.ref p) H'
theorem km (T:Txt P w K mg) (IK:FnOk P w K mg base CX0 k T.FC T.FI ["many","kinds"] (iz K sU)):FnOk P w K mg base CX0 (k + 1) T.Eb T.Ed ["second","third"] (t9 K):=by
  refine T.ET.ok sc_jumps_of_pick (fun vs H Q E h=>?_) (fun cdv A outer s H vs Q E hr h=>?_)
  · obtain ⟨y,z,rfl,_⟩:=h; rfl
  have nd:=sc_jumps_of_pick.nd
  obtain ⟨y,z,rfl,post⟩:=h
  refine ⟨_,(ao (bz (i:=2) nd rfl (Or.inl rfl) (az IK hr rfl T.HN T.FP.kp (kG T) .nil aY (ah (pv 1) (ah (bg (v:=.ref T.Ik) rfl T.GY rfl) af))))
  (ao (bz (i:=3) nd rfl (Or.inl rfl) (az IK hr rfl T.HN T.FP.kp (kG T) .nil aY (ah (bE dF (pv 0) (aA aH rfl T.De bI (ah (pv 2) af))) (ah (bg (v:=.ref T.IS) rfl T.HV rfl) af))))
  (au (aD (aX (ah (pv 3) (ah (pv 2) af))))))),?_⟩
  refine fg (K:=K) (hW (R:=sU) (ae (aa (k:=1) (Dat.intI z)) (ae (my T.JL) ax)) ⟨z,8,9,rfl,rfl⟩) fun b ws H1 hb s1 hbs dws=>?_
  have el:(ws.length:Int) = fm z:=by rw [← dws.length,List.length_map,jB]
  have b1:=lg (K:=K) (σ:=(dW ["second","third","behind","ahead"] [.int y,.int z]).set 2 (some (.ref b))) (k:=2) hbs
  rw [el] at b1
  refine fg (K:=K) (hW (R:=sU) (ae (eH (aa (k:=0) (Dat.intI y)) b1) (ae (my T.JV) ax)) ⟨_,10,11,rfl,rfl⟩) fun a us H2 ha s2 has dus=>?_
  refine ix (Ce ⟨_,rfl,_,rfl,bU (by simp),fun p hp=>?_⟩)
  have s3:Same H2 (upd H2 p (.tup [.ref a,.ref b])):=aC hp _
  have nab:a ≠ b:=Ne.symm (av hbs ha)
  exact post p a b us ws _ (s1.trans (s2.trans s3)) (SqT.of aq) (s3 _ _ has) (s3 _ _ (s2 _ _ hbs)) (s1.free ha) hb nab (s3.dats dus) ((s2.trans s3).dats dws)
theorem nJ {o:Str} (h:o = "num"∨o = "arg"∨okB o):decide (o = ("pick":Str)) = false∧o ≠ "call":=by
  rcases h with rfl | rfl | rfl | rfl | rfl | rfl <;> exact ⟨by decide +kernel,by decide +kernel⟩
theorem wF (t:Tr) (ht:okT t):∃ kd r,toD t = .tup (.str kd :: r)∧decide (kd = "pick") = qw t∧kd ≠ "call"∧(qw t = true→r = (bW t).map toD):=by
  cases t with
  | num n=>exact ⟨_,_,rfl,(nJ (.inl rfl)).1,(nJ (.inl rfl)).2,fun z=>nomatch z⟩
  | arg n=>exact ⟨_,_,rfl,(nJ (.inr (.inl rfl))).1,(nJ (.inr (.inl rfl))).2,fun z=>nomatch z⟩
  | two o a b=>exact ⟨_,_,rfl,(nJ (.inr (.inr ht.1))).1,(nJ (.inr (.inr ht.1))).2,fun z=>nomatch z⟩
  | pick a b c=>exact ⟨_,_,rfl,decide_eq_true rfl,by decide +kernel,fun _=>rfl⟩
structure iw (ps:List Pc):Prop where
  ok:∀ p ∈ ps,zl p
  few:ps.length ≤ 100
def pI (as:List Ar) (es:List D):Prop:=∃ ps t,as = [.d (toD t),.l (ps.map pcD)]∧iw ps∧okT t∧aR t ≤ 8∧es = (dJ ps t).map wyD
theorem wC (f:Fnd):fdD (some f) = .tup [.tup (f.1.map toD),.tup (f.2.1.map D.int),.tup (f.2.2.map D.int)]:=rfl
theorem su (T:Txt P w K mg) (JP:FnOk P w K mg base CX0 k T.Gj T.Gv ["piece","tree"] (spD K rD)):FnOk P w K mg base CX0 (k + 1) T.F5 T.F9 ["tree","some"] (mG K pI):=by
  refine T.GX.ok sc_ways_of (fun vs H Q E h=>?_) (fun cdv A outer s H vs Q E hr h=>?_)
  · obtain ⟨as,d,hd,⟨ps,t,rfl,_⟩,_⟩:=h; exact hd.length.symm
  have nd:=sc_ways_of.nd
  obtain ⟨as,es,hd,⟨ps,t,rfl,okS,okt,dpt,rfl⟩,post⟩:=h
  obtain ⟨v0,v1,rfl,h0,h1⟩:=n6 hd
  have h0:Dat K H (toD t) v0:=h0
  have h1:LD K H (ps.map pcD) v1:=h1
  refine ⟨_,(ao (bj (aF cg (aE aI (pv 0) ag (fun _ _=>rfl)) aJ (aL _)) (au (aD (bC (ah (aX (ah aJ (ah (aX af) (ah (iM mD (pv 0) (iS ag) kY) af)))) af)))) aK)
  (ao (bz (i:=2) nd rfl (Or.inl rfl) (bC af))
  (ao (hV PassesOwn.never rfl (dq (pv 1)) (aV (i:=3) nd rfl (Or.inl rfl)) (ao (bz (i:=4) nd rfl (Or.inl rfl) (az JP hr rfl T.Jg T.Hm.kp (rK T) .nil aY (ah (pv 3) (ah (pv 0) af))))
  (au (bj (aF zq (pv 4) dn (aL _)) (au (bF (cZ PySem.F.plainAttrs_list PySem.F.slot_list_append PySem.F.type_list_append bL (pv 2) (ah (aX (ah (aE aI (pv 3) ag (fun _ _=>rfl)) (ah (aE aI (pv 3) ag (fun _ _=>rfl)) (ah (aE aI (pv 4) ag (fun _ _=>rfl)) af)))) af)))) aK))))
  (au (aD (pv 2)))))),?_⟩
  obtain ⟨kd,r,ek,hpk,_,hkids⟩:=wF t okt
  have h0':Dat K H (.tup (.str kd :: r)) v0:=by rw [← ek]; exact h0
  refine aO (K:=K) (b:=qw t) (RT.as (ay (br (aN (k:=0) (aa h0') aj rfl) aG)) hpk) (fun c H1 s1=>?_) (fun c H1 s1=>?_)
  · have e:(dJ ps t).map wyD = [.tup [.str "pick",.tup [],.tup r]]:=by
      unfold dJ
      rw [if_pos c,hkids c]
      rfl
    rw [e] at post
    exact ix (RC.use (K:=K) (hZ (ae (ba (ae aG (ae (ba ax) (ae (iV (aa (s1.dat h0'))) ax)))) ax)) fun l ys H' hl s hy hd=>post l ys H' (s1.trans s) hy (s1.free hl) hd)
  have ew:dJ ps t = ps.filterMap (eR t):=by unfold dJ; rw [if_neg (by rw [c]; exact Bool.false_ne_true)]
  rw [ew] at post
  refine dt ⟨bU (by decide),fun wl hwl=>?_⟩
  have s2:Same H1 (upd H1 wl (.lst [])):=aC hwl _
  have s12:=s1.trans s2
  obtain ⟨a,vs,rfl,ha,hda⟩:=h1
  have la:=hda.length
  rw [List.length_map] at la
  have hps:=okS.few
  have hwn:H wl = none:=s1.free hwl
  refine cO ⟨_,rfl,a,rfl,⟨vs,(s12.aLst ha).sqL⟩,iF (xs:=vs) (fun i σ G=>∃ (z3 z4:Option V) (ys:List V),σ = [some v0,some (.ref a),some (.ref wl),z3,z4]∧Same H G∧G wl = some (.lst ys)∧Dats K G (((ps.take i).filterMap (eR t)).map wyD) ys) ?_ (fun i σ G _ ⟨_,_,_,_,p,_⟩=>(p.aLst ha).sqL) ?_ ?_⟩
  · exact ⟨none,none,[],rfl,s12,aq,by rw [List.take_zero]; exact Dats.nil⟩
  · rintro i vx σ G hi ⟨z3,z4,ys,rfl,sG,hwG,dy⟩
    obtain ⟨dx,ex,hx⟩:=(sG.dats hda).getV hi
    rw [List.getElem?_map] at ex
    cases hp:ps[i]? with
    | none=>rw [hp] at ex; cases ex
    | some p =>
      rw [hp] at ex
      cases ex
      have okp:=okS.ok p (List.mem_of_getElem? hp)
      have et:ps.take (i + 1) = ps.take i ++ [p]:=by rw [List.take_add_one,hp]; rfl
      have lys:ys.length ≤ 100:=by
        have l1:=dy.length
        rw [List.length_map] at l1
        have l2:=List.length_filterMap_le (eR t) (ps.take i)
        rw [List.length_take] at l2
        omega
      refine jN ?_
      dsimp only
      refine dP (K:=K) (d:=fdD (bY p.pt t)) (bh (R:=rD) (ae (aa (k:=3) hx) (ae (aa (k:=0) (sG.dat h0)) ax)) ⟨.str p.nm,p.pt,.tup p.cs,t,rfl,okp.ok,okt,dpt,okp.dp,rfl⟩) fun vf G2 s2 qf=>?_
      have hw2:=s2 _ _ hwG
      cases hft:bY p.pt t with
      | none =>
        have eW:eR t p = none:=by unfold eR; rw [hft]; rfl
        rw [hft] at qf
        refine eU (b:=false) (ay (tY (K:=K) (aa (k:=4) qf))) (fun c=>nomatch c) (fun _ G3 s3=>gm ?_)
        refine ⟨_,_,ys,rfl,sG.trans (s2.trans s3),s3 _ _ hw2,?_⟩
        rw [et,List.filterMap_append]
        simp only [List.filterMap_cons,List.filterMap_nil,eW,List.append_nil]
        exact (s2.trans s3).dats dy
      | some f =>
        have eW:eR t p = some ⟨p.nm,p.cs,f.1⟩:=by unfold eR; rw [hft]; rfl
        rw [hft,wC] at qf
        refine eU (b:=true) (ay (tY (K:=K) (aa (k:=4) qf))) (fun _ G3 s3=>?_) (fun c=>nomatch c)
        have hw3:=s3 _ _ hw2
        have hx3:=(s2.trans s3).dat hx
        refine h8 (K:=K) (d:=.tup [.str p.nm,.tup p.cs,.tup (f.1.map toD)]) (ba (ae (aN (k:=0) (aa (k:=3) hx3) aj rfl) (ae (aN (k:=2) (aa (k:=3) hx3) aj rfl) (ae (aN (k:=0) (aa (k:=4) (s3.dat qf)) aj rfl) ax)))) hw3 (by omega) fun y G4 b4 hw4 q4=>?_
        have g4:dv K G3 G4:=b4.grow hw3 hw4
        refine ⟨_,_,ys ++ [y],rfl,fun x o hx=>b4 x o (av hx hwn) (s3 _ _ (s2 _ _ (sG _ _ hx))),hw4,?_⟩
        rw [et,List.filterMap_append,List.map_append]
        simp only [List.filterMap_cons,List.filterMap_nil,eW]
        exact Dats.append (Dats.mono g4 _ ((s2.trans s3).dats dy)) (Dats.cons q4 Dats.nil)
  · rintro σ G ⟨z3,z4,ys,rfl,sG,hwG,dy⟩
    rw [← la,List.take_length] at dy
    exact ⟨_,rfl,post wl ys G sG hwG hwn dy⟩
end
end My
end
section
namespace My
open PySem L2 PyProof.Rows
section
variable {P:Program} {w:World} {K:PySem.W.Frag} {mg:Str→Option Value} {base:Heap} {k:Nat}
theorem zJ {te:TE} {g:TG} {us:TS} {En:Ends} {σ:L2.St} {H:Hp} (h:te σ H fun x H1=>g x σ H1 (us En)):jS (m5 te g) us En σ H:=h
def AA (as:List Ar) (d:D):Prop:=∃ (w:Wy) (ls:List Int),as = [.d (.str w.nm),.d (.tup w.cs),.l (ls.map D.int)]∧(w.nm = "pick"→ls.length = 3)∧d = .int (cJ w ls)
theorem oV (T:Txt P w K mg) (IQ:FnOk P w K mg base CX0 k T.Eb T.Ed ["second","third"] (t9 K)):FnOk P w K mg base CX0 (k + 1) T.FD T.FJ ["name","cells","lengths"] (spA K AA):=by
  refine T.GH.ok sc_length_by (fun vs H Q E h=>?_) (fun cdv A outer s H vs Q E hr h=>?_)
  · obtain ⟨as,d,hd,⟨w,ls,rfl,_⟩,_⟩:=h; exact hd.length.symm
  have nd:=sc_length_by.nd
  obtain ⟨as,d,hd,⟨w,ls,rfl,h3,rfl⟩,post⟩:=h
  obtain ⟨v0,v1,v2,rfl,h0,h1,h2⟩:=oa hd
  have h0:Dat K H (.str w.nm) v0:=h0
  have h1:Dat K H (.tup w.cs) v1:=h1
  have h2:LD K H (ls.map D.int) v2:=h2
  refine ⟨_,(ao (bz (i:=3) nd rfl (Or.inl rfl) (aA aH rfl T.De bI (ah (pv 1) af)))
  (ao (bj (aF cg (pv 0) aJ (aL _)) (ao (hU (az IQ hr rfl T.Hv T.ET.kp (kO T) .nil aY (ah (aE bp (pv 2) ag (fun _ _=>rfl)) (ah (aE bp (pv 2) ag (fun _ _=>rfl)) af))) (gD rfl (bx (aV (i:=4) nd rfl (Or.inl rfl)) (bx (aV (i:=5) nd rfl (Or.inl rfl)) d8))))
  (au (bz (i:=3) nd rfl (Or.inl rfl) (bE dF (aA aH rfl T.De bI (ah (pv 4) af)) (aA aH rfl T.De bI (ah (pv 5) af)))))) aK)
  (au (aD (bE dF (pv 3) (aA (pT rfl) rfl T.J8 wd (ah (pv 2) af))))))),?_⟩
  refine dP (K:=K) (cq (aa h1)) fun vo H1 s1 qo=>?_
  have eo:=qo.intE
  subst eo
  refine jO (fun σ G=>∃ z4 z5:Option V,σ = [some v0,some v1,some v2,some (.int (m4 w ls)),z4,z5]∧Same H G) ?_ (fun hrest=>?_)
  case refine_2 =>
    refine eU (b:=decide (w.nm = "pick")) (ay (br (K:=K) (aa (k:=0) (s1.dat h0)) aG)) (fun c H2 s2=>?_) (fun c H2 s2=>?_)
    · have cp:=of_decide_eq_true c
      obtain ⟨x,y,z,rfl⟩:∃ x y z,ls = [x,y,z]:=by
        match ls,h3 cp with
        | [x,y,z],_=>exact ⟨x,y,z,rfl⟩
      have h22:=(s1.trans s2).ld h2
      refine zJ (kq (d4 (RE.use (K:=K) (d:=.int y) (e9 (k:=1) (aT (k:=2) h22) aj rfl) fun w1 H3 s3 q3=>d4 (RE.use (K:=K) (d:=.int z) (e9 (k:=2) (aT (k:=2) (s3.ld h22)) aj rfl) fun w2 H4 s4 q4=>?_))))
      have e3:=q3.intE
      have e4:=q4.intE
      subst e3 e4
      refine ⟨y,z,rfl,fun p a b us ws H5 s5 hp ha hb _ _ _ dus dws=>?_⟩
      have lu:(us.length:Int) = fm (y + fm z):=by rw [← dus.length,List.length_map,jB]
      have lw:(ws.length:Int) = fm z:=by rw [← dws.length,List.length_map,jB]
      refine ⟨p,_,rfl,hp,rfl,_,_,rfl,_,_,rfl,rfl,?_⟩
      dsimp only
      refine pq (K:=K) (d:=.int (m4 w [x,y,z])) (RE.as (eH (lg (k:=4) ha) (lg (k:=5) hb)) ?_) fun v H6 s6 q6=>?_
      · rw [lu,lw]
        unfold m4
        rw [if_pos cp]
        rfl
      · have e6:=q6.intE
        subst e6
        exact hrest _ _ ⟨_,_,rfl,s1.trans (s2.trans (s3.trans (s4.trans (s5.trans s6))))⟩
    · have cp:¬ w.nm = "pick":=of_decide_eq_false c
      refine gm (hrest _ _ ⟨none,none,?_,s1.trans s2⟩)
      have e:m4 w ls = (w.cs.length:Int):=by unfold m4; rw [if_neg cp]
      rw [e]
      rfl
  rintro σ G ⟨z4,z5,rfl,sG⟩
  exact aZ (K:=K) (d:=.int (cJ w ls)) (eH (aa (k:=3) (Dat.intI _)) (t7 (aT (k:=2) (sG.ld h2)))) fun v H' s q=>post v H' (sG.trans s) q
theorem B7:¬ ("num":Str) = "arg":=by decide +kernel
theorem BN:¬ ("arg":Str) = "num":=by decide +kernel
theorem yI {n:Int} {b:Tr} (h:eqD (toD (.num n)) (toD b) = true):b = .num n:=by
  cases b with
  | num m =>
    simp only [toD,d3,bS,cA,cU,ck,dZ,dY,Bool.and_false,Bool.and_true,Bool.and_eq_true,decide_eq_true_eq] at h
    rw [h.2]
  | arg m =>
    simp only [toD,d3,bS,cA,cU,ck,dZ,dY,Bool.and_false,Bool.and_true,Bool.and_eq_true,decide_eq_true_eq] at h
    exact absurd h.1 B7
  | two o x y =>
    simp only [toD,d3,bS,cA,cU,ck,dZ,dY,Bool.and_false,Bool.and_true,Bool.and_eq_true,decide_eq_true_eq] at h
    cases h
  | pick x y z =>
    simp only [toD,d3,bS,cA,cU,ck,dZ,dY,Bool.and_false,Bool.and_true,Bool.and_eq_true,decide_eq_true_eq] at h
    cases h
theorem yH {n:Int} {b:Tr} (h:eqD (toD (.arg n)) (toD b) = true):b = .arg n:=by
  cases b with
  | num m =>
    simp only [toD,d3,bS,cA,cU,ck,dZ,dY,Bool.and_false,Bool.and_true,Bool.and_eq_true,decide_eq_true_eq] at h
    exact absurd h.1 BN
  | arg m =>
    simp only [toD,d3,bS,cA,cU,ck,dZ,dY,Bool.and_false,Bool.and_true,Bool.and_eq_true,decide_eq_true_eq] at h
    rw [h.2]
  | two o x y =>
    simp only [toD,d3,bS,cA,cU,ck,dZ,dY,Bool.and_false,Bool.and_true,Bool.and_eq_true,decide_eq_true_eq] at h
    cases h
  | pick x y z =>
    simp only [toD,d3,bS,cA,cU,ck,dZ,dY,Bool.and_false,Bool.and_true,Bool.and_eq_true,decide_eq_true_eq] at h
    cases h
theorem yJ {o:Str} {x y b:Tr} (h:eqD (toD (.two o x y)) (toD b) = true):∃ x' y',b = .two o x' y'∧eqD (toD x) (toD x') = true∧eqD (toD y) (toD y') = true:=by
  cases b with
  | num m =>
    simp only [toD,d3,bS,cA,cU,ck,dZ,dY,Bool.and_false,Bool.and_true,Bool.and_eq_true,decide_eq_true_eq] at h
    cases h
  | arg m =>
    simp only [toD,d3,bS,cA,cU,ck,dZ,dY,Bool.and_false,Bool.and_true,Bool.and_eq_true,decide_eq_true_eq] at h
    cases h
  | two o' x' y' =>
    simp only [toD,d3,bS,cA,cU,ck,dZ,dY,Bool.and_false,Bool.and_true,Bool.and_eq_true,decide_eq_true_eq] at h
    exact ⟨x',y',by rw [h.1],h.2.1,h.2.2⟩
  | pick x y z =>
    simp only [toD,d3,bS,cA,cU,ck,dZ,dY,Bool.and_false,Bool.and_true,Bool.and_eq_true,decide_eq_true_eq] at h
    cases h
theorem wB {x y z b:Tr} (h:eqD (toD (.pick x y z)) (toD b) = true):∃ x' y' z',b = .pick x' y' z'∧eqD (toD x) (toD x') = true∧eqD (toD y) (toD y') = true∧eqD (toD z) (toD z') = true:=by
  cases b with
  | num m =>
    simp only [toD,d3,bS,cA,cU,ck,dZ,dY,Bool.and_false,Bool.and_true,Bool.and_eq_true,decide_eq_true_eq] at h
    cases h
  | arg m =>
    simp only [toD,d3,bS,cA,cU,ck,dZ,dY,Bool.and_false,Bool.and_true,Bool.and_eq_true,decide_eq_true_eq] at h
    cases h
  | two o' x' y' =>
    simp only [toD,d3,bS,cA,cU,ck,dZ,dY,Bool.and_false,Bool.and_true,Bool.and_eq_true,decide_eq_true_eq] at h
    cases h
  | pick x' y' z' =>
    simp only [toD,d3,bS,cA,cU,ck,dZ,dY,Bool.and_false,Bool.and_true,Bool.and_eq_true,decide_eq_true_eq] at h
    exact ⟨x',y',z',rfl,h.2.1,h.2.2.1,h.2.2.2⟩
theorem zS (a:Tr):∀ b:Tr,eqD (toD a) (toD b) = true→a = b:=by
  induction a with
  | num n=>intro b h; exact (yI h).symm
  | arg n=>intro b h; exact (yH h).symm
  | two o x y ihx ihy =>
    intro b h
    obtain ⟨x',y',rfl,h1,h2⟩:=yJ h
    rw [ihx x' h1,ihy y' h2]
  | pick x y z ihx ihy ihz =>
    intro b h
    obtain ⟨x',y',z',rfl,h1,h2,h3⟩:=wB h
    rw [ihx x' h1,ihy y' h2,ihz z' h3]
theorem fU:∀ t:Tr,dS (toD t) = aR t
  | .num n=>by unfold toD aR; simp [dS,bJ]
  | .arg n=>by unfold toD aR; simp [dS,bJ]
  | .two o a b=>by unfold toD aR; simp [dS,bJ,fU a,fU b]
  | .pick a b c=>by unfold toD aR; simp [dS,bJ,fU a,fU b,fU c]
theorem fk:∀ t:Tr,noL (toD t) = true
  | .num n=>by unfold toD; simp [noL,cM]
  | .arg n=>by unfold toD; simp [noL,cM]
  | .two o a b=>by unfold toD; simp [noL,cM,fk a,fk b]
  | .pick a b c=>by unfold toD; simp [noL,cM,fk a,fk b,fk c]
theorem qF:∀ ts:List Tr,cM (ts.map toD) = true
  | []=>by simp [cM]
  | t :: ts=>by simp [cM,fk t,qF ts]
theorem nq {n:Nat}:∀ ts:List Tr,(∀ x ∈ ts,aR x ≤ n)→bJ (ts.map toD) ≤ n
  | [],_=>by simp [bJ]
  | t :: ts,h=>by
    have h1:=h t (by simp)
    have h2:=nq ts fun x hx=>h x (by simp [hx])
    simp only [List.map_cons,bJ,fU]
    omega
theorem qj {x:Tr}:∀ {ts:List Tr},(∀ y ∈ ts,okT y)→okT x→x ∈ ts→∃ j:Nat,ts[j]? = some x∧∀ (m:Nat) e,m < j→(ts.map toD)[m]? = some e→eqD e (toD x) = false
  | [],_,_,h=>by simp at h
  | y :: ts,hok,hx,h=>by
    by_cases e:eqD (toD y) (toD x) = true
    · have:=zS y x e
      exact ⟨0,by rw [this]; rfl,fun m _ hm=>absurd hm (Nat.not_lt_zero m)⟩
    · have hmem:x ∈ ts:=by
        rcases List.mem_cons.mp h with rfl | h
        · exact absurd (iE _ (fk x)) e
        · exact h
      obtain ⟨j,h1,h2⟩:=qj (fun z hz=>hok z (List.mem_cons_of_mem _ hz)) hx hmem
      refine ⟨j + 1,by simpa using h1,fun m d hm hd=>?_⟩
      cases m with
      | zero =>
        have e':toD y = d:=by simpa using hd
        rw [← e']
        exact Bool.eq_false_iff.mpr e
      | succ m=>exact h2 m d (by omega) (by simpa using hd)
theorem pJ:∀ bs:List Bst,(bs.map fun b=>isN (bD b)).any id = (dD bs).isNone
  | []=>rfl
  | none :: bs=>rfl
  | some b :: bs=>by
    have ih:=pJ bs
    show (false || (bs.map fun b=>isN (bD b)).any id) = ((dD bs).map (b :: ·)).isNone
    rw [ih,Bool.false_or]
    cases dD bs <;> rfl
theorem pK:∀ {bs:List Bst} {cs:List (Int × D)},dD bs = some cs→bs = cs.map some
  | [],cs,h=>by cases h; rfl
  | none :: bs,cs,h=>by cases h
  | some b :: bs,cs,h=>by
    have h':(dD bs).map (b :: ·) = some cs:=h
    cases e:dD bs with
    | none=>rw [e] at h'; cases h'
    | some r =>
      rw [e] at h'
      cases h'
      rw [pK e]
      rfl
theorem lQ:∀ p:Pa,fz p ≤ 2 ^ (cx p - 1)
  | .hole _=>by simp [fz,cx]
  | .gap _ _=>by simp [fz,cx]
  | .slot _=>by simp [fz,cx]
  | .num _=>by simp [fz,cx]
  | .two o a b=>by
    have h1:=lQ a
    have h2:=lQ b
    have d1:=j5 a
    have d2:=j5 b
    have e:cx (.two o a b) - 1 = (max (cx a) (cx b) - 1) + 1:=by simp only [cx]; omega
    rw [e,Nat.pow_succ]
    have p1:2 ^ (cx a - 1) ≤ 2 ^ (max (cx a) (cx b) - 1):=Nat.pow_le_pow_right (by decide) (by omega)
    have p2:2 ^ (cx b - 1) ≤ 2 ^ (max (cx a) (cx b) - 1):=Nat.pow_le_pow_right (by decide) (by omega)
    simp only [fz]
    omega
def vR (as:List Ar) (d:D):Prop:=∃ (ps:List Pc) (t:Tr) (f:Tr→Bst) (ts:List Tr),as = [.d (toD t),.l (ps.map pcD),.l (ts.map toD),.l (ts.map fun x=>bD (f x))]∧iw ps∧okT t∧aR t ≤ 8∧ts.length ≤ 200∧(∀ x ∈ ts,okT x∧aR x ≤ 8) ∧
  (∀ w ∈ dJ ps t,∀ x ∈ w.ts,x ∈ ts)∧d = bD (jf ps f t)
theorem pG {ps:List Pc} (h:∀ p ∈ ps,zl p) {t:Tr} {w:Wy} (hw:w ∈ dJ ps t):w.ts.length ≤ 8∧(w.nm = "pick"→w.ts.length = 3):=by
  unfold dJ at hw
  split at hw
  · rename_i c
    rw [List.mem_singleton.mp hw]
    cases t with
    | pick a b c=>exact ⟨by simp [bW],fun _=>rfl⟩
    | _=>cases c
  · obtain ⟨p,h1,h2⟩:=List.mem_filterMap.mp hw
    unfold eR at h2
    cases e:bY p.pt t with
    | none=>rw [e] at h2; cases h2
    | some f =>
      rw [e] at h2
      cases h2
      refine ⟨?_,fun z=>absurd z (h p h1).nm⟩
      show f.1.length ≤ 8
      rw [j7 _ _ _ e]
      have:=lQ p.pt
      have hd:=(h p h1).dp
      calc fz p.pt ≤ 2 ^ (cx p.pt - 1):=this
        _ ≤ 2 ^ 2:=Nat.pow_le_pow_right (by decide) (by omega)
        _ ≤ 8:=by decide
theorem kS (T:Txt P w K mg) (IA:FnOk P w K mg base CX0 k T.F5 T.F9 ["tree","some"] (mG K pI)) (JI:FnOk P w K mg base CX0 k T.FD T.FJ ["name","cells","lengths"] (spA K AA)):FnOk P w K mg base CX0 (k + 1) T.Ep T.Ew ["tree","some","done","bests"] (spA K vR):=by
  refine T.Ff.ok sc_best_by_ways (fun vs H Q E h=>?_) (fun cdv A outer s H vs Q E hr h=>?_)
  · obtain ⟨as,d,hd,⟨ps,t,f,ts,rfl,_⟩,_⟩:=h; exact hd.length.symm
  have nd:=sc_best_by_ways.nd
  obtain ⟨as,d,hd,⟨ps,t,f,ts,rfl,okS,okt,dpt,fts,okts,hts,rfl⟩,post⟩:=h
  obtain ⟨v0,v1,v2,v3,rfl,h0,h1,h2,h3⟩:=Cw hd
  have h0:Dat K H (toD t) v0:=h0
  have h1:LD K H (ps.map pcD) v1:=h1
  have h2:LD K H (ts.map toD) v2:=h2
  have h3:LD K H (ts.map fun x=>bD (f x)) v3:=h3
  refine ⟨_,(ao (bj (aF cg (aE aI (pv 0) ag (fun _ _=>rfl)) aJ (aL _)) (au (aD (aX (ah (bg (v:=.int 3) rfl T.EG ⟨_,rfl⟩) (ah (aX af) af))))) aK)
  (ao (bz (i:=4) nd rfl (Or.inl rfl) dn)
  (ao (hV PassesOwn.never rfl (dq (az IA hr rfl T.IG T.GX.kp (m8 T) .nil aY (ah (pv 0) (ah (pv 1) af)))) (gD rfl (bx (aV (i:=5) nd rfl (Or.inl rfl)) (bx (aV (i:=6) nd rfl (Or.inl rfl)) (bx (aV (i:=7) nd rfl (Or.inl rfl)) d8)))) (ao (dI (i:=8) (own:=["one"]) (fr:=[2,3]) (N':=["one","done","bests"]) (iN (pv 7)) rfl (by show cj ["tree","some","done","bests","best","name","cells","trees","within","length"] (fun x=>(aw b9).names.lookup x) _ _ _ _ = true; decide +kernel) rfl (fun _ _ _ _ _=>(aV (i:=0) (by show List.Nodup [("one":Str),("done":Str),("bests":Str)]; decide +kernel) rfl (Or.inl rfl))) (fun _ _ _ _ _=>bX) (fun _ _ _ _ _=>(aE (r:=sA K) bp (pv 2) (Be (r:=kZ K) K rfl PySem.F.plainAttrs_list PySem.F.slot_list_index PySem.F.type_list_index (uP hr) (pv 1) (ah (pv 0) af)) (fun _ _=>rfl))) nd rfl rfl rfl)
  (ao (bj (bq (aA (wq rfl) rfl T.Kj AL (ah (dO (own:=["one"]) (fr:=[]) (N':=["one"]) (dq (pv 8)) rfl (by show cj ["tree","some","done","bests","best","name","cells","trees","within","length"] (fun x=>(aw b9).names.lookup x) _ _ _ _ = true; decide +kernel) rfl (fun _ _ _ _ _=>(aV (i:=0) (by show List.Nodup [("one":Str)]; decide +kernel) rfl (Or.inl rfl))) (fun _ _ _ _ _=>bX) (fun _ _ _ _ _=>(bZ ml (pv 0) dn (aL _)))) af)) (fun _=>rfl)) (au qS) aK)
  (ao (bz (i:=9) nd rfl (Or.inl rfl) (az JI hr rfl T.IM T.GH.kp (pN T) .nil aY (ah (pv 5) (ah (pv 6) (ah (dO (own:=["one"]) (fr:=[]) (N':=["one"]) (dq (pv 8)) rfl (by show cj ["tree","some","done","bests","best","name","cells","trees","within","length"] (fun x=>(aw b9).names.lookup x) _ _ _ _ = true; decide +kernel) rfl (fun _ _ _ _ _=>(aV (i:=0) (by show List.Nodup [("one":Str)]; decide +kernel) rfl (Or.inl rfl))) (fun _ _ _ _ _=>bX) (fun _ _ _ _ _=>(aE (r:=o6 K) aI (pv 0) ag (fun _ _=>rfl)))) af)))))
  (au (bj (PW.pt (cQ (aF ml (pv 4) dn (aL _)) (de (aF nI (pv 9) (aE aI (pv 4) ag (fun _ _=>rfl)) (aL _))))) (au (bz (i:=4) nd rfl (Or.inl rfl) (aX (ah (pv 9) (ah (aX (ah (pv 5) (ah (dN dC rfl T.Ei cV (ah (dO (own:=["one"]) (fr:=[]) (N':=["one"]) (dq (pv 8)) rfl (by show cj ["tree","some","done","bests","best","name","cells","trees","within","length"] (fun x=>(aw b9).names.lookup x) _ _ _ _ = true; decide +kernel) rfl (fun _ _ _ _ _=>(aV (i:=0) (by show List.Nodup [("one":Str)]; decide +kernel) rfl (Or.inl rfl))) (fun _ _ _ _ _=>bX) (fun _ _ _ _ _=>(aE (r:=o6 K) aI (pv 0) ag (fun _ _=>rfl)))) af)) af))) af))))) aK))))))
  (au (aD (pv 4)))))),?_⟩
  obtain ⟨kd,r,ek,hpk,hcall,hkids⟩:=wF t okt
  have h0':Dat K H (.tup (.str kd :: r)) v0:=by rw [← ek]; exact h0
  refine aO (K:=K) (b:=false) (RT.as (ay (br (aN (k:=0) (aa h0') aj rfl) aG)) (decide_eq_false hcall)) (fun c=>nomatch c) (fun _ H1 s1=>?_)
  refine dt (x9 ?_)
  refine cO (RC.use (K:=K) (fq (R:=pI) (cR (aa (k:=0) (s1.dat h0)) (dB (aT (k:=1) (s1.ld h1)) bK)) ⟨ps,t,rfl,okS,okt,dpt,rfl⟩) fun l ys H2 hl s2 hy hdy=>?_)
  have s12:=s1.trans s2
  have ly:=hdy.length
  rw [List.length_map] at ly
  refine ⟨l,rfl,⟨ys,SqL.of hy⟩,iF (xs:=ys) (fun i σ G=>∃ (vb:V) (z5 z6 z7 z8 z9:Option V),σ = [some v0,some v1,some v2,some v3,some vb,z5,z6,z7,z8,z9]∧Same H2 G∧Dat K G (bD (((dJ ps t).take i).foldl (fE f) none)) vb) ?_ (fun i σ G _ ⟨_,_,_,_,_,_,_,p,_⟩=>SqL.of (p _ _ hy)) ?_ ?_⟩
  · exact ⟨.non,_,_,_,_,_,rfl,Same.refl _,Dat.nonI⟩
  · rintro i vx σ G hi ⟨vb,z5,z6,z7,z8,z9,rfl,sG,hb⟩
    have sHG:=s12.trans sG
    obtain ⟨dx,ex,hx⟩:=(sG.dats hdy).getV hi
    rw [List.getElem?_map] at ex
    cases hw:(dJ ps t)[i]? with
    | none=>rw [hw] at ex; cases ex
    | some w =>
      rw [hw] at ex
      cases ex
      have hwm:=List.mem_of_getElem? hw
      obtain ⟨few,few3⟩:=pG okS.ok hwm
      have et:(dJ ps t).take (i + 1) = (dJ ps t).take i ++ [w]:=by rw [List.take_add_one,hw]; rfl
      rw [et,List.foldl_append,List.foldl_cons,List.foldl_nil]
      generalize ((dJ ps t).take i).foldl (fE f) none = best at hb ⊢
      obtain ⟨pa,us,rfl,hpa,hus⟩:=(show Dat K G (.tup [.str w.nm,.tup w.cs,.tup (w.ts.map toD)]) vx from hx).tupE
      obtain ⟨x5,x6,x7,rfl,k5,k6,k7⟩:=p6 hus
      refine ⟨pa,_,rfl,hpa,rfl,_,_,rfl,_,_,rfl,_,_,rfl,rfl,?_⟩
      dsimp only
      refine fg (K:=K) (o8 (aa (k:=7) k7) (by rw [List.length_map]; omega) (w.ts.map fun x=>bD (f x)) (by rw [List.length_map,List.length_map]) rfl (fun G1 j c v d s1 hc hd hv=>?_)) fun lw zs G2 hlw s2 hzs dzs=>?_
      · rw [List.getElem?_map] at hc hd
        cases hx:w.ts[j]? with
        | none=>rw [hx] at hc; cases hc
        | some x =>
          rw [hx] at hc hd
          cases hc
          cases hd
          have hxt:=hts w hwm x (List.mem_of_getElem? hx)
          obtain ⟨m,hm1,hm2⟩:=qj (fun y hy=>(okts y hy).1) (okts x hxt).1 hxt
          have sH1:=sHG.trans s1
          refine e9 (k:=m) (aT (k:=2) (sH1.ld h3)) (xU (k:=1) (sH1.ld h2) (aa (k:=0) hv) (qF ts) (fk x) (Nat.le_trans (nq (n:=8) ts fun y hy=>(okts y hy).2) (by decide)) (by rw [List.length_map]; omega) ⟨toD x,by rw [List.getElem?_map,hm1]; rfl,iE _ (fk x)⟩ hm2) (by rw [List.getElem?_map,hm1]; rfl)
      have hL2:LD K G2 (w.ts.map fun x=>bD (f x)) (.ref lw):=LD.of hzs dzs
      have eM:(w.ts.map fun x=>bD (f x)) = (w.ts.map f).map bD:=by rw [List.map_map]; rfl
      have lM:(w.ts.map f).length ≤ 8:=by rw [List.length_map]; exact few
      rw [eM] at hL2
      generalize hfb:w.ts.map f = fb at hL2 lM
      have eS:∀ b,fE f b w = rg b w (dD fb):=fun b=>by unfold fE; rw [hfb]
      rw [eS]
      refine aO (K:=K) (b:=(dD fb).isNone) (RT.as (aW (zC (bs:=fb.map fun b=>isN (bD b)) (gL (aT (k:=8) hL2) (by rw [List.length_map]; omega) _ (by simp) rfl (fun G1 j c v d s1 hc hd hv=>?_)))) (pJ fb)) (fun cN G3 s3=>zK ?_) (fun cS G3 s3=>?_)
      · rw [List.getElem?_map] at hc hd
        rw [List.getElem?_map] at hd
        cases hx:fb[j]? with
        | none=>rw [hx] at hc; cases hc
        | some b =>
          rw [hx] at hc hd
          cases hc
          cases hd
          exact iO (aa (k:=0) hv)
      · have eN:dD fb = none:=by cases e:dD fb with | none=>rfl | some _=>rw [e] at cN; cases cN
        refine ⟨vb,_,_,_,_,_,rfl,sG.trans (s2.trans s3),?_⟩
        rw [eN]
        exact (s2.trans s3).dat hb
      · cases eb:dD fb with
        | none=>rw [eb] at cS; cases cS
        | some bs =>
          have efb:=pK eb
          have lbs:bs.length ≤ 8:=by rw [efb,List.length_map] at lM; exact lM
          have lbw:bs.length = w.ts.length:=by
            have:=congrArg List.length hfb
            rw [efb,List.length_map,List.length_map] at this
            exact this.symm
          have hL3:=s3.ld hL2
          have s23:=s2.trans s3
          refine dP (K:=K) (d:=.int (cJ w (bs.map (·.1)))) (bP (R:=AA) (cR (aa (k:=5) (s23.dat k5)) (cR (aa (k:=6) (s23.dat k6)) (dB (ds:=(bs.map (·.1)).map D.int) (nM (gL (aT (k:=8) hL3) (by rw [List.length_map]; omega) _ (by rw [efb]; simp) rfl (fun G1 j c v d s1 hc hd hv=>?_))) bK))) ⟨w,bs.map (·.1),rfl,fun z=>by rw [List.length_map,lbw]; exact few3 z,rfl⟩) fun vl G4 s4 q4=>?_
          · rw [efb] at hc
            simp only [List.getElem?_map] at hc hd
            cases hx:bs[j]? with
            | none=>rw [hx] at hc; cases hc
            | some b =>
              rw [hx] at hc hd
              cases hc
              cases hd
              exact aN (k:=0) (aa (k:=0) hv) aj rfl
          have s24:=s23.trans s4
          have el:=q4.intE
          subst el
          have hb4:=s24.dat hb
          have new:∀ {G5:Hp},Same G4 G5→RE K (vE (bB (eJ 9) (bB (vE (bB (eJ 5) (bB (tCB (fun xs H Q=>∃ p ys,xs = [.ref p]∧((SqL K H p ys∧∀ l,H l = none→Q (.ref l) (upd H l (.tup ys)))∨(SqT K H p ys∧Q (.ref p) H))) (bB (fT (nB K (eJ 8)) (mkS ["one"] []) (cf 0) eV (tOp (o6 K) (eJ 0) (tC (.int 1)))) cH)) cH))) cH))) [some v0,some v1,some v2,some v3,some vb,some x5,some x6,some x7,some (.ref lw),some (.int (cJ w (bs.map (·.1))))] G5 (.tup [.int (cJ w (bs.map (·.1))),cvD w.nm bs]):=fun {G5} s5=>by
            refine ba (ae (aa (k:=9) (Dat.intI _)) (ae (ba (ae (aa (k:=5) ((s24.trans s5).dat k5)) (ae (vt (es:=bs.map (·.2)) (gL (aT (k:=8) ((s4.trans s5).ld hL3)) (by rw [List.length_map]; omega) _ (by rw [efb]; simp) rfl (fun G1 j c v d s1 hc hd hv=>?_))) ax))) ax))
            rw [efb] at hc
            simp only [List.getElem?_map] at hc hd
            cases hx:bs[j]? with
            | none=>rw [hx] at hc; cases hc
            | some b =>
              rw [hx] at hc hd
              cases hc
              cases hd
              exact aN (k:=1) (aa (k:=0) hv) aj rfl
          have done:∀ {G5:Hp} {d:D},Same G4 G5→d = bD (gY best (cJ w (bs.map (·.1))) (cvD w.nm bs))→∀ v,Dat K G5 d v→∃ (vb:V) (z5 z6 z7 z8 z9:Option V),[some v0,some v1,some v2,some v3,some v,some x5,some x6,some x7,some (.ref lw),some (.int (cJ w (bs.map (·.1))))] = [some v0,some v1,some v2,some v3,some vb,z5,z6,z7,z8,z9]∧Same H2 G5∧Dat K G5 (bD (gY best (cJ w (bs.map (·.1))) (cvD w.nm bs))) vb:=fun {G5 d} s5 e v hv =>
            ⟨v,_,_,_,_,_,rfl,sG.trans (s24.trans s5),e ▸ hv⟩
          cases best with
          | none =>
            refine eU (b:=true) (RT.as (bT (b:=true) (c:=true) (ay (iO (K:=K) (aa (k:=4) hb4))) fun c=>nomatch c) rfl) (fun _ G5 s5=>?_) (fun c=>nomatch c)
            exact pq (K:=K) (new s5) fun v G6 s6 q6=>done (s5.trans s6) rfl v q6
          | some b0 =>
            have hb4':Dat K G4 (.tup [.int b0.1,b0.2]) vb:=hb4
            refine eU (b:=decide (cJ w (bs.map (·.1)) < b0.1)) (RT.as (bT (b:=false) (ay (iO (K:=K) (aa (k:=4) hb4'))) fun _=>ay (d5 (p:=fun i j=>decide (i < j)) (aa (k:=9) (Dat.intI _)) (aN (k:=0) (aa (k:=4) hb4') aj rfl))) (Bool.false_or _)) (fun c G5 s5=>?_) (fun c G5 s5=>gm ?_)
            · refine pq (K:=K) (new s5) fun v G6 s6 q6=>done (s5.trans s6) ?_ v q6
              show _ = bD (if cJ w (bs.map (·.1)) < b0.1 then _ else _)
              rw [if_pos (of_decide_eq_true c)]
              rfl
            · refine done (d:=bD (some b0)) s5 ?_ vb (s5.dat hb4')
              show _ = bD (if cJ w (bs.map (·.1)) < b0.1 then _ else _)
              rw [if_neg (of_decide_eq_false c)]
  · rintro σ G ⟨vb,z5,z6,z7,z8,z9,rfl,sG,hb⟩
    rw [← ly,List.take_length] at hb
    exact ⟨_,rfl,post vb G (s12.trans sG) hb⟩
end
end My
end
section
namespace My
open PySem L2 PyProof.Rows
section
variable {P:Program} {w:World} {K:PySem.W.Frag} {mg:Str→Option Value} {base:Heap} {k:Nat}
theorem e8:∀ (t:Tr) (j:Nat) (x:Tr),(aM t)[j]? = some x→∃ r,(aM t).drop j = aM x ++ r
  | .num n,j,x,h=>by
    cases j with
    | zero=>cases h; exact ⟨[],rfl⟩
    | succ j=>simp [aM] at h
  | .arg n,j,x,h=>by
    cases j with
    | zero=>cases h; exact ⟨[],rfl⟩
    | succ j=>simp [aM] at h
  | .two o a b,j,x,h=>by
    cases j with
    | zero=>cases h; exact ⟨[],by rw [List.drop_zero,List.append_nil]⟩
    | succ j =>
      have h':(aM a ++ aM b)[j]? = some x:=by simpa [aM] using h
      show ∃ r,(aM a ++ aM b).drop j = aM x ++ r
      by_cases hj:j < (aM a).length
      · rw [List.getElem?_append_left hj] at h'
        obtain ⟨r,e⟩:=e8 a j x h'
        exact ⟨r ++ aM b,by rw [List.drop_append_of_le_length (Nat.le_of_lt hj),e,List.append_assoc]⟩
      · rw [List.getElem?_append_right (by omega)] at h'
        obtain ⟨r,e⟩:=e8 b _ x h'
        refine ⟨r,?_⟩
        rw [List.drop_append,List.drop_of_length_le (by omega),List.nil_append]
        exact e
  | .pick a b c,j,x,h=>by
    cases j with
    | zero=>cases h; exact ⟨[],by rw [List.drop_zero,List.append_nil]⟩
    | succ j =>
      have h':(aM a ++ (aM b ++ aM c))[j]? = some x:=by simpa [aM] using h
      show ∃ r,(aM a ++ aM b ++ aM c).drop j = aM x ++ r
      rw [List.append_assoc]
      by_cases hj:j < (aM a).length
      · rw [List.getElem?_append_left hj] at h'
        obtain ⟨r,e⟩:=e8 a j x h'
        exact ⟨r ++ (aM b ++ aM c),by rw [List.drop_append_of_le_length (Nat.le_of_lt hj),e,List.append_assoc]⟩
      · rw [List.getElem?_append_right (by omega)] at h'
        rw [List.drop_append,List.drop_of_length_le (l:=aM a) (by omega),List.nil_append]
        generalize j - (aM a).length = i at h' ⊢
        by_cases hi:i < (aM b).length
        · rw [List.getElem?_append_left hi] at h'
          obtain ⟨r,e⟩:=e8 b i x h'
          exact ⟨r ++ aM c,by rw [List.drop_append_of_le_length (Nat.le_of_lt hi),e,List.append_assoc]⟩
        · rw [List.getElem?_append_right (by omega)] at h'
          obtain ⟨r,e⟩:=e8 c _ x h'
          refine ⟨r,?_⟩
          rw [List.drop_append,List.drop_of_length_le (by omega),List.nil_append]
          exact e
theorem m6 {t x y:Tr} {i:Nat} (hi:i < aP t) (h:(aM t)[aP t - 1 - i]? = some x) (hy:y ∈ (bW x).flatMap aM):y ∈ (aM t).reverse.take i:=by
  obtain ⟨r,e⟩:=e8 t _ x h
  have e2:(aM t).drop (aP t - i) = (bW x).flatMap aM ++ r:=by
    have:aP t - i = aP t - 1 - i + 1:=by omega
    rw [this,← List.drop_drop,e,eG x]
    rfl
  rw [List.take_reverse,List.mem_reverse,bA,e2]
  exact List.mem_append_left _ hy
theorem zH {α:Type} {l:List α} {i:Nat} (h:i < l.length):l.reverse[i]? = l[l.length - 1 - i]?:=List.getElem?_reverse h
def rB (as:List Ar) (d:D):Prop:=∃ (ps:List Pc) (t:Tr) (b:Int × D),as = [.d (toD t),.l (ps.map pcD)]∧iw ps∧okT t∧aR t ≤ 8∧aP t ≤ 200∧bf ps t = some b∧d = .tup [.int b.1,b.2]
theorem Bo {ta:TA} {g:TG} {tb:TS} {En:Ends} {σ:L2.St} {H:Hp} (h:ta σ H fun vs H1=>∃ a xs,vs = [.ref a]∧SqL K H1 a xs∧∃ W:Nat→Nat→L2.St→Hp→Prop,(∃ m,W 0 m σ H1)∧∀ i m σ H,W i m σ H →
      ((Itv K a xs).stop i H∧En.nx σ H)∨((Itv K a xs).go i H∧∃ N:L2.St→Hp→Prop,(∀ σ' H',N σ' H'→∃ m',m' < m∧W (i + 1) m' σ' H')∧∀ x H',(Itv K a xs).yld i H x H'→g x σ H' fun σ2 H2=>tb { En with nx:=N,ct:=N,bk:=En.nx } σ2 H2)):BD (B0 K ta) g tb En σ H:=h
theorem tO {ps:List Pc} (h:iw ps):∀ p ∈ ps,fA p.pt = true:=fun p hp=>(h.ok p hp).nh
def vN (N:Addr) (as:List Ar) (C:Addr):Prop:=∃ (ps:List Pc) (t:Tr),as = [.d (toD t),.l (ps.map pcD)]∧iw ps∧okT t∧aR t ≤ 8∧aP t ≤ 200∧bf ps t = none∧C = N
theorem kj (T:Txt P w K mg) (IU:FnOk P w K mg base CX0 k T.Gm T.Gx ["tree"] (iz K (jV 8))) (IT:FnOk P w K mg base CX0 k T.Ep T.Ew ["tree","some","done","bests"] (spA K vR)):FnOk P w K mg base (CX1 P w) (k + 1) T.DK T.DL ["tree","some"] (mF K rB (vN T.C0)):=by
  refine T.Ef.ok1 sc_best_covering (fun vs H Q E h=>?_) (fun cdv A outer s H vs Q E hr h=>?_)
  · obtain ⟨as,hd,h⟩:=h; rcases h with ⟨d,⟨ps,t,b,rfl,_⟩,_⟩ | ⟨C,⟨ps,t,rfl,_⟩,_⟩ <;> exact hd.length.symm
  have nd:=sc_best_covering.nd
  obtain ⟨as,hd,h⟩:=h
  obtain ⟨ps,t,rfl,okS,okt,dpt,szt,fin⟩:∃ (ps:List Pc) (t:Tr),as = [.d (toD t),.l (ps.map pcD)]∧iw ps∧okT t∧aR t ≤ 8∧aP t ≤ 200∧((∃ b:Int × D,bf ps t = some b∧∀ v H',Same H H'→Dat K H' (.tup [.int b.1,b.2]) v→Q v H')∨(bf ps t = none∧∀ H',Same H H'→E (.ref T.C0) none H')):=by
    rcases h with ⟨d,⟨ps,t,b,rfl,okS,okt,dpt,szt,hbst,rfl⟩,post⟩ | ⟨C,⟨ps,t,rfl,okS,okt,dpt,szt,hbst,rfl⟩,post⟩
    · exact ⟨ps,t,rfl,okS,okt,dpt,szt,.inl ⟨b,hbst,post⟩⟩
    · exact ⟨ps,t,rfl,okS,okt,dpt,szt,.inr ⟨hbst,post⟩⟩
  obtain ⟨v0,v1,rfl,h0,h1⟩:=n6 hd
  have h0:Dat K H (toD t) v0:=h0
  have h1:LD K H (ps.map pcD) v1:=h1
  refine ⟨_,(ao (bz (i:=2) nd rfl (Or.inl rfl) (bC af))
  (ao (bz (i:=3) nd rfl (Or.inl rfl) (bC af))
  (ao (PS.nox (hV PassesOwn.never rfl (Bh rfl T.Jk (ah (az IU hr rfl T.Ji T.HG.kp (pP T) .nil aY (ah (pv 0) af)) af)) (aV (i:=4) nd rfl (Or.inl rfl)) (ao (bF (cZ PySem.F.plainAttrs_list PySem.F.slot_list_append PySem.F.type_list_append bL (pv 3) (ah (az IT hr rfl T.HM T.Ff.kp (lE T) .nil aY (ah (pv 4) (ah (pv 1) (ah (pv 2) (ah (pv 3) af))))) af)))
  (au (bF (cZ PySem.F.plainAttrs_list PySem.F.slot_list_append PySem.F.type_list_append bL (pv 2) (ah (pv 4) af)))))))
  (ao (bj (aF ml (aE bp (pv 3) (xw sO ag) (fun _ _=>rfl)) dn (aL _)) (au (xF PySem.F.excBase_ValueError rfl PySem.F.excBase_ValueError T.Ge BH rfl T.Fs (ah aJ af))) aK)
  (au (aD (aE bp (pv 3) (xw sO ag) (fun _ _=>rfl)))))))),?_⟩
  refine dt ⟨bU (by decide),fun ld hld=>?_⟩
  refine dt ⟨bU (by decide),fun lb hlb=>?_⟩
  have ndb:ld ≠ lb:=av aq hlb
  have s1:Same H (upd (upd H ld (.lst [])) lb (.lst [])):=(aC hld _).trans (aC hlb _)
  have hlb0:H lb = none:=(aC hld _).free hlb
  have hd1:upd (upd H ld (.lst [])) lb (.lst []) ld = some (.lst []):=by rw [aB ndb]; exact aq
  have hb1:upd (upd H ld (.lst [])) lb (.lst []) lb = some (.lst []):=aq
  generalize upd (upd H ld (.lst [])) lb (.lst []) = G1 at s1 hd1 hb1 ⊢
  refine cO (Bo (K:=K) (d4 (RC.use (K:=K) (hW (R:=jV 8) (ae (aa (k:=0) (s1.dat h0)) ax) ⟨t,rfl,okt,dpt,szt,rfl⟩) fun lw xs G2 hlw s2 hxs dxs=>?_)))
  have nwd:ld ≠ lw:=av hd1 hlw
  have nwb:lb ≠ lw:=av hb1 hlw
  have lx:=dxs.length
  rw [List.length_map,bA] at lx
  refine ⟨lw,xs,rfl,SqL.of hxs,yN (xs:=xs) (fun i σ G=>∃ (z4:Option V) (us ws:List V),σ = [some v0,some v1,some (.ref ld),some (.ref lb),z4]∧Same H G∧G lw = some (.lst xs)∧Dats K G ((aM t).map toD) xs∧G ld = some (.lst us)∧Dats K G (((aM t).reverse.take i).map toD) us∧G lb = some (.lst ws)∧Dats K G (((aM t).reverse.take i).map fun x=>bD (bf ps x)) ws) ?_ (fun i σ G _ ⟨_,_,_,_,_,p,_⟩=>SqL.of p) ?_ ?_⟩
  · exact ⟨none,[],[],rfl,s1.trans s2,hxs,dxs,s2 _ _ hd1,Dats.nil,s2 _ _ hb1,Dats.nil⟩
  · rintro i vx σ G hi hx ⟨z4,us,ws,rfl,sG,hwG,dxG,hdG,dus,hbG,dws⟩
    obtain ⟨dx,ex,hxd⟩:=dxG.getV hx
    rw [List.getElem?_map] at ex
    cases hp:(aM t)[xs.length - 1 - i]? with
    | none=>rw [hp] at ex; cases ex
    | some x =>
      rw [hp] at ex
      cases ex
      have hp':(aM t)[aP t - 1 - i]? = some x:=by rw [lx]; exact hp
      have hxm:=List.mem_of_getElem? hp
      have okx:=ff t x okt hxm
      have dpx:=(dH t x hxm).2
      have hi':i < (aM t).reverse.length:=by rw [List.length_reverse,bA]; omega
      have ei:(aM t).reverse[i]? = some x:=by
        rw [zH (by rw [bA]; omega),bA]
        exact hp'
      have et:(aM t).reverse.take (i + 1) = (aM t).reverse.take i ++ [x]:=by rw [List.take_add_one,ei]; rfl
      have lus:us.length ≤ 200:=by rw [← dus.length,List.length_map,List.length_take]; omega
      have lws:ws.length ≤ 200:=by rw [← dws.length,List.length_map,List.length_take]; omega
      refine jN ?_
      dsimp only
      refine gk (K:=K) (d:=bD (bf ps x)) (bP (R:=vR) (cR (aa (k:=4) hxd) (dB (aT (k:=1) (sG.ld h1)) (dB (aT (k:=2) (LD.of hdG dus)) (dB (aT (k:=3) (LD.of hbG dws)) bK)))) ⟨ps,x,bf ps,(aM t).reverse.take i,rfl,okS,okx,by omega,by rw [List.length_take]; rw [List.length_reverse,bA]; omega,fun y hy=>?_,fun w hw y hy=>m6 (by omega) hp' (jU (tO okS) hw y hy),by rw [← jy (tO okS)]⟩) hbG (by omega) fun y G3 b3 hb3 q3=>?_
      · have hym:y ∈ aM t:=List.mem_reverse.mp (List.mem_of_mem_take hy)
        have:=(dH t y hym).2
        exact ⟨ff t y okt hym,by omega⟩
      have g3:dv K G G3:=b3.grow hbG hb3
      have hd3:=b3 _ _ ndb hdG
      have hw3:=b3 _ _ (Ne.symm nwb) hwG
      refine h8 (K:=K) (d:=toD x) (aa (k:=4) (Dat.mono g3 _ hxd)) hd3 (by omega) fun y4 G4 b4 hd4 q4=>?_
      have g4:dv K G3 G4:=b4.grow hd3 hd4
      refine ⟨_,us ++ [y4],ws ++ [y],rfl,fun a o ha=>b4 a o (av ha hld) (b3 a o (av ha hlb0) (sG _ _ ha)),b4 _ _ (Ne.symm nwd) hw3,Dats.mono g4 _ (Dats.mono g3 _ dxG),hd4,?_,b4 _ _ (Ne.symm ndb) hb3,?_⟩
      · rw [et,List.map_append]
        exact Dats.append (Dats.mono g4 _ (Dats.mono g3 _ dus)) (Dats.cons q4 Dats.nil)
      · rw [et,List.map_append]
        exact Dats.append (Dats.mono g4 _ (Dats.mono g3 _ dws)) (Dats.cons (Dat.mono g4 _ q3) Dats.nil)
  · rintro σ G ⟨z4,us,ws,rfl,sG,hwG,dxG,hdG,dus,hbG,dws⟩
    have ea:((aM t).reverse.take xs.length).map (fun x=>bD (bf ps x)) = (((bW t).flatMap aM).reverse.map fun x=>bD (bf ps x)) ++ [bD (bf ps t)]:=by
      rw [← lx,← bA,← List.length_reverse,List.take_length,eG,List.reverse_cons,List.map_append,List.map_cons,List.map_nil]
    rw [ea] at dws
    have hL:LD K G ((((bW t).flatMap aM).reverse.map fun x=>bD (bf ps x)) ++ [bD (bf ps t)]) (.ref lb):=LD.of hbG dws
    dsimp only
    rcases fin with ⟨b,hbst,post⟩ | ⟨hbst,post⟩
    · rw [hbst] at hL
      refine aO (K:=K) (b:=false) (ay (iO (kr (aT (K:=K) (σ:=[some v0,some v1,some (.ref ld),some (.ref lb),z4]) (k:=3) hL) (xZ aj)))) (fun c=>nomatch c) (fun _ G3 s3=>?_)
      exact aZ (K:=K) (d:=bD (some b)) (kr (aT (k:=3) (s3.ld hL)) (xZ aj)) fun v G4 s4 q4=>post v G4 (sG.trans (s3.trans s4)) q4
    · rw [hbst] at hL
      refine aO (K:=K) (b:=true) (ay (iO (kr (aT (K:=K) (σ:=[some v0,some v1,some (.ref ld),some (.ref lb),z4]) (k:=3) hL) (xZ aj)))) (fun _ G3 s3=>?_) (fun c=>nomatch c)
      exact ⟨bU (by decide),post _ (sG.trans s3)⟩
end
end My
end
section
namespace My
open PySem L2 PyProof.Rows
section
variable {P:Program} {w:World} {K:PySem.W.Frag} {mg:Str→Option Value} {base:Heap} {k:Nat}
structure oB (ps:List Pc):Prop where
  lo:1 ≤ ps.length
  hi:ps.length ≤ 16
  pc:∀ p ∈ ps,mn (pcD p) = some true∧p.nm.length ≤ sizeLine
  nd:(ps.map (·.nm)).Nodup
def AD (as:List Ar) (d:D):Prop:=∃ ps,as = [.l (ps.map pcD)]∧oB ps∧d = .bl true
theorem uW (T:Txt P w K mg) (JQ:FnOk P w K mg base CX0 k T.Gk T.Gw ["thing"] (spD K rE)):FnOk P w K mg base CX0 (k + 1) T.HE T.HF ["thing"] (spA K AD):=by
  refine T.Ip.ok sc_is_set (fun vs H Q E h=>?_) (fun cdv A outer s H vs Q E hr h=>?_)
  · obtain ⟨as,d,hd,⟨ps,rfl,_⟩,_⟩:=h; exact hd.length.symm
  have nd:=sc_is_set.nd
  obtain ⟨as,d,hd,⟨ps,rfl,hS,rfl⟩,post⟩:=h
  obtain ⟨v0,rfl,h0⟩:=AI hd
  have h0:LD K H (ps.map pcD) v0:=h0
  have hlo:=hS.lo
  have hhi:=hS.hi
  refine ⟨_,(ao (bj (PW.pt (cQ (bR (bq (aA (dA yQ) rfl T.C1 aQ (aS (pv 0) (aS (dM (v:=.ty "list") rfl T.JS sY rfl) af))) (fun _=>rfl))) (de (bR (mx gJ gJ ag (aA aH rfl T.De bI (ah (pv 0) af)) (bg (v:=.int 16) rfl T.Eh ⟨_,rfl⟩)))))) (au (aD cG)) aK)
  (ao (bj (bR (bq (aA (gF rfl) rfl T.Jj j0 (ah (dO (own:=["piece"]) (fr:=[]) (N':=["piece"]) (dq (pv 0)) rfl (by show cj ["thing"] (fun x=>(aw gN).names.lookup x) _ _ _ _ = true; decide +kernel) rfl (fun _ _ _ _ _=>(aV (i:=0) (by show List.Nodup [("piece":Str)]; decide +kernel) rfl (Or.inl rfl))) (fun _ _ _ _ _=>bX) (fun _ _ _ _ _=>(az JQ hr rfl T.Jh T.Hn.kp (rL T) .nil aY (ah (pv 0) af)))) af)) (fun _=>rfl))) (au (aD cG)) aK)
  (au (aD (bZ cg (aA pS rfl T.De bI (ah (dN (uw rfl) rfl T.Km AO (ah (dO (own:=["piece"]) (fr:=[]) (N':=["piece"]) (dq (pv 0)) rfl (by show cj ["thing"] (fun x=>(aw gN).names.lookup x) _ _ _ _ = true; decide +kernel) rfl (fun _ _ _ _ _=>(aV (i:=0) (by show List.Nodup [("piece":Str)]; decide +kernel) rfl (Or.inl rfl))) (fun _ _ _ _ _=>bX) (fun _ _ _ _ _=>(aE (r:=o6 K) aI (pv 0) ag (fun _ _=>rfl)))) af)) af)) (aA aH rfl T.De bI (ah (pv 0) af)) (aL _)))))),?_⟩
  refine aO (K:=K) (b:=false) ?_ (fun c=>nomatch c) (fun _ H1 s1=>?_)
  · refine RT.as (bT (b:=false) (RT.as (bu (aW (bM (aa h0.lst)))) rfl) fun _=>bu (ay (jM (p:=fun i j=>decide (i ≤ j)) (r:=fun i j=>decide (i ≤ j)) aj (iU (aT h0)) fun _=>aj))) ?_
    rw [List.length_map,Bool.false_or,decide_eq_true (show (1:Int) ≤ (ps.length:Int) by omega),decide_eq_true (show (ps.length:Int) ≤ 16 by omega)]
    rfl
  have h0:=s1.ld h0
  refine aO (K:=K) (b:=false) ?_ (fun c=>nomatch c) (fun _ H2 s2=>?_)
  · refine RT.as (bu (aW (iT (bs:=ps.map fun _=>true) (gL (aT h0) (by rw [List.length_map]; omega) _ (by simp) rfl (fun G1 j c v d s1 hc hd hv=>?_))))) ?_
    · simp only [List.getElem?_map] at hc hd
      cases hx:ps[j]? with
      | none=>rw [hx] at hc; cases hc
      | some p =>
        rw [hx] at hc hd
        cases hc
        cases hd
        obtain ⟨k1,k2⟩:=hS.pc p (List.mem_of_getElem? hx)
        exact bh (R:=rE) (ae (aa (k:=0) hv) ax) ⟨pcD p,true,rfl,k2,k1,rfl⟩
    · rw [List.all_map]
      simp
  have h0:=s2.ld h0
  refine aZ (K:=K) (d:=.bl true) (RE.as (o9 (vm (zs:=ps.map (·.nm)) (gL (aT h0) (by rw [List.length_map]; omega) _ (by simp) rfl (fun G1 j c v d s1 hc hd hv=>?_)) (by rw [List.length_map]; omega)) (iU (aT h0))) ?_) fun v H' s q=>post v H' (s1.trans (s2.trans s)) q
  · simp only [List.getElem?_map] at hc hd
    cases hx:ps[j]? with
    | none=>rw [hx] at hc; cases hc
    | some p =>
      rw [hx] at hc hd
      cases hc
      cases hd
      exact aN (k:=0) (aa (k:=0) hv) aj rfl
  · rw [(yF _).mpr hS.nd,List.length_map,List.length_map]
    simp
def gR (as:List Ar) (d:D):Prop:=∃ ps,as = [.l (ps.map pcD)]∧oB ps∧d = .non
theorem qP (T:Txt P w K mg) (J3:FnOk P w K mg base CX0 k T.HE T.HF ["thing"] (spA K AD)):FnOk P w K mg base CX0 (k + 1) T.EW T.EY ["some"] (spA K gR):=by
  refine T.Fp.ok sc_need_set (fun vs H Q E h=>?_) (fun cdv A outer s H vs Q E hr h=>?_)
  · obtain ⟨as,d,hd,⟨ps,rfl,_⟩,_⟩:=h; exact hd.length.symm
  have nd:=sc_need_set.nd
  obtain ⟨as,d,hd,⟨ps,rfl,hS,rfl⟩,post⟩:=h
  obtain ⟨v0,rfl,h0⟩:=AI hd
  have h0:LD K H (ps.map pcD) v0:=h0
  refine ⟨_,(au (bj (bR (bq (az J3 hr rfl T.JM T.Ip.kp (v8 T) .nil aY (ah (pv 0) af)) (fun _=>rfl))) (au jL) aK)),?_⟩
  exact eU (b:=false) (bu (aW (bP (K:=K) (R:=AD) (dB (aT h0) bK) ⟨ps,rfl,hS,rfl⟩))) (fun c=>nomatch c) (fun _ H1 s1=>post _ H1 s1 Dat.nonI)
structure i9 (ps:List Pc) (t:Tr):Prop where
  os:iw ps
  gs:oB ps
  ot:okT t
  dp:aR t ≤ 8
  sz:aP t ≤ 40
def vV (as:List Ar) (d:D):Prop:=∃ (ps:List Pc) (t:Tr) (b:Int × D),as = [.d (toD t),.l (ps.map pcD)]∧i9 ps t∧bf ps t = some b∧d = .int b.1
def Az (as:List Ar) (d:D):Prop:=∃ (ps:List Pc) (t:Tr) (b:Int × D),as = [.d (toD t),.l (ps.map pcD)]∧i9 ps t∧bf ps t = some b∧d = b.2
def ug (N:Addr) (as:List Ar) (C:Addr):Prop:=∃ (ps:List Pc) (t:Tr),as = [.d (toD t),.l (ps.map pcD)]∧i9 ps t∧bf ps t = none∧C = N
theorem oW (T:Txt P w K mg) (Fx:FnOk P w K mg base CX0 k T.Es T.Ey ["tree"] (spD K kB)) (Gg:FnOk P w K mg base CX0 k T.EW T.EY ["some"] (spA K gR)) (FU:FnOk P w K mg base (CX1 P w) k T.DK T.DL ["tree","some"] (mF K rB (vN T.C0))):FnOk P w K mg base (CX1 P w) (k + 1) T.C8 T.FK ["tree","some"] (mF K vV (ug T.C0)):=by
  refine T.GI.ok1 sc_length_of (fun vs H Q E h=>?_) (fun cdv A outer s H vs Q E hr h=>?_)
  · obtain ⟨as,hd,h⟩:=h; rcases h with ⟨d,⟨ps,t,b,rfl,_⟩,_⟩ | ⟨C,⟨ps,t,rfl,_⟩,_⟩ <;> exact hd.length.symm
  have nd:=sc_length_of.nd
  obtain ⟨as,hd,h⟩:=h
  refine ⟨_,(ao (bF (az Fx hr rfl T.GJ T.E3.kp (iB T) .nil aY (ah (pv 0) af)))
  (ao (bF (az Gg hr rfl T.Hs T.Fp.kp (je T) .nil aY (ah (pv 1) af)))
  (au (aD (aE aI (az FU hr rfl T.FW T.Ef.kp (iq T) .nil Ah (ah (pv 0) (ah (pv 1) af))) ag (fun _ _=>rfl)))))),?_⟩
  rcases h with ⟨d,⟨ps,t,b,rfl,gi,hbst,rfl⟩,post⟩ | ⟨C,⟨ps,t,rfl,gi,hbst,rfl⟩,post⟩
  · obtain ⟨v0,v1,rfl,h0,h1⟩:=n6 hd
    have h0:Dat K H (toD t) v0:=h0
    have h1:LD K H (ps.map pcD) v1:=h1
    refine gE (RE.use (bh (R:=kB) (d:=.non) (ae (aa (K:=K) (k:=0) h0) ax) ⟨toD t,rfl,jT gi.ot gi.dp gi.sz,rfl⟩) fun v4 H1 s1 _=>?_)
    refine gE (RE.use (bP (R:=gR) (d:=.non) (dB (aT (K:=K) (k:=1) (s1.ld h1)) bK) ⟨ps,rfl,gi.gs,rfl⟩) fun v5 H2 s2 _=>?_)
    have s12:=s1.trans s2
    exact aZ (K:=K) (d:=.int b.1) (aN (k:=0) (nL (R:=rB) (cR (aa (k:=0) (s12.dat h0)) (dB (aT (k:=1) (s12.ld h1)) bK)) ⟨ps,t,b,rfl,gi.os,gi.ot,gi.dp,Nat.le_trans gi.sz (by decide),hbst,rfl⟩) aj rfl) fun v H' s q=>post v H' (s12.trans s) q
  · obtain ⟨v0,v1,rfl,h0,h1⟩:=n6 hd
    have h0:Dat K H (toD t) v0:=h0
    have h1:LD K H (ps.map pcD) v1:=h1
    refine gE (RE.use (bh (R:=kB) (d:=.non) (ae (aa (K:=K) (k:=0) h0) ax) ⟨toD t,rfl,jT gi.ot gi.dp gi.sz,rfl⟩) fun v4 H1 s1 _=>?_)
    refine gE (RE.use (bP (R:=gR) (d:=.non) (dB (aT (K:=K) (k:=1) (s1.ld h1)) bK) ⟨ps,rfl,gi.gs,rfl⟩) fun v5 H2 s2 _=>?_)
    have s12:=s1.trans s2
    exact ix (nN (R:=rB) (B:=vN T.C0) (cR (aa (k:=0) (s12.dat h0)) (dB (aT (k:=1) (s12.ld h1)) bK)) ⟨ps,t,rfl,gi.os,gi.ot,gi.dp,Nat.le_trans gi.sz (by decide),hbst,rfl⟩ fun H' s=>post _ (s12.trans s))
theorem qK (T:Txt P w K mg) (Fx:FnOk P w K mg base CX0 k T.Es T.Ey ["tree"] (spD K kB)) (Gg:FnOk P w K mg base CX0 k T.EW T.EY ["some"] (spA K gR)) (FU:FnOk P w K mg base (CX1 P w) k T.DK T.DL ["tree","some"] (mF K rB (vN T.C0))):FnOk P w K mg base (CX1 P w) (k + 1) T.Df T.Gu ["tree","some"] (mF K Az (ug T.C0)):=by
  refine T.Hl.ok1 sc_covering (fun vs H Q E h=>?_) (fun cdv A outer s H vs Q E hr h=>?_)
  · obtain ⟨as,hd,h⟩:=h; rcases h with ⟨d,⟨ps,t,b,rfl,_⟩,_⟩ | ⟨C,⟨ps,t,rfl,_⟩,_⟩ <;> exact hd.length.symm
  have nd:=sc_covering.nd
  obtain ⟨as,hd,h⟩:=h
  refine ⟨_,(ao (bF (az Fx hr rfl T.GJ T.E3.kp (iB T) .nil aY (ah (pv 0) af)))
  (ao (bF (az Gg hr rfl T.Hs T.Fp.kp (je T) .nil aY (ah (pv 1) af)))
  (au (aD (aE aI (az FU hr rfl T.FW T.Ef.kp (iq T) .nil Ah (ah (pv 0) (ah (pv 1) af))) ag (fun _ _=>rfl)))))),?_⟩
  rcases h with ⟨d,⟨ps,t,b,rfl,gi,hbst,rfl⟩,post⟩ | ⟨C,⟨ps,t,rfl,gi,hbst,rfl⟩,post⟩
  · obtain ⟨v0,v1,rfl,h0,h1⟩:=n6 hd
    have h0:Dat K H (toD t) v0:=h0
    have h1:LD K H (ps.map pcD) v1:=h1
    refine gE (RE.use (bh (R:=kB) (d:=.non) (ae (aa (K:=K) (k:=0) h0) ax) ⟨toD t,rfl,jT gi.ot gi.dp gi.sz,rfl⟩) fun v4 H1 s1 _=>?_)
    refine gE (RE.use (bP (R:=gR) (d:=.non) (dB (aT (K:=K) (k:=1) (s1.ld h1)) bK) ⟨ps,rfl,gi.gs,rfl⟩) fun v5 H2 s2 _=>?_)
    have s12:=s1.trans s2
    exact aZ (K:=K) (d:=b.2) (aN (k:=1) (nL (R:=rB) (cR (aa (k:=0) (s12.dat h0)) (dB (aT (k:=1) (s12.ld h1)) bK)) ⟨ps,t,b,rfl,gi.os,gi.ot,gi.dp,Nat.le_trans gi.sz (by decide),hbst,rfl⟩) aj rfl) fun v H' s q=>post v H' (s12.trans s) q
  · obtain ⟨v0,v1,rfl,h0,h1⟩:=n6 hd
    have h0:Dat K H (toD t) v0:=h0
    have h1:LD K H (ps.map pcD) v1:=h1
    refine gE (RE.use (bh (R:=kB) (d:=.non) (ae (aa (K:=K) (k:=0) h0) ax) ⟨toD t,rfl,jT gi.ot gi.dp gi.sz,rfl⟩) fun v4 H1 s1 _=>?_)
    refine gE (RE.use (bP (R:=gR) (d:=.non) (dB (aT (K:=K) (k:=1) (s1.ld h1)) bK) ⟨ps,rfl,gi.gs,rfl⟩) fun v5 H2 s2 _=>?_)
    have s12:=s1.trans s2
    exact ix (nN (R:=rB) (B:=vN T.C0) (cR (aa (k:=0) (s12.dat h0)) (dB (aT (k:=1) (s12.ld h1)) bK)) ⟨ps,t,rfl,gi.os,gi.ot,gi.dp,Nat.le_trans gi.sz (by decide),hbst,rfl⟩ fun H' s=>post _ (s12.trans s))
end
end My
end
section
namespace My
open PySem L2 PyProof.Rows
section
variable {P:Program} {w:World} {K:PySem.W.Frag} {mg:Str→Option Value} {base:Heap} {k:Nat}
def BM (T:Txt P w K mg) (D:Addr) (j:Nat):Prop:=(D = T.C0∧j = 8)
abbrev qZ (j:Nat):D:=.tup [.str "refused",.int j]
def ua (T:Txt P w K mg):Sp:=fun vs H Q _=>∃ (x D:Addr) (j:Nat),vs = [.ref x]∧H x = some (nW x D)∧BM T D j∧∀ v H',Same H H'→Dat K H' (qZ j) v→Q v H'
theorem mX (T:Txt P w K mg)  : sR P w K mg base (k + 1) T.E7 T.Fc ["_law_e"] (ua T):=by
  refine T.FZ.okH sc__law_which (fun vs H Q E h=>?_) (fun cdv A outer s H vs Q E hr h=>?_)
  · obtain ⟨x,D,j,rfl,_⟩:=h; rfl
  have nd:=sc__law_which.nd
  obtain ⟨x,D,j,rfl,hx,hw,post⟩:=h
  refine ⟨_,(ao (bz (i:=1) nd rfl (Or.inl rfl) (bC (ah (aA bO rfl T.C1 aQ (aS (pv 0) (aS (bg (v:=.ref T.HC) rfl T.Hb rfl) af))) (ah (aA bO rfl T.C1 aQ (aS (pv 0) (aS (bg (v:=.ref T.HD) rfl T.Hc rfl) af))) (ah (aA bO rfl T.C1 aQ (aS (pv 0) (aS (bg (v:=.ref T.Hz) rfl T.G8 rfl) af))) (ah (aA bO rfl T.C1 aQ (aS (pv 0) (aS (bg (v:=.ref T.HA) rfl T.G9 rfl) af))) af))))))
  (ao (bF (cZ PySem.F.plainAttrs_list PySem.F.slot_list_extend PySem.F.type_list_extend fL (pv 1) (ah (bC (ah (aA bO rfl T.C1 aQ (aS (pv 0) (aS (bg (v:=.ref T.GN) rfl T.Gd rfl) af))) (ah (aA bO rfl T.C1 aQ (aS (pv 0) (aS (bg (v:=.ref T.IV) rfl T.IE rfl) af))) (ah (aA bO rfl T.C1 aQ (aS (pv 0) (aS (bg (v:=.ref T.GM) rfl T.Gc rfl) af))) (ah (aA bO rfl T.C1 aQ (aS (pv 0) (aS (bg (v:=.ref T.Im) rfl T.HX rfl) af))) af))))) af)))
  (ao (bF (cZ PySem.F.plainAttrs_list PySem.F.slot_list_extend PySem.F.type_list_extend fL (pv 1) (ah (bC (ah (aA bO rfl T.C1 aQ (aS (pv 0) (aS (bg (v:=.ref T.C0) rfl T.Fs rfl) af))) (ah (aA bO rfl T.C1 aQ (aS (pv 0) (aS (bg (v:=.ref T.GL) rfl T.Gb rfl) af))) (ah (aA bO rfl T.C1 aQ (aS (pv 0) (aS (bg (v:=.ref T.HB) rfl T.Ha rfl) af))) (ah (aA bO rfl T.C1 aQ (aS (pv 0) (aS (bg (v:=.ref T.Io) rfl T.HY rfl) af))) af))))) af)))
  (ao (bF (cZ PySem.F.plainAttrs_list PySem.F.slot_list_extend PySem.F.type_list_extend fL (pv 1) (ah (bC (ah (aA bO rfl T.C1 aQ (aS (pv 0) (aS (bg (v:=.ref T.Il) rfl T.HW rfl) af))) (ah (aA bO rfl T.C1 aQ (aS (pv 0) (aS (bg (v:=.ref T.Hy) rfl T.GZ rfl) af))) af))) af)))
  (ao (bj (PW.pt (cQ (aF gh (cZ PySem.F.plainAttrs_list PySem.F.slot_list_count PySem.F.type_list_count uM (pv 1) (ah cG af)) ag (aL _)) (de (bR (bq (aA bO rfl T.C1 aQ (aS (pv 0) (aS (dM (v:=.ty "ValueError") rfl T.Iv mU rfl) af))) (fun _=>rfl)))))) (au (aD (aX (ah aJ (ah (xw sO ag) af))))) aK)
  (au (aD (aX (ah aJ (ah (cZ PySem.F.plainAttrs_list PySem.F.slot_list_index PySem.F.type_list_index uN (pv 1) (ah cG af)) af)))))))))),?_⟩
  rcases hw with ⟨rfl,rfl⟩
  · refine dt (mC (K:=K) (ae (cy (c:=.ref T.HC) hx T.C3 T.Dz (.inl ⟨_,rfl⟩)) (ae (cy (c:=.ref T.HD) hx T.C3 T.DA (.inl ⟨_,rfl⟩)) (ae (cy (c:=.ref T.Hz) hx T.C3 T.Dv (.inl ⟨_,rfl⟩)) (ae (cy (c:=.ref T.HA) hx T.C3 T.Dw (.inl ⟨_,rfl⟩)) ax)))) fun lb x0 H1 s1 hb e0=>?_)
    have hx1:upd H1 lb (.lst x0) x = some (nW x T.C0):=(s1.trans (aC hb _)) _ _ hx
    have nlb:lb ≠ x:=fun z=>by rw [z] at hb; rw [s1 _ _ hx] at hb; cases hb
    have hlb:H lb = none:=s1.free hb
    have e0:=(aC hb (.lst x0)).dats e0
    have h0:upd H1 lb (.lst x0) lb = some (.lst x0):=aq
    have l0:x0.length = 4:=e0.length.symm
    have bb0:But lb H (upd H1 lb (.lst x0)):=(s1.trans (aC hb _)).but
    refine ph (K:=K) (ae (cy (c:=.ref T.GN) hx1 T.C3 T.Do (.inl ⟨_,rfl⟩)) (ae (cy (c:=.ref T.IV) hx1 T.C3 T.DZ (.inl ⟨_,rfl⟩)) (ae (cy (c:=.ref T.GM) hx1 T.C3 T.Dn (.inl ⟨_,rfl⟩)) (ae (cy (c:=.ref T.Im) hx1 T.C3 T.DN (.inl ⟨_,rfl⟩)) ax)))) h0 (by omega) fun x1 G1 b1 h1 f1=>?_
    have hx2:=b1 _ _ (Ne.symm nlb) hx1
    have e1:=Dats.append (Dats.mono (b1.grow h0 h1) _ e0) f1
    have l1:(x0 ++ x1).length = 8:=e1.length.symm
    have bb1:=bb0.trans b1
    refine ph (K:=K) (ae (cy (c:=.ref T.C0) hx2 T.C3 T.Dl (.inl ⟨_,rfl⟩)) (ae (cy (c:=.ref T.GL) hx2 T.C3 T.Dm (.inl ⟨_,rfl⟩)) (ae (cy (c:=.ref T.HB) hx2 T.C3 T.Dy (.inl ⟨_,rfl⟩)) (ae (cy (c:=.ref T.Io) hx2 T.C3 T.DO (.inl ⟨_,rfl⟩)) ax)))) h1 (by omega) fun x2 G2 b2 h2 f2=>?_
    have hx3:=b2 _ _ (Ne.symm nlb) hx2
    have e2:=Dats.append (Dats.mono (b2.grow h1 h2) _ e1) f2
    have l2:(x0 ++ x1 ++ x2).length = 12:=e2.length.symm
    have bb2:=bb1.trans b2
    refine ph (K:=K) (ae (cy (c:=.ref T.Il) hx3 T.C3 T.DM (.inl ⟨_,rfl⟩)) (ae (cy (c:=.ref T.Hy) hx3 T.C3 T.Du (.inl ⟨_,rfl⟩)) ax)) h2 (by omega) fun x3 G3 b3 h3 f3=>?_
    have hx4:=b3 _ _ (Ne.symm nlb) hx3
    have e3:=Dats.append (Dats.mono (b3.grow h2 h3) _ e2) f3
    have l3:(x0 ++ x1 ++ x2 ++ x3).length = 14:=e3.length.symm
    have bb3:=bb2.trans b3
    have sm:Same H G3:=fun b o hbo=>bb3 b o (av hbo hlb) hbo
    have ev:=tj (bs:=[false,false,false,false,false,false,false,false,true,false,false,false,false,false]) e3
    have h3':G3 lb = some (.lst (blV [false,false,false,false,false,false,false,false,true,false,false,false,false,false])):=by rw [← show _ = blV [false,false,false,false,false,false,false,false,true,false,false,false,false,false] from ev]; exact h3
    refine aO (K:=K) (b:=false) ?_ (fun c=>nomatch c) (fun _ H5 s5=>?_)
    · exact RT.as (bT (ay (eO (ve h3') aj)) fun _=>bu (aW (cy (c:=.ty "ValueError") hx4 T.C3 T.C9 (.inr ⟨_,rfl⟩)))) rfl
    · refine aZ (K:=K) (d:=qZ 8) (ba (ae aG (ae (vj (j:=8) (s5 _ _ h3') (by decide) rfl (fun m hm=>?_)) ax))) fun v H' s q=>post v H' (sm.trans (s5.trans s)) q
      match m,hm with
      | 0,_=>rfl
      | 1,_=>rfl
      | 2,_=>rfl
      | 3,_=>rfl
      | 4,_=>rfl
      | 5,_=>rfl
      | 6,_=>rfl
      | 7,_=>rfl
end
end My
end
section
namespace My
open PySem L2 PyProof.Rows
section
variable {P:Program} {w:World} {K:PySem.W.Frag} {mg:Str→Option Value} {base:Heap} {k:Nat}
def nA:Pa→Nat
  | .gap _ _=>1
  | .two _ a b=>nA a + nA b
  | _=>0
def kz:Pa→Nat
  | .slot _=>1
  | .two _ a b=>kz a + kz b
  | _=>0
theorem lL:∀ (p:Pa) (t:Tr) (f:Fnd),bY p t = some f→f.2.1.length = nA p∧f.2.2.length = kz p
  | .hole i,t,f,h=>by cases h; exact ⟨rfl,rfl⟩
  | .gap i m,t,f,h=>by
    cases t with
    | num n =>
      have h':(if n ≤ m then some ([],[n],[]) else none:Option Fnd) = some f:=h
      by_cases z:n ≤ m
      · rw [if_pos z] at h'; cases h'; exact ⟨rfl,rfl⟩
      · rw [if_neg z] at h'; cases h'
    | _=>cases h
  | .slot i,t,f,h=>by
    cases t with
    | arg n=>cases h; exact ⟨rfl,rfl⟩
    | _=>cases h
  | .num m,t,f,h=>by
    cases t with
    | num n =>
      have h':(if n = m then some ([],[],[]) else none:Option Fnd) = some f:=h
      by_cases z:n = m
      · rw [if_pos z] at h'; cases h'; exact ⟨rfl,rfl⟩
      · rw [if_neg z] at h'; cases h'
    | _=>cases h
  | .two o a b,t,f,h=>by
    cases t with
    | two o' u v =>
      obtain ⟨_,f1,f2,e1,e2,e3⟩:=dk h
      subst e3
      have h1:=lL a u f1 e1
      have h2:=lL b v f2 e2
      refine ⟨?_,?_⟩
      · show (f1.2.1 ++ f2.2.1).length = nA a + nA b
        rw [List.length_append,h1.1,h2.1]
      · show (f1.2.2 ++ f2.2.2).length = kz a + kz b
        rw [List.length_append,h1.2,h2.2]
    | _=>cases h
inductive Cl where
  | n (i:Int)
  | arg (k:Nat)
  | low (k:Nat)
  | high (k:Nat)
def clD:Cl→D
  | .n i=>.int i
  | .arg k=>.tup [.str "arg",.int k]
  | .low k=>.tup [.str "low",.int k]
  | .high k=>.tup [.str "high",.int k]
def iy (g s:Nat):Cl→Bool
  | .n _=>true
  | .arg k=>decide (k < s)
  | .low k=>decide (k < g)
  | .high k=>decide (k < g)
def qg (nums ks:List Int):Cl→Int
  | .n i=>i
  | .arg k=>ks.getD k 0
  | .low k=>nums.getD k 0 % 100
  | .high k=>nums.getD k 0 / 100
structure sQ (p:Pc) (cl:List Cl):Prop where
  eq:p.cs = cl.map clD
  ok:∀ c ∈ cl,iy (nA p.pt) (kz p.pt) c = true
inductive AllL (R:Tr→D→List D→Prop):List Tr→List D→List (List D)→Prop
  | nil:AllL R [] [] []
  | cons {t c es ts cs ess}:R t c es→AllL R ts cs ess→AllL R (t :: ts) (c :: cs) (es :: ess)
theorem AllL.len {R:Tr→D→List D→Prop} {ts:List Tr} {cs:List D} {ess:List (List D)} (h:AllL R ts cs ess):ts.length = cs.length∧ess.length = ts.length:=by
  induction h with
  | nil=>exact ⟨rfl,rfl⟩
  | cons _ _ ih=>exact ⟨by simp [ih.1],by simp [ih.2]⟩
theorem AllL.get {R:Tr→D→List D→Prop} {ts:List Tr} {cs:List D} {ess:List (List D)} (h:AllL R ts cs ess):∀ {k:Nat} {t c es},ts[k]? = some t→cs[k]? = some c→ess[k]? = some es→R t c es:=by
  induction h with
  | nil=>intro k t c es h; cases h
  | cons r _ ih =>
    intro k t c es h1 h2 h3
    cases k with
    | zero=>cases h1; cases h2; cases h3; exact r
    | succ k=>exact ih h1 h2 h3
def cX (near far:Int) (n:Nat):List D:=(jl near far n).map D.int
theorem jA (near far:Int) (n:Nat):((cX near far n).length:Int) = fm n:=by unfold cX; rw [List.length_map,jB]
def gg (x y z:List D):List D:=x ++ cX 10 11 (y ++ cX 8 9 z.length).length ++ (y ++ cX 8 9 z.length) ++ z
def fQ (xss:List (List D)) (f:Fnd) (cl:List Cl):List D:=xss.flatten ++ cl.map fun c=>D.int (qg f.2.1 f.2.2 c)
def mP (ps:List Pc):Nat→Tr→D→List D→Prop
  | 0,_,_,_=>False
  | n + 1,t,c,es=>(∃ a b d ca cb cd xa xb xd,t = .pick a b d∧c = .tup [.str "pick",.tup [ca,cb,cd]]∧mP ps n a ca xa∧mP ps n b cb xb∧mP ps n d cd xd∧es = gg xa xb xd) ∨
    (∃ p f cl cs xss,qw t = false∧p ∈ ps∧bY p.pt t = some f∧sQ p cl∧c = .tup [.str p.nm,.tup cs]∧AllL (mP ps n) f.1 cs xss∧es = fQ xss f cl)
theorem qp {f:Tr→Bst}:∀ (ws:List Wy) (b x:Bst),ws.foldl (fE f) b = x→x = b∨∃ w ∈ ws,∃ bs,dD (w.ts.map f) = some bs∧x = some (cJ w (bs.map (·.1)),cvD w.nm bs)
  | [],b,x,h=>.inl h.symm
  | w :: ws,b,x,h=>by
    rw [List.foldl_cons] at h
    rcases qp ws _ x h with e | ⟨w',hw,r⟩
    · unfold fE at e
      cases ea:dD (w.ts.map f) with
      | none=>rw [ea] at e; exact .inl e
      | some bs =>
        rw [ea] at e
        have e:x = gY b (cJ w (bs.map (·.1))) (cvD w.nm bs):=e
        have two:gY b (cJ w (bs.map (·.1))) (cvD w.nm bs) = b∨gY b (cJ w (bs.map (·.1))) (cvD w.nm bs) = some (cJ w (bs.map (·.1)),cvD w.nm bs):=by
          unfold gY
          cases b with
          | none=>exact .inr rfl
          | some y =>
            dsimp only
            split
            · exact .inr rfl
            · exact .inl rfl
        rcases two with z | z
        · exact .inl (e.trans z)
        · exact .inr ⟨w,List.mem_cons_self,bs,ea,e.trans z⟩
    · exact .inr ⟨w',List.mem_cons_of_mem _ hw,r⟩
theorem lB {f:Tr→Bst}:∀ {ts:List Tr} {bs:List (Int × D)},dD (ts.map f) = some bs→ts.map f = bs.map some
  | [],bs,h=>by cases h; rfl
  | t :: ts,bs,h=>by
    cases e:f t with
    | none=>rw [List.map_cons,e] at h; cases h
    | some b =>
      rw [List.map_cons,e] at h
      have h':(dD (ts.map f)).map (b :: ·) = some bs:=h
      cases e2:dD (ts.map f) with
      | none=>rw [e2] at h'; cases h'
      | some r =>
        rw [e2] at h'
        cases h'
        rw [List.map_cons,List.map_cons,e,lB e2]
theorem tN {ps:List Pc} {n:Nat} (ih:∀ x b,aR x ≤ n→bf ps x = some b→∃ es,mP ps n x b.2 es∧(es.length:Int) = b.1):∀ {ts:List Tr} {bs:List (Int × D)},(∀ x ∈ ts,aR x ≤ n)→ts.map (bf ps) = bs.map some →
    ∃ xss,AllL (mP ps n) ts (bs.map (·.2)) xss∧(xss.flatten.length:Int) = (bs.map (·.1)).sum
  | [],[],_,_=>⟨[],.nil,rfl⟩
  | [],b :: bs,_,h=>by cases h
  | t :: ts,[],_,h=>by cases h
  | t :: ts,b :: bs,hd,h=>by
    rw [List.map_cons,List.map_cons] at h
    injection h with h1 h2
    obtain ⟨es,l1,l2⟩:=ih t b (hd t List.mem_cons_self) h1
    obtain ⟨xss,r1,r2⟩:=tN ih (fun x hx=>hd x (List.mem_cons_of_mem _ hx)) h2
    refine ⟨es :: xss,.cons l1 r1,?_⟩
    rw [List.flatten_cons,List.length_append,List.map_cons,List.sum_cons]
    omega
theorem iC {ps:List Pc} (hp:∀ p ∈ ps,fA p.pt = true∧p.nm ≠ "pick"∧∃ cl,sQ p cl):∀ (n:Nat) (t:Tr) (b:Int × D),aR t ≤ n→bf ps t = some b→∃ es,mP ps n t b.2 es∧(es.length:Int) = b.1
  | 0,t,b,h,_=>by
    have:1 ≤ aR t:=by cases t <;> simp [aR]
    omega
  | n + 1,t,b,h,hb=>by
    have nh:∀ p ∈ ps,fA p.pt = true:=fun p q=>(hp p q).1
    rw [jy nh] at hb
    rcases qp _ _ _ hb with e | ⟨w,hw,bs,ea,e⟩
    · cases e
    injection e with e
    subst e
    have bU:∀ x ∈ w.ts,aR x ≤ n:=fun x hx=>by
      have:=(fc (jU nh hw x hx)).2
      omega
    have em:=lB ea
    obtain ⟨xss,r1,r2⟩:=tN (iC hp n) bU em
    unfold dJ at hw
    split at hw
    · rename_i c
      have ew:=List.mem_singleton.mp hw
      subst ew
      cases t with
      | pick x y z =>
        have l3:bs.length = 3:=by have:=congrArg List.length em; simpa [bW] using this.symm
        match bs,l3,em with
        | [b1,b2,b3],_,em =>
          have em:[bf ps x,bf ps y,bf ps z] = [some b1,some b2,some b3]:=em
          injection em with m1 em
          injection em with m2 em
          injection em with m3 _
          obtain ⟨x1,i1,j1⟩:=iC hp n x b1 (bU x (by simp [bW])) m1
          obtain ⟨x2,i2,j2⟩:=iC hp n y b2 (bU y (by simp [bW])) m2
          obtain ⟨x3,i3,j3⟩:=iC hp n z b3 (bU z (by simp [bW])) m3
          refine ⟨gg x1 x2 x3,.inl ⟨x,y,z,b1.2,b2.2,b3.2,x1,x2,x3,rfl,rfl,i1,i2,i3,rfl⟩,?_⟩
          show _ = cJ ⟨"pick",[],[x,y,z]⟩ [b1.1,b2.1,b3.1]
          have el:cJ ⟨"pick",[],[x,y,z]⟩ [b1.1,b2.1,b3.1] = tT b2.1 b3.1 + (b1.1 + b2.1 + b3.1):=by
            unfold cJ m4
            rw [if_pos rfl]
            simp
            omega
          rw [el]
          unfold gg tT
          have k1:=jA 8 9 x3.length
          have k2:=jA 10 11 (x2 ++ cX 8 9 x3.length).length
          rw [List.length_append] at k2
          simp only [List.length_append]
          rw [j3] at k1
          have k3:((x2.length + (cX 8 9 x3.length).length:Nat):Int) = b2.1 + fm b3.1:=by omega
          rw [k3] at k2
          omega
      | _=>cases c
    · rename_i c
      obtain ⟨p,h1,h2⟩:=List.mem_filterMap.mp hw
      unfold eR at h2
      cases ef:bY p.pt t with
      | none=>rw [ef] at h2; cases h2
      | some f =>
        rw [ef] at h2
        cases h2
        obtain ⟨_,hnm,cl,hcl⟩:=hp p h1
        refine ⟨fQ xss f cl,.inr ⟨p,f,cl,bs.map (·.2),xss,by simpa using c,h1,ef,hcl,rfl,r1,rfl⟩,?_⟩
        show ((xss.flatten ++ cl.map _).length:Int) = cJ ⟨p.nm,p.cs,f.1⟩ (bs.map (·.1))
        have lc:p.cs.length = cl.length:=by rw [hcl.eq,List.length_map]
        unfold cJ m4
        rw [if_neg hnm,List.length_append,List.length_map]
        show _ = (p.cs.length:Int) + _
        omega
end
end My
end
section
namespace My
open PySem L2 PyProof.Rows
section
variable {P:Program} {w:World} {K:PySem.W.Frag} {mg:Str→Option Value} {base:Heap} {k:Nat}
theorem BZ (t:Tr):∃ kd y r,toD t = .tup (.str kd :: y :: r):=by
  cases t <;> exact ⟨_,_,_,rfl⟩
theorem Ak {ta tb:TE} {σ:L2.St} {H:Hp} {Q:VK} (h:ta σ H fun x H1=>∃ c,x = .bl c∧if c = true then tb σ H1 Q else Q (.bl false) H1):yf ta tb σ H Q:=h
def oL (l0 l1 l2:Addr):HO:=.lst [.ref l0,.ref l1,.ref l2]
theorem AS (m:Int) (t:Tr) (ht:okT t):eqD (toD t) (toP (.num m)) = (bY (.num m) t).isSome:=by
  cases t with
  | num n =>
    show eqD (.tup [.str "num",.int n]) (.tup [.str "num",.int m]) = (if n = m then some _ else none:Option Fnd).isSome
    by_cases h:n = m
    · rw [if_pos h]; simp [eqD,cW,h]
    · rw [if_neg h]; simp [eqD,cW,h]
  | arg n=>exact rfl
  | two o a b =>
    have h:o = "add"∨o = "sub"∨o = "mul"∨o = "less":=ht.1
    show eqD (.tup [.str o,toD a,toD b]) (.tup [.str "num",.int m]) = false
    unfold eqD cW eqD
    rcases h with rfl | rfl | rfl | rfl <;> rfl
  | pick a b c=>exact rfl
theorem qH (T:Txt P w K mg) {n:Nat} (Fj:FnOk P w K mg base CX0 k T.Em T.Et ["_law_pattern","_law_tree_here","_law_found"] (iP K oL n)):FnOk P w K mg base CX0 (k + 1) T.Em T.Et ["_law_pattern","_law_tree_here","_law_found"] (iP K oL (n + 1)):=by
  refine T.E1.ok sc__law_fit (fun vs H Q E h=>?_) (fun cdv A outer s H vs Q E hr h=>?_)
  · obtain ⟨p,t,v0,v1,f,l0,l1,l2,a,b,c,rfl,_⟩:=h; rfl
  have nd:=sc__law_fit.nd
  obtain ⟨p,t,v0,v1,f,l0,l1,l2,a,b,c,rfl,okp,okt,dpt,hn,hn3,h0,h1,hf,f0,f1,f2,tri,la,lb,lc,post⟩:=h
  refine ⟨_,(ao (bj (aF cg (aE aI (pv 0) ag (fun _ _=>rfl)) aJ (aL _)) (ao (bF (cZ PySem.F.plainAttrs_list PySem.F.slot_list_append PySem.F.type_list_append bL (aE bp (pv 2) ag (fun _ _=>rfl)) (ah (pv 1) af)))
  (au (aD cG))) aK)
  (ao (bj (aF cg (aE aI (pv 0) ag (fun _ _=>rfl)) aJ (aL _)) (ao (bF (cZ PySem.F.plainAttrs_list PySem.F.slot_list_append PySem.F.type_list_append bL (aE bp (pv 2) ag (fun _ _=>rfl)) (ah (aE aI (pv 1) ag (fun _ _=>rfl)) af)))
  (au (aD (fC (bZ cg (aE aI (pv 1) ag (fun _ _=>rfl)) aJ (aL _)) (fD (bZ gJ (aE aI (pv 1) ag (fun _ _=>rfl)) (aE aI (pv 0) ag (fun _ _=>rfl)) (aL _))))))) aK)
  (ao (bj (aF cg (aE aI (pv 0) ag (fun _ _=>rfl)) aJ (aL _)) (ao (bF (cZ PySem.F.plainAttrs_list PySem.F.slot_list_append PySem.F.type_list_append bL (aE bp (pv 2) ag (fun _ _=>rfl)) (ah (aE aI (pv 1) ag (fun _ _=>rfl)) af)))
  (au (aD (bZ cg (aE aI (pv 1) ag (fun _ _=>rfl)) aJ (aL _))))) aK)
  (ao (bj (aF cg (aE aI (pv 0) ag (fun _ _=>rfl)) aJ (aL _)) (au (aD (bZ (sv hr) (pv 1) (pv 0) (aL _)))) aK)
  (au (aD (fC (bZ cg (aE aI (pv 1) ag (fun _ _=>rfl)) (aE aI (pv 0) ag (fun _ _=>rfl)) (aL _)) (fC (az Fj hr rfl T.GA T.E1.kp (gU T) .nil aY (ah (aE aI (pv 0) ag (fun _ _=>rfl)) (ah (aE aI (pv 1) ag (fun _ _=>rfl)) (ah (pv 2) af)))) (fD (az Fj hr rfl T.GA T.E1.kp (gU T) .nil aY (ah (aE aI (pv 0) ag (fun _ _=>rfl)) (ah (aE aI (pv 1) ag (fun _ _=>rfl)) (ah (pv 2) af))))))))))))),?_⟩
  obtain ⟨kd,y1,r,ek⟩:=BZ t
  obtain ⟨kd',r',ek',hnum,harg⟩:=wG t okt
  have ekk:kd' = kd:=by
    rw [ek] at ek'
    injection ek' with z
    injection z with z _
    injection z with z
    exact z.symm
  subst ekk
  have h1':Dat K H (.tup (.str kd' :: y1 :: r)) v1:=by rw [← ek]; exact h1
  have hf':∀ {G:Hp},But3 l0 l1 l2 H G→G f = some (oL l0 l1 l2):=fun bb=>bb _ _ f0 f1 f2 hf
  have p1:=xH (n + 1)
  have p2:2 ^ (n + 1) = 2 * 2 ^ n:=by rw [Nat.pow_succ,Nat.mul_comm]
  cases p with
  | hole i =>
    have h0:Dat K H (.tup [.str "hole",.int i]) v0:=h0
    refine aO (K:=K) (b:=true) (RT.as (ay (br (aN (k:=0) (aa h0) aj rfl) aG)) (decide_eq_true rfl)) (fun _ H1 s1=>?_) (fun c=>nomatch c)
    refine cO ⟨_,rfl,f,_,0,_,rfl,rfl,SqL.of (show H1 f = some (.lst [.ref l0,.ref l1,.ref l2]) from s1 _ _ hf),at0,.inl ⟨rfl,_,SqL.of (s1 _ _ tri.h0)⟩,_,rfl,?_⟩
    have tri1:=tri.same s1
    refine ⟨l0,a,v1,rfl,rfl,tri1.h0,bQ (by omega),?_⟩
    obtain ⟨t5,b5⟩:=tri1.p0 (v:=v1)
    refine post _ [v1] [] [] (s1.but3.trans b5) t5 (by simpa using p1) (by simp) (by simp) fun fd e=>?_
    cases e
    exact ⟨Dats.cons (Dat.mono (b5.grow tri1 t5) _ (s1.dat h1)) Dats.nil,Dats.nil,Dats.nil⟩
  | gap i m =>
    have h0:Dat K H (.tup [.str "gap",.int i,.int m]) v0:=h0
    refine aO (K:=K) (b:=false) (RT.as (ay (br (aN (k:=0) (aa h0) aj rfl) aG)) (decide_eq_false (by decide +kernel))) (fun c=>nomatch c) (fun _ H1 s1=>?_)
    have h0:=s1.dat h0
    refine aO (K:=K) (b:=true) (RT.as (ay (br (aN (k:=0) (aa h0) aj rfl) aG)) (decide_eq_true rfl)) (fun _ H2 s2=>?_) (fun c=>nomatch c)
    have h0:=s2.dat h0
    have s12:=s1.trans s2
    refine cO ⟨_,rfl,f,_,1,_,rfl,rfl,SqL.of (show H2 f = some (.lst [.ref l0,.ref l1,.ref l2]) from s12 _ _ hf),at1,.inl ⟨rfl,_,SqL.of (s12 _ _ tri.h1)⟩,?_⟩
    refine d4 (RE.use (K:=K) (d:=y1) (aN (k:=1) (aa (s12.dat h1')) aj rfl) fun y H4 s4 q4=>?_)
    have s14:=s12.trans s4
    have tri4:=tri.same s14
    refine ⟨l1,b,y,rfl,rfl,tri4.h1,bQ (by omega),?_⟩
    obtain ⟨t5,b5⟩:=tri4.p1 (v:=y)
    have g5:=b5.grow (K:=K) tri4 t5
    dsimp only
    by_cases hnn:∃ nn,t = .num nn
    · obtain ⟨nn,rfl⟩:=hnn
      have h1:Dat K H (.tup [.str "num",.int nn]) v1:=h1
      have ey:y1 = .int nn:=by
        have z:toD (.num nn) = .tup [.str "num",.int nn]:=rfl
        rw [z] at ek
        injection ek with ek
        injection ek with _ ek
        injection ek with ek _
        exact ek.symm
      subst ey
      have h5:=Dat.mono g5 _ (s14.dat h1)
      refine aZ (K:=K) (d:=.bl (decide (nn ≤ m))) (RE.as (cm (b:=true) (RE.as (br (aN (k:=0) (aa h5) aj rfl) aG) (congrArg D.bl (decide_eq_true rfl))) fun _=>d5 (p:=fun i j=>decide (i ≤ j)) (aN (k:=1) (aa h5) aj rfl) (aN (k:=2) (aa (Dat.mono g5 _ (s4.dat h0))) aj rfl)) rfl) fun v H' s qq=>?_
      rw [qq.blE]
      have pz:=post _ [] [y] [] ((s14.but3.trans b5).trans s.but3) (t5.same s) (by simp) (by simpa using p1) (by simp) fun fd z=>by
        have z':(if nn ≤ m then some ([],[nn],[]) else none:Option Fnd) = some fd:=z
        by_cases hm:nn ≤ m
        · rw [if_pos hm] at z'
          cases z'
          exact ⟨Dats.nil,Dats.cons (s.dat (Dat.mono g5 _ q4)) Dats.nil,Dats.nil⟩
        · rw [if_neg hm] at z'
          cases z'
      have e:(bY (.gap i m) (.num nn)).isSome = decide (nn ≤ m):=by
        show (if nn ≤ m then some _ else none:Option Fnd).isSome = _
        by_cases hm:nn ≤ m
        · rw [if_pos hm,decide_eq_true hm]; rfl
        · rw [if_neg hm,decide_eq_false hm]; rfl
      rw [e] at pz
      exact pz
    · have e:=qr (i:=i) (m:=m) fun n z=>hnn ⟨n,z⟩
      refine aZ (K:=K) (d:=.bl false) (RE.as (cm (b:=false) (c:=true) (RE.as (br (aN (k:=0) (aa (Dat.mono g5 _ (s14.dat h1'))) aj rfl) aG) (congrArg D.bl (decide_eq_false (fun z=>hnn (hnum.mp z))))) fun c=>nomatch c) rfl) fun v H' s qq=>?_
      rw [qq.blE]
      have pz:=post _ [] [y] [] ((s14.but3.trans b5).trans s.but3) (t5.same s) (by simp) (by simpa using p1) (by simp) fun fd z=>by rw [e] at z; cases z
      rw [e] at pz
      exact pz
  | slot i =>
    have h0:Dat K H (.tup [.str "slot",.int i]) v0:=h0
    refine aO (K:=K) (b:=false) (RT.as (ay (br (aN (k:=0) (aa h0) aj rfl) aG)) (decide_eq_false (by decide +kernel))) (fun c=>nomatch c) (fun _ H1 s1=>?_)
    have h0:=s1.dat h0
    refine aO (K:=K) (b:=false) (RT.as (ay (br (aN (k:=0) (aa h0) aj rfl) aG)) (decide_eq_false (by decide +kernel))) (fun c=>nomatch c) (fun _ H2 s2=>?_)
    have h0:=s2.dat h0
    refine aO (K:=K) (b:=true) (RT.as (ay (br (aN (k:=0) (aa h0) aj rfl) aG)) (decide_eq_true rfl)) (fun _ H3 s3=>?_) (fun c=>nomatch c)
    have s13:=s1.trans (s2.trans s3)
    refine cO ⟨_,rfl,f,_,2,_,rfl,rfl,SqL.of (show H3 f = some (.lst [.ref l0,.ref l1,.ref l2]) from s13 _ _ hf),at2,.inl ⟨rfl,_,SqL.of (s13 _ _ tri.h2)⟩,?_⟩
    refine d4 (RE.use (K:=K) (d:=y1) (aN (k:=1) (aa (s13.dat h1')) aj rfl) fun y H4 s4 q4=>?_)
    have s14:=s13.trans s4
    have tri4:=tri.same s14
    refine ⟨l2,c,y,rfl,rfl,tri4.h2,bQ (by omega),?_⟩
    obtain ⟨t5,b5⟩:=tri4.p2 (v:=y)
    have g5:=b5.grow (K:=K) tri4 t5
    dsimp only
    refine aZ (K:=K) (d:=.bl (decide (kd' = "arg"))) (br (aN (k:=0) (aa (Dat.mono g5 _ (s14.dat h1'))) aj rfl) aG) fun v H' s qq=>?_
    rw [qq.blE]
    have pz:=post _ [] [] [y] ((s14.but3.trans b5).trans s.but3) (t5.same s) (by simp) (by simp) (by simpa using p1) fun fd z=>by
      cases t with
      | arg nn =>
        cases z
        have ey:y1 = .int nn:=by
          have z:toD (.arg nn) = .tup [.str "arg",.int nn]:=rfl
          rw [z] at ek
          injection ek with ek
          injection ek with _ ek
          injection ek with ek _
          exact ek.symm
        subst ey
        exact ⟨Dats.nil,Dats.nil,Dats.cons (s.dat (Dat.mono g5 _ q4)) Dats.nil⟩
      | _=>cases z
    by_cases ha:∃ n,t = .arg n
    · rw [decide_eq_true (harg.mpr ha)]
      obtain ⟨nn,rfl⟩:=ha
      exact pz
    · rw [decide_eq_false (fun z=>ha (harg.mp z))]
      rw [nP fun n z=>ha ⟨n,z⟩] at pz
      exact pz
  | num m =>
    have h0:Dat K H (.tup [.str "num",.int m]) v0:=h0
    refine aO (K:=K) (b:=false) (RT.as (ay (br (aN (k:=0) (aa h0) aj rfl) aG)) (decide_eq_false (by decide +kernel))) (fun c=>nomatch c) (fun _ H1 s1=>?_)
    have h0:=s1.dat h0
    refine aO (K:=K) (b:=false) (RT.as (ay (br (aN (k:=0) (aa h0) aj rfl) aG)) (decide_eq_false (by decide +kernel))) (fun c=>nomatch c) (fun _ H2 s2=>?_)
    have h0:=s2.dat h0
    refine aO (K:=K) (b:=false) (RT.as (ay (br (aN (k:=0) (aa h0) aj rfl) aG)) (decide_eq_false (by decide +kernel))) (fun c=>nomatch c) (fun _ H3 s3=>?_)
    have h0:=s3.dat h0
    refine aO (K:=K) (b:=true) (RT.as (ay (br (aN (k:=0) (aa h0) aj rfl) aG)) (decide_eq_true rfl)) (fun _ H4 s4=>?_) (fun c=>nomatch c)
    have s14:=s1.trans (s2.trans (s3.trans s4))
    refine ⟨_,rfl,_,rfl,toD t,toP (.num m),s14.dat h1,s4.dat h0,fk t,by unfold toP; simp [noL,cM],by rw [fU]; omega,?_⟩
    show Q (.bl (eqD (toD t) (toP (.num m)))) _
    rw [AS m t okt]
    exact post _ [] [] [] s14.but3 (tri.same s14).nil (by simp) (by simp) (by simp) fun fd z=>by
      cases t with
      | num nn =>
        have z':(if nn = m then some ([],[],[]) else none:Option Fnd) = some fd:=z
        by_cases hm:nn = m
        · rw [if_pos hm] at z'
          cases z'
          exact ⟨Dats.nil,Dats.nil,Dats.nil⟩
        · rw [if_neg hm] at z'
          cases z'
      | _=>cases z
  | two o pa pb =>
    have h0:Dat K H (.tup [.str o,toP pa,toP pb]) v0:=h0
    have ho:okB o:=okp.1
    refine aO (K:=K) (b:=false) (RT.as (ay (br (aN (k:=0) (aa h0) aj rfl) aG)) (decide_eq_false (by intro z; subst z; exact absurd ho (by decide +kernel)))) (fun c=>nomatch c) (fun _ H1 s1=>?_)
    have h0:=s1.dat h0
    refine aO (K:=K) (b:=false) (RT.as (ay (br (aN (k:=0) (aa h0) aj rfl) aG)) (decide_eq_false (by intro z; subst z; exact absurd ho (by decide +kernel)))) (fun c=>nomatch c) (fun _ H2 s2=>?_)
    have h0:=s2.dat h0
    refine aO (K:=K) (b:=false) (RT.as (ay (br (aN (k:=0) (aa h0) aj rfl) aG)) (decide_eq_false (by intro z; subst z; exact absurd ho (by decide +kernel)))) (fun c=>nomatch c) (fun _ H3 s3=>?_)
    have h0:=s3.dat h0
    refine aO (K:=K) (b:=false) (RT.as (ay (br (aN (k:=0) (aa h0) aj rfl) aG)) (decide_eq_false (by intro z; subst z; exact absurd ho (by decide +kernel)))) (fun c=>nomatch c) (fun _ H4 s4=>?_)
    have h0:=s4.dat h0
    have s14:=s1.trans (s2.trans (s3.trans s4))
    refine ix (Ak (RE.use (K:=K) (d:=.bl (decide (kd' = o))) (br (aN (k:=0) (aa (s14.dat h1')) aj rfl) (aN (k:=0) (aa h0) aj rfl)) fun vb G sG qb=>⟨_,qb.blE,?_⟩))
    have s1G:=s14.trans sG
    by_cases hk:kd' = o
    · rw [decide_eq_true hk]
      refine qx ?_
      obtain ⟨x,y,rfl⟩:=qv ho ek hk
      have h1:Dat K H (.tup [.str o,toD x,toD y]) v1:=h1
      have dpa:cx pa ≤ n:=by simp only [cx] at hn; omega
      have dpb:cx pb ≤ n:=by simp only [cx] at hn; omega
      have dpx:aR x ≤ 8:=by simp only [aR] at dpt; omega
      have dpy:aR y ≤ 8:=by simp only [aR] at dpt; omega
      refine Ak (kq (d4 (RE.use (K:=K) (d:=toP pa) (aN (k:=1) (aa (sG.dat h0)) aj rfl) fun w0 H5 s5 q5=>?_)))
      refine d4 (RE.use (K:=K) (d:=toD x) (aN (k:=1) (aa ((s1G.trans s5).dat h1)) aj rfl) fun w1 H6 s6 q6=>?_)
      have s16:=s1G.trans (s5.trans s6)
      have tri6:=tri.same s16
      refine ⟨_,rfl,pa,x,w0,w1,f,l0,l1,l2,a,b,c,rfl,okp.2.1,okt.2.1,dpx,dpa,by omega,s6.dat q5,q6,s16 _ _ hf,f0,f1,f2,tri6,by omega,by omega,by omega,fun H7 a1 b1' c1 bb7 tri7 ka kb kc d7=>?_⟩
      refine ⟨_,rfl,?_⟩
      have g67:dv K H6 H7:=bb7.grow tri6 tri7
      have bb17:But3 l0 l1 l2 H H7:=s16.but3.trans bb7
      cases hfa:bY pa x with
      | none =>
        refine lU ?_
        have pz:=post H7 a1 b1' c1 bb17 tri7 (Nat.le_trans ka (Nat.pow_le_pow_right (by decide) (by omega))) (Nat.le_trans kb (Nat.pow_le_pow_right (by decide) (by omega))) (Nat.le_trans kc (Nat.pow_le_pow_right (by decide) (by omega))) fun fd z=>by rw [gd hfa] at z; cases z
        rw [gd hfa] at pz
        exact pz
      | some fa =>
        refine qx ?_
        obtain ⟨da,db,dc⟩:=d7 fa hfa
        refine kq (d4 (RE.use (K:=K) (d:=toP pb) (aN (k:=2) (aa (Dat.mono g67 _ ((sG.trans (s5.trans s6)).dat h0))) aj rfl) fun w2 H8 s8 q8=>?_))
        refine d4 (RE.use (K:=K) (d:=toD y) (aN (k:=2) (aa (s8.dat (Dat.mono g67 _ (s16.dat h1)))) aj rfl) fun w3 H9 s9 q9=>?_)
        have s79:=s8.trans s9
        have tri9:=tri7.same s79
        refine ⟨_,rfl,pb,y,w2,w3,f,l0,l1,l2,a ++ a1,b ++ b1',c ++ c1,rfl,okp.2.2,okt.2.2,dpy,dpb,by omega,s9.dat q8,q9,s79 _ _ (hf' bb17),f0,f1,f2,tri9,by rw [List.length_append]; omega,by rw [List.length_append]; omega,by rw [List.length_append]; omega,fun H10 a2 b2' c2 bb10 tri10 ma mb mc d10=>?_⟩
        have g:=bb10.grow (K:=K) tri9 tri10
        rw [List.append_assoc,List.append_assoc,List.append_assoc] at tri10
        have pz:=post H10 (a1 ++ a2) (b1' ++ b2') (c1 ++ c2) (bb17.trans (s79.but3.trans bb10)) tri10 (ko ka ma) (ko kb mb) (ko kc mc) fun fd z=>by
          obtain ⟨_,f',g',e1,e2,e3⟩:=dk z
          rw [hfa] at e1
          cases e1
          obtain ⟨da2,db2,dc2⟩:=d10 g' e2
          subst e3
          refine ⟨?_,?_,?_⟩
          · show Dats K H10 ((fa.1 ++ g'.1).map toD) _
            rw [List.map_append]
            exact Dats.append (Dats.mono g _ (s79.dats da)) da2
          · show Dats K H10 ((fa.2.1 ++ g'.2.1).map D.int) _
            rw [List.map_append]
            exact Dats.append (Dats.mono g _ (s79.dats db)) db2
          · show Dats K H10 ((fa.2.2 ++ g'.2.2).map D.int) _
            rw [List.map_append]
            exact Dats.append (Dats.mono g _ (s79.dats dc)) dc2
        rw [lP hfa] at pz
        exact pz
    · rw [decide_eq_false hk]
      refine lU ?_
      have e:=qk (a:=pa) (b:=pb) ho ek hk
      have pz:=post _ [] [] [] s1G.but3 (tri.same s1G).nil (by simp) (by simp) (by simp) fun fd z=>by rw [e] at z; cases z
      rw [e] at pz
      exact pz
theorem Cg {σ:L2.St} {H:Hp} {tt:TT} {ta tb:TE} {b:Bool} {es:List D} (h:RT tt σ H b) (h1:b = true→RC K ta σ H es) (h2:b = false→RC K tb σ H es):RC K (tIf tt ta tb) σ H es:=fun H1 s Q q =>
  (h.mono s).use fun H' s'=>by
    cases b with
    | true=>exact qx (h1 rfl H' (s.trans s') Q fun l ys H2 hl s2=>q l ys H2 (s'.free hl) (s'.trans s2))
    | false=>exact lU (h2 rfl H' (s.trans s') Q fun l ys H2 hl s2=>q l ys H2 (s'.free hl) (s'.trans s2))
def sV (ds:List D) (d:D):Prop:=∃ m,ds = [.int m]∧d = .int (fm m)
theorem oP (T:Txt P w K mg)  : FnOk P w K mg base CX0 (k + 1) T.FA T.FG ["_law_cells"] (spD K sV):=by
  refine T.FM.ok sc__law_over (fun vs H Q E h=>?_) (fun cdv A outer s H vs Q E hr h=>?_)
  · obtain ⟨ds,d,hd,⟨m,rfl,rfl⟩,_⟩:=h; exact hd.length.symm
  have nd:=sc__law_over.nd
  obtain ⟨ds,d,hd,⟨m,rfl,rfl⟩,post⟩:=h
  obtain ⟨v0,rfl,h0⟩:=fZ hd
  refine ⟨_,(au (aD (gK (aF gJ (pv 0) ag (aL _)) ag ag))),?_⟩
  refine aZ (K:=K) (d:=.int (fm m)) (mz (b:=decide (m ≤ 9)) (ay (d5 (p:=fun i j=>decide (i ≤ j)) (aa h0) aj)) (fun c=>RE.as aj ?_) (fun c=>RE.as aj ?_)) post
  · unfold fm; rw [if_pos (of_decide_eq_true c)]
  · unfold fm; rw [if_neg (of_decide_eq_false c)]
def nY (ds es:List D):Prop:=∃ n f m,ds = [.int n,.int f,.int m]∧es = (jl n f m).map D.int
theorem oO (T:Txt P w K mg)  : FnOk P w K mg base CX0 (k + 1) T.Fz T.FF ["_law_near","_law_far","_law_cells"] (iz K nY):=by
  refine T.FL.ok sc__law_jump (fun vs H Q E h=>?_) (fun cdv A outer s H vs Q E hr h=>?_)
  · obtain ⟨ds,es,hd,⟨n,f,m,rfl,rfl⟩,_⟩:=h; exact hd.length.symm
  have nd:=sc__law_jump.nd
  obtain ⟨ds,es,hd,⟨n,f,m,rfl,rfl⟩,post⟩:=h
  obtain ⟨v0,v1,v2,rfl,h0,h1,h2⟩:=p6 hd
  refine ⟨_,(au (aD (gK (aF gJ (pv 2) ag (aL _)) (bC (ah (pv 0) (ah (pv 2) af))) (bC (ah (pv 1) (ah (bE fB (pv 2) ag) (ah (bE jI (pv 2) ag) af))))))),?_⟩
  refine ix (RC.use (K:=K) (Cg (b:=decide (m ≤ 9)) (ay (d5 (p:=fun i j=>decide (i ≤ j)) (aa h2) aj)) (fun c=>?_) (fun c=>?_)) fun l ys H' hl s hy hd=>post l ys H' s hy hl hd)
  · have e:jl n f m = [n,m]:=by unfold jl; rw [if_pos (of_decide_eq_true c)]
    rw [e]
    exact hZ (ae (aa h0) (ae (aa h2) ax))
  · have e:jl n f m = [f,m % 100,m / 100]:=by unfold jl; rw [if_neg (of_decide_eq_false c)]
    rw [e]
    exact hZ (ae (aa h1) (ae (sD (aa h2) aj (by decide)) (ae (pd (aa h2) aj ⟨by decide,by decide⟩) ax)))
theorem Bp {te:TE} {g:TG} {tb:TS} {En:Ends} {σ:L2.St} {H:Hp} (h:te σ H fun x H1=>∃ a,x = .ref a∧(∃ xs,SqT K H1 a xs)∧∃ W:Nat→Nat→L2.St→Hp→Prop,(∃ m,W 0 m σ H1)∧∀ i m σ H,W i m σ H →
      ((Itt K a).stop i H∧En.nx σ H)∨((Itt K a).go i H∧∃ N:L2.St→Hp→Prop,(∀ σ' H',N σ' H'→∃ m',m' < m∧W (i + 1) m' σ' H')∧∀ x H',(Itt K a).yld i H x H'→g x σ H' fun σ2 H2=>tb { En with nx:=N,ct:=N,bk:=En.nx } σ2 H2)):BD (yR K te) g tb En σ H:=h
def rC (as:List Ar) (es:List D):Prop:=∃ (cl:List Cl) (nums ks:List Int),as = [.d (.tup (cl.map clD)),.l (nums.map D.int),.l (ks.map D.int)]∧(∀ c ∈ cl,iy nums.length ks.length c = true)∧cl.length ≤ 12∧es = cl.map fun c=>D.int (qg nums ks c)
theorem oK {ns:List Int} {k:Nat} (h:k < ns.length):(ns.map D.int)[k]? = some (.int (ns.getD k 0)):=by
  rw [List.getElem?_map,List.getD_eq_getElem?_getD,List.getElem?_eq_getElem h]
  rfl
theorem oN (T:Txt P w K mg)  : FnOk P w K mg base CX0 (k + 1) T.Fy T.FE ["_law_cells","_law_nums","_law_ks"] (mG K rC):=by
  refine T.GG.ok sc__law_fill (fun vs H Q E h=>?_) (fun cdv A outer s H vs Q E hr h=>?_)
  · obtain ⟨as,es,hd,⟨cl,nums,ks,rfl,_⟩,_⟩:=h; exact hd.length.symm
  have nd:=sc__law_fill.nd
  obtain ⟨as,es,hd,⟨cl,nums,ks,rfl,okc,lc,rfl⟩,post⟩:=h
  obtain ⟨v0,v1,v2,rfl,h0,h1,h2⟩:=oa hd
  have h0:Dat K H (.tup (cl.map clD)) v0:=h0
  have h1:LD K H (nums.map D.int) v1:=h1
  have h2:LD K H (ks.map D.int) v2:=h2
  obtain ⟨a,us,rfl,ha,hus⟩:=h0.tupE
  have lu:=hus.length
  rw [List.length_map] at lu
  refine ⟨_,(ao (bz (i:=3) nd rfl (Or.inl rfl) (bC af))
  (ao (hV PassesOwn.never rfl (iN (pv 0)) (aV (i:=4) nd rfl (Or.inl rfl)) (au (bj (bR (bq (aA (dA fP) rfl T.C1 aQ (aS (pv 4) (aS (dM (v:=.ty "tuple") rfl T.Ei cV rfl) af))) (fun _=>rfl))) (au (bF (cZ PySem.F.plainAttrs_list PySem.F.slot_list_append PySem.F.type_list_append bL (pv 3) (ah (pv 4) af)))) (au (bj (aF cg (aE aI (pv 4) ag (fun _ _=>rfl)) aJ (aL _)) (au (bF (cZ PySem.F.plainAttrs_list PySem.F.slot_list_append PySem.F.type_list_append bL (pv 3) (ah (aE bp (pv 2) (aE aI (pv 4) ag (fun _ _=>rfl)) (fun _ _=>rfl)) af)))) (au (bF (cZ PySem.F.plainAttrs_list PySem.F.slot_list_append PySem.F.type_list_append bL (pv 3) (ah (gK (aF cg (aE aI (pv 4) ag (fun _ _=>rfl)) aJ (aL _)) (bE fB (aE bp (pv 1) (aE aI (pv 4) ag (fun _ _=>rfl)) (fun _ _=>rfl)) ag) (bE jI (aE bp (pv 1) (aE aI (pv 4) ag (fun _ _=>rfl)) (fun _ _=>rfl)) ag)) af)))))))))
  (au (aD (pv 3))))),?_⟩
  refine dt ⟨bU (by decide),fun l hl=>?_⟩
  have s1:Same H (upd H l (.lst [])):=aC hl _
  refine cO (Bp (K:=K) ⟨_,rfl,a,rfl,⟨us,s1.sqT ha⟩,oz (xs:=us) (fun i σ G=>∃ (z:Option V) (ys:List V),σ = [some (.ref a),some v1,some v2,some (.ref l),z]∧Same H G∧G l = some (.lst ys)∧Dats K G ((cl.take i).map fun c=>D.int (qg nums ks c)) ys) ?_ (fun i σ G _ ⟨_,_,_,p,_⟩=>p.sqT ha) ?_ ?_⟩)
  · exact ⟨none,[],rfl,s1,aq,by rw [List.take_zero]; exact Dats.nil⟩
  · rintro i vx σ G hi ⟨z,ys,rfl,sG,hlG,dy⟩
    obtain ⟨dx,ex,hx⟩:=(sG.dats hus).getV hi
    rw [List.getElem?_map] at ex
    cases hc:cl[i]? with
    | none=>rw [hc] at ex; cases ex
    | some c =>
      rw [hc] at ex
      cases ex
      have okc:=okc c (List.mem_of_getElem? hc)
      have et:cl.take (i + 1) = cl.take i ++ [c]:=by rw [List.take_add_one,hc]; rfl
      have lys:ys.length ≤ 12:=by rw [← dy.length,List.length_map,List.length_take]; omega
      refine jN ?_
      dsimp only
      have fin:∀ {G1 G2:Hp} {y:V} {b:Option V},Same G G1→But l G1 G2→G2 l = some (.lst (ys ++ [y]))→Dat K G2 (.int (qg nums ks c)) y→∃ (z:Option V) (ys:List V),[some (.ref a),some v1,some v2,some (.ref l),b] = [some (.ref a),some v1,some v2,some (.ref l),z]∧Same H G2∧G2 l = some (.lst ys)∧Dats K G2 ((cl.take (i + 1)).map fun c=>D.int (qg nums ks c)) ys:=fun {G1 G2 y b} s1 b2 h2 q2=>by
        have g2:dv K G1 G2:=b2.grow (s1 _ _ hlG) h2
        refine ⟨_,ys ++ [y],rfl,fun x o hx=>b2 x o (av hx hl) (s1 _ _ (sG _ _ hx)),h2,?_⟩
        rw [et,List.map_append]
        exact Dats.append (Dats.mono g2 _ (s1.dats dy)) (Dats.cons q2 Dats.nil)
      cases c with
      | n j =>
        have hx:Dat K G (.int j) vx:=hx
        refine eU (b:=true) (bu (aW (bM (K:=K) (aa (k:=4) hx)))) (fun _ G1 s1=>?_) (fun c=>nomatch c)
        exact h8 (K:=K) (d:=.int j) (aa (k:=4) (s1.dat hx)) (s1 _ _ hlG) (by omega) fun y G2 b2 h2 q2=>fin s1 b2 h2 q2
      | arg j =>
        have hx:Dat K G (.tup [.str "arg",.int j]) vx:=hx
        have okc:=of_decide_eq_true okc
        refine eU (b:=false) (bu (aW (bM (K:=K) (aa (k:=4) hx)))) (fun c=>nomatch c) (fun _ G1 s1=>?_)
        have hx:=s1.dat hx
        refine eU (b:=true) (RT.as (ay (br (aN (k:=0) (aa (k:=4) hx) aj rfl) aG)) (decide_eq_true rfl)) (fun _ G2 s2=>?_) (fun c=>nomatch c)
        have s12:=s1.trans s2
        exact h8 (K:=K) (d:=.int (ks.getD j 0)) (e9 (k:=j) (aT (k:=2) ((sG.trans s12).ld h2)) (aN (k:=1) (aa (k:=4) (s2.dat hx)) aj rfl) (oK okc)) (s12 _ _ hlG) (by omega) fun y G3 b3 h3 q3=>fin s12 b3 h3 q3
      | low j =>
        have hx:Dat K G (.tup [.str "low",.int j]) vx:=hx
        have okc:=of_decide_eq_true okc
        refine eU (b:=false) (bu (aW (bM (K:=K) (aa (k:=4) hx)))) (fun c=>nomatch c) (fun _ G1 s1=>?_)
        have hx:=s1.dat hx
        refine eU (b:=false) (RT.as (ay (br (aN (k:=0) (aa (k:=4) hx) aj rfl) aG)) (decide_eq_false (by decide +kernel))) (fun c=>nomatch c) (fun _ G2 s2=>?_)
        have s12:=s1.trans s2
        have hx:=s2.dat hx
        refine h8 (K:=K) (d:=.int (nums.getD j 0 % 100)) (mz (b:=true) (RT.as (ay (br (aN (k:=0) (aa (k:=4) hx) aj rfl) aG)) (decide_eq_true rfl)) (fun _=>sD (e9 (k:=j) (aT (k:=1) ((sG.trans s12).ld h1)) (aN (k:=1) (aa (k:=4) hx) aj rfl) (oK okc)) aj (by decide)) (fun c=>nomatch c)) (s12 _ _ hlG) (by omega) fun y G3 b3 h3 q3=>fin s12 b3 h3 q3
      | high j =>
        have hx:Dat K G (.tup [.str "high",.int j]) vx:=hx
        have okc:=of_decide_eq_true okc
        refine eU (b:=false) (bu (aW (bM (K:=K) (aa (k:=4) hx)))) (fun c=>nomatch c) (fun _ G1 s1=>?_)
        have hx:=s1.dat hx
        refine eU (b:=false) (RT.as (ay (br (aN (k:=0) (aa (k:=4) hx) aj rfl) aG)) (decide_eq_false (by decide +kernel))) (fun c=>nomatch c) (fun _ G2 s2=>?_)
        have s12:=s1.trans s2
        have hx:=s2.dat hx
        refine h8 (K:=K) (d:=.int (nums.getD j 0 / 100)) (mz (b:=false) (RT.as (ay (br (aN (k:=0) (aa (k:=4) hx) aj rfl) aG)) (decide_eq_false (by decide +kernel))) (fun c=>nomatch c) (fun _=>pd (e9 (k:=j) (aT (k:=1) ((sG.trans s12).ld h1)) (aN (k:=1) (aa (k:=4) hx) aj rfl) (oK okc)) aj ⟨by decide,by decide⟩)) (s12 _ _ hlG) (by omega) fun y G3 b3 h3 q3=>fin s12 b3 h3 q3
  · rintro σ G ⟨z,ys,rfl,sG,hlG,dy⟩
    rw [← lu,List.take_length] at dy
    exact ⟨_,rfl,post l ys G sG hlG hl dy⟩
end
end My
end
section
namespace My
open PySem L2 PyProof.Rows
section
variable {P:Program} {w:World} {K:PySem.W.Frag} {mg:Str→Option Value} {base:Heap} {k:Nat}
structure New3 (F G:Hp) (f l0 l1 l2:Addr):Prop where
  s:Same F G
  hf:G f = some (oL l0 l1 l2)
  n0:f ≠ l0
  n1:f ≠ l1
  n2:f ≠ l2
  tri:Tri l0 l1 l2 G [] [] []
  f0:F l0 = none
  f1:F l1 = none
  f2:F l2 = none
theorem New3.mono {F G G':Hp} {f l0 l1 l2:Addr} (h:New3 F G f l0 l1 l2) (s:Same G G'):New3 F G' f l0 l1 l2:=⟨h.s.trans s,s _ _ h.hf,h.n0,h.n1,h.n2,h.tri.same s,h.f0,h.f1,h.f2⟩
theorem xK {σ:L2.St} {F:Hp} {Q:VK} (q:∀ f l0 l1 l2 G,New3 F G f l0 l1 l2→Q (.ref f) G):kU (bB (kU cH) (bB (kU cH) (bB (kU cH) cH))) σ F Q:=by
  refine ⟨bU (by decide),fun l0 hl0=>⟨bU (by decide),fun l1 hl1=>⟨bU (by decide),fun l2 hl2=>⟨bU (by simp),fun f hf=>?_⟩⟩⟩⟩
  have n10:l0 ≠ l1:=av aq hl1
  have n20:l0 ≠ l2:=av (by rw [aB n10]; exact aq) hl2
  have n21:l1 ≠ l2:=av aq hl2
  have nf0:l0 ≠ f:=av (by rw [aB n20,aB n10]; exact aq) hf
  have nf1:l1 ≠ f:=av (by rw [aB n21]; exact aq) hf
  have nf2:l2 ≠ f:=av aq hf
  refine q f l0 l1 l2 _ ⟨(aC hl0 _).trans ((aC hl1 _).trans ((aC hl2 _).trans (aC hf _))),aq,Ne.symm nf0,Ne.symm nf1,Ne.symm nf2,⟨?_,?_,?_,n10,n20,n21⟩,hl0,?_,?_⟩
  · rw [aB nf0,aB n20,aB n10]; exact aq
  · rw [aB nf1,aB n21]; exact aq
  · rw [aB nf2]; exact aq
  · rw [aB (Ne.symm n10)] at hl1; exact hl1
  · rw [aB (Ne.symm n21),aB (Ne.symm n20)] at hl2; exact hl2
structure Full3 (K:PySem.W.Frag) (F G:Hp) (f l0 l1 l2:Addr) (fd:Fnd):Prop where
  hf:G f = some (.lst [.ref l0,.ref l1,.ref l2])
  h0:LD K G (fd.1.map toD) (.ref l0)
  h1:LD K G (fd.2.1.map D.int) (.ref l1)
  h2:LD K G (fd.2.2.map D.int) (.ref l2)
theorem Full3.mono {F G G':Hp} {f l0 l1 l2:Addr} {fd:Fnd} (h:Full3 K F G f l0 l1 l2 fd) (s:Same G G'):Full3 K F G' f l0 l1 l2 fd:=⟨s _ _ h.hf,s.ld h.h0,s.ld h.h1,s.ld h.h2⟩
theorem Al {E:XK} {tp tt:TE} {j:Nat} {σ:L2.St} {F G:Hp} {f l0 l1 l2:Addr} {p:Pa} {t:Tr} {Q:VK} (N:New3 F G f l0 l1 l2) (okp:fV p) (okt:okT t) (dpt:aR t ≤ 8) (dpp:cx p ≤ 3) (hp:RE K tp σ G (toP p)) (ht:RE K tt σ G (toD t))
    (q:∀ G',Same F G'→(∀ fd,bY p t = some fd→Full3 K F G' f l0 l1 l2 fd)→Q (.bl (bY p t).isSome) G') (hv:σ[j]? = some (some (.ref f)):=by rfl):gQ (iP K oL 3) [] E (bB tp (bB tt (bB (eJ j) cH))) σ G Q:=by
  refine kq (d4 (hp.use fun w0 G1 s1 q1=>d4 ((ht.mono s1).use fun w1 G2 s2 q2=>?_)))
  have N2:=N.mono (s1.trans s2)
  refine ⟨_,hv,p,t,w0,w1,f,l0,l1,l2,[],[],[],rfl,okp,okt,dpt,dpp,by decide,s2.dat q1,q2,N2.hf,N2.n0,N2.n1,N2.n2,N2.tri,by decide,by decide,by decide,fun G3 a' b' c' bb tri' _ _ _ dd=>?_⟩
  refine q G3 (fun x o hx=>bb x o (av hx N2.f0) (av hx N2.f1) (av hx N2.f2) (N2.s _ _ hx)) fun fd e=>?_
  obtain ⟨d0,d1,d2⟩:=dd fd e
  exact ⟨bb _ _ N2.n0 N2.n1 N2.n2 N2.hf,LD.of tri'.h0 d0,LD.of tri'.h1 d1,LD.of tri'.h2 d2⟩
theorem rb {tb:TE} {k:Nat} {v:Nat} {σ:L2.St} {H:Hp} {f l:Addr} {us:List V} {es:List D} (hf:H f = some (.lst us)) (hl:LD K H es (.ref l)) (h2:RE K tb σ H (.int (v:Nat))) (e:us[v]? = some (.ref l)) (hv:σ[k]? = some (some (.ref f)):=by rfl):RL K (tOp (sA K) (eJ k) tb) σ H es:=fun H1 s Q q =>
  ⟨_,hv,h2 H1 s _ fun w H3 s3 q3=>⟨f,us,v,.ref l,rfl,q3.intE,SqL.of ((s.trans s3) _ _ hf),fG e,q _ _ s3 ((s.trans s3).ld hl)⟩⟩
theorem xV {k:Nat} {σ:L2.St} {H:Hp} {l:Addr} {ys:List V} {ds:List D} (hl:H l = some (.lst ys)) (hd:Dats K H ds ys) (n1:cM ds = true) (dp:bJ ds ≤ 20) (hv:σ[k]? = some (some (.ref l)):=by rfl):RE K (tOp (xI K true) (eJ k) (kU cH)) σ H (.bl (!cW ds [])):=fun H1 s Q q =>
  ⟨_,hv,bU (by decide),fun p hp=>by
    have sp:=aC hp (.lst [])
    exact ⟨l,p,ys,[],ds,[],rfl,rfl,SqL.of (sp _ _ (s _ _ hl)),SqL.of aq,sp.dats (s.dats hd),Dats.nil,n1,rfl,dp,q _ _ sp (Dat.blI _)⟩⟩
def gC (f:Tr→Bst) (w:Wy):Option Int:=(dD (w.ts.map f)).map fun bs=>cJ w (bs.map (·.1))
theorem uJ {f:Tr→Bst} {w:Wy} {bs:List (Int × D)} (h:dD (w.ts.map f) = some bs) (hn:w.nm ≠ "pick"):gC f w = some ((w.cs.length:Int) + (bs.map (·.1)).sum):=by
  unfold gC
  rw [h,Option.map_some]
  unfold cJ m4
  rw [if_neg hn]
theorem uI {f:Tr→Bst} {w:Wy} (h:dD (w.ts.map f) = none):gC f w = none:=by
  unfold gC
  rw [h,Option.map_none]
def lq (L:List Int):Bst→Prop
  | none=>L = []
  | some x=>x.1 ∈ L∧∀ m ∈ L,x.1 ≤ m
theorem yc {f:Tr→Bst} {L:List Int} {b:Bst} (w:Wy) (h:lq L b):lq (L ++ (gC f w).toList) (fE f b w):=by
  unfold fE gC
  cases e:dD (w.ts.map f) with
  | none=>show lq (L ++ []) b; rw [List.append_nil]; exact h
  | some bs =>
    have h2:rg b w (some bs) = gY b (cJ w (bs.map (·.1))) (cvD w.nm bs):=rfl
    rw [h2,Option.map_some,Option.toList_some]
    generalize cJ w (bs.map (·.1)) = n
    unfold gY
    cases b with
    | none =>
      have h:L = []:=h
      subst h
      exact ⟨List.mem_singleton.mpr rfl,fun m hm=>Int.le_of_eq (List.mem_singleton.mp hm).symm⟩
    | some x =>
      dsimp only
      have h:x.1 ∈ L∧∀ m ∈ L,x.1 ≤ m:=h
      split
      · rename_i lt
        refine ⟨List.mem_append_right _ (List.mem_singleton.mpr rfl),fun m hm=>?_⟩
        rcases List.mem_append.mp hm with hm | hm
        · have:=h.2 m hm; show n ≤ m; omega
        · exact Int.le_of_eq (List.mem_singleton.mp hm).symm
      · rename_i ge
        refine ⟨List.mem_append_left _ h.1,fun m hm=>?_⟩
        rcases List.mem_append.mp hm with hm | hm
        · exact h.2 m hm
        · rw [List.mem_singleton.mp hm]; omega
theorem qm {f:Tr→Bst}:∀ (ws:List Wy) (L:List Int) (b:Bst),lq L b→lq (L ++ ws.filterMap (gC f)) (ws.foldl (fE f) b)
  | [],L,b,h=>by rw [List.filterMap_nil,List.append_nil]; exact h
  | w :: ws,L,b,h=>by
    have ih:=qm (f:=f) ws _ _ (yc (f:=f) w h)
    rw [List.foldl_cons]
    rw [List.append_assoc] at ih
    have e:(w :: ws).filterMap (gC f) = (gC f w).toList ++ ws.filterMap (gC f):=by
      rw [List.filterMap_cons]
      cases gC f w <;> rfl
    rw [e]
    exact ih
def lnO (b:Bst):Option Int:=b.map (·.1)
theorem nZ:∀ fb:List Bst,(fb.map lnO).any Option.isNone = (dD fb).isNone
  | []=>rfl
  | none :: r=>rfl
  | some b :: r=>by
    have ih:=nZ r
    rw [List.map_cons,List.any_cons,ih]
    show (false || _) = ((dD r).map (b :: ·)).isNone
    cases dD r <;> rfl
theorem jW:∀ {fb:List Bst} {bs:List (Int × D)},dD fb = some bs→(fb.map lnO).map opD = (bs.map (·.1)).map D.int
  | [],bs,h=>by cases h; rfl
  | none :: r,bs,h=>by cases h
  | some b :: r,bs,h=>by
    have h':(dD r).map (b :: ·) = some bs:=h
    cases e:dD r with
    | none=>rw [e] at h'; cases h'
    | some q =>
      rw [e] at h'
      cases h'
      have ih:=jW e
      rw [List.map_cons,List.map_cons,List.map_cons,List.map_cons,ih]
      rfl
theorem rM {ps:List Pc} (hp:∀ p ∈ ps,fA p.pt = true) {a b c:Tr}:bf ps (.pick a b c) = rg none ⟨"pick",[],[a,b,c]⟩ (dD [bf ps a,bf ps b,bf ps c]):=by
  rw [jy hp]
  unfold jf
  rw [rq,List.foldl_cons,List.foldl_nil]
  rfl
theorem xk (w:Wy) (bs:List (Int × D)):opD (lnO (rg none w (some bs))) = .int (cJ w (bs.map (·.1))):=rfl
theorem uK (a b c:Tr) (x y z:Int × D):cJ ⟨"pick",[],[a,b,c]⟩ ([x,y,z].map (·.1)) = x.1 + fm (y.1 + fm z.1) + (y.1 + fm z.1) + z.1:=by
  unfold cJ m4
  rw [if_pos rfl]
  simp
  unfold tT
  omega
def fN (n:Nat) (as:List Ar) (d:D):Prop:=∃ (ps:List Pc) (t:Tr),as = [.d (toD t),.l (ps.map pcD)]∧iw ps∧okT t∧aR t ≤ n∧n ≤ 8∧d = opD (lnO (bf ps t))
theorem uQ (as:List Ar) (d:D):¬ fN 0 as d:=fun ⟨ps,t,_,_,_,h,_⟩=>by
  have:1 ≤ aR t:=by cases t <;> simp [aR]
  omega
theorem lI (ns:List Int):cW (ns.map D.int) [] = ns.isEmpty:=by cases ns with | nil=>exact cA | cons n ns=>exact ck _ _
theorem nr:∀ l:List Int,bJ (l.map D.int) ≤ 1
  | []=>by simp [bJ]
  | n :: ns=>by
    have:=nr ns
    simp only [List.map_cons,bJ,dS]
    omega
theorem mW (T:Txt P w K mg) {n:Nat} (FY:FnOk P w K mg base CX0 k T.D5 T.D7 ["_law_tree_here","_law_some"] (spA K (fN n))) (II:FnOk P w K mg base CX0 k T.FA T.FG ["_law_cells"] (spD K sV)) (Fj:FnOk P w K mg base CX0 k T.Em T.Et ["_law_pattern","_law_tree_here","_law_found"] (iP K oL 3)):FnOk P w K mg base CX0 (k + 1) T.D5 T.D7 ["_law_tree_here","_law_some"] (spA K (fN (n + 1))):=by
  refine T.ED.ok sc__law_least (fun vs H Q E h=>?_) (fun cdv A outer s H vs Q E hr h=>?_)
  · obtain ⟨as,d,hd,⟨ps,t,rfl,_⟩,_⟩:=h; exact hd.length.symm
  have nd:=sc__law_least.nd
  obtain ⟨as,d,hd,⟨ps,t,rfl,okS,okt,dpt,n8,rfl⟩,post⟩:=h
  obtain ⟨v0,v1,rfl,h0,h1⟩:=n6 hd
  have h0:Dat K H (toD t) v0:=h0
  have h1:LD K H (ps.map pcD) v1:=h1
  refine ⟨_,(ao (bj (aF cg (aE aI (pv 0) ag (fun _ _=>rfl)) aJ (aL _)) (ao (dI (i:=2) (own:=["_law_one"]) (fr:=[1]) (N':=["_law_one","_law_some"]) (iN (iM mD (pv 0) (iS ag) kY)) rfl (by show cj ["_law_tree_here","_law_some","_law_three","_law_last","_law_lengths","_law_piece","_law_found","_law_holes"] (fun x=>(aw dQ).names.lookup x) _ _ _ _ = true; decide +kernel) rfl (fun _ _ _ _ _=>(aV (i:=0) (by show List.Nodup [("_law_one":Str),("_law_some":Str)]; decide +kernel) rfl (Or.inl rfl))) (fun _ _ _ _ _=>bX) (fun _ _ _ _ _=>(az FY hr rfl T.F2 T.ED.kp (gW T) .nil aY (ah (pv 0) (ah (pv 1) af)))) nd rfl rfl rfl)
  (ao (bj (aF nH dn (pv 2) (by with_unfolding_all rfl)) (au (aD dn)) aK)
  (ao (bz (i:=3) nd rfl (Or.inl rfl) (bE dF (aE bp (pv 2) ag (fun _ _=>rfl)) (az II hr rfl T.HJ T.FM.kp (kD T) .nil aY (ah (aE bp (pv 2) ag (fun _ _=>rfl)) af))))
  (au (aD (bE dF (bE dF (bE dF (aE bp (pv 2) ag (fun _ _=>rfl)) (az II hr rfl T.HJ T.FM.kp (kD T) .nil aY (ah (pv 3) af))) (pv 3)) (aE bp (pv 2) ag (fun _ _=>rfl)))))))) aK)
  (ao (bz (i:=4) nd rfl (Or.inl rfl) (bC af))
  (ao (hV PassesOwn.never rfl (dq (pv 1)) (aV (i:=5) nd rfl (Or.inl rfl)) (ao (bz (i:=6) nd rfl (Or.inl rfl) (bC (ah (bC af) (ah (bC af) (ah (bC af) af)))))
  (au (bj (bq (az Fj hr rfl T.GA T.E1.kp (gU T) .nil aY (ah (aE aI (pv 5) ag (fun _ _=>rfl)) (ah (pv 0) (ah (pv 6) af)))) (fun _=>rfl)) (ao (dI (i:=7) (own:=["_law_one"]) (fr:=[1]) (N':=["_law_one","_law_some"]) (dq (aE bp (pv 6) ag (fun _ _=>rfl))) rfl (by show cj ["_law_tree_here","_law_some","_law_three","_law_last","_law_lengths","_law_piece","_law_found","_law_holes"] (fun x=>(aw dQ).names.lookup x) _ _ _ _ = true; decide +kernel) rfl (fun _ _ _ _ _=>(aV (i:=0) (by show List.Nodup [("_law_one":Str),("_law_some":Str)]; decide +kernel) rfl (Or.inl rfl))) (fun _ _ _ _ _=>bX) (fun _ _ _ _ _=>(az FY hr rfl T.F2 T.ED.kp (gW T) .nil aY (ah (pv 0) (ah (pv 1) af)))) nd rfl rfl rfl)
  (au (bj (aF jK dn (pv 7) (by with_unfolding_all rfl)) (au (bF (cZ PySem.F.plainAttrs_list PySem.F.slot_list_append PySem.F.type_list_append bL (pv 4) (ah (bE dF (aA aH rfl T.De bI (ah (aE aI (pv 5) ag (fun _ _=>rfl)) af)) (aA (pT rfl) rfl T.J8 wd (ah (pv 7) af))) af)))) aK))) aK))))
  (au (aD (gK (aF (Bb hr) (pv 4) (bC af) (aL _)) (aA (ur rfl) rfl T.Kl AN (ah (pv 4) af)) dn)))))),?_⟩
  obtain ⟨kd,r,ek,hpk,hcall,hkids⟩:=wF t okt
  have h0':Dat K H (.tup (.str kd :: r)) v0:=by rw [← ek]; exact h0
  have nh:=tO okS
  refine aO (K:=K) (b:=qw t) (RT.as (ay (br (aN (k:=0) (aa h0') aj rfl) aG)) hpk) (fun cp H1 s1=>?_) (fun c H1 s1=>?_)
  · cases t with
    | pick a b c =>
      have er:r = [toD a,toD b,toD c]:=hkids rfl
      subst er
      have da:aR a ≤ n:=by simp only [aR] at dpt; omega
      have db:aR b ≤ n:=by simp only [aR] at dpt; omega
      have dc:aR c ≤ n:=by simp only [aR] at dpt; omega
      refine fg (K:=K) (o8 (cs:=[toD a,toD b,toD c]) (iV (aa (k:=0) (s1.dat h0'))) (by simp) [opD (lnO (bf ps a)),opD (lnO (bf ps b)),opD (lnO (bf ps c))] rfl rfl (fun G1 j x v d s2 hc hd hv=>?_)) fun l ys G2 hl s2 hy dy=>?_
      · have hL:=(s1.trans s2).ld h1
        match j,hc,hd with
        | 0,hc,hd=>cases hc; cases hd; exact bP (R:=fN n) (cR (aa (k:=0) hv) (dB (aT (k:=1) hL) bK)) ⟨ps,a,rfl,okS,okt.1,da,by omega,rfl⟩
        | 1,hc,hd=>cases hc; cases hd; exact bP (R:=fN n) (cR (aa (k:=0) hv) (dB (aT (k:=1) hL) bK)) ⟨ps,b,rfl,okS,okt.2.1,db,by omega,rfl⟩
        | 2,hc,hd=>cases hc; cases hd; exact bP (R:=fN n) (cR (aa (k:=0) hv) (dB (aT (k:=1) hL) bK)) ⟨ps,c,rfl,okS,okt.2.2,dc,by omega,rfl⟩
        | j + 3,hc,hd=>cases hc
      have s12:=s1.trans s2
      have hL2:LD K G2 (([bf ps a,bf ps b,bf ps c].map lnO).map opD) (.ref l):=LD.of hy dy
      rw [rM nh] at post
      refine aO (K:=K) (b:=(dD [bf ps a,bf ps b,bf ps c]).isNone) (RT.as (ay (Bu (aT (k:=2) hL2))) (nZ _)) (fun cN G3 s3=>?_) (fun cS G3 s3=>?_)
      · have eN:dD [bf ps a,bf ps b,bf ps c] = none:=by cases e:dD [bf ps a,bf ps b,bf ps c] with | none=>rfl | some _=>rw [e] at cN; cases cN
        rw [eN] at post
        exact aZ (K:=K) (d:=.non) xW fun v G4 s4 q4=>post v G4 (s12.trans (s3.trans s4)) q4
      · cases e:dD [bf ps a,bf ps b,bf ps c] with
        | none=>rw [e] at cS; cases cS
        | some bs =>
          have em:=lB (f:=bf ps) (ts:=[a,b,c]) e
          have l3:bs.length = 3:=by have:=congrArg List.length em; simpa using this.symm
          rw [jW e] at hL2
          rw [e] at post
          match bs,l3 with
          | [x,y,z],_ =>
            have hL3:=s3.ld hL2
            rw [xk,uK] at post
            refine dP (K:=K) (d:=.int (y.1 + fm z.1)) (eH (e9 (k:=1) (aT (k:=2) hL3) aj rfl) (bh (R:=sV) (ae (e9 (k:=2) (aT (k:=2) hL3) aj rfl) ax) ⟨z.1,rfl,rfl⟩)) fun vl G4 s4 q4=>?_
            have hL4:=s4.ld hL3
            refine aZ (K:=K) (d:=.int (x.1 + fm (y.1 + fm z.1) + (y.1 + fm z.1) + z.1)) (eH (eH (eH (e9 (k:=0) (aT (k:=2) hL4) aj rfl) (bh (R:=sV) (ae (aa (k:=3) q4) ax) ⟨_,rfl,rfl⟩)) (aa (k:=3) q4)) (e9 (k:=2) (aT (k:=2) hL4) aj rfl)) fun v G5 s5 q5=>post v G5 (s12.trans (s3.trans (s4.trans s5))) ?_
            exact q5
    | _=>cases cp
  have ew:dJ ps t = ps.filterMap (eR t):=by unfold dJ; rw [if_neg (by rw [c]; exact Bool.false_ne_true)]
  have lm:=qm (f:=bf ps) (dJ ps t) [] none rfl
  rw [List.nil_append] at lm
  have eb:(dJ ps t).foldl (fE (bf ps)) none = bf ps t:=(jy nh t).symm
  rw [eb,ew] at lm
  obtain ⟨a,vs,rfl,ha,hda⟩:=h1
  have la:=hda.length
  rw [List.length_map] at la
  have hps:=okS.few
  refine dt ⟨bU (by decide),fun ll hll=>?_⟩
  have s2:Same H1 (upd H1 ll (.lst [])):=aC hll _
  have s12:=s1.trans s2
  have hln:H ll = none:=s1.free hll
  refine cO ⟨_,rfl,a,rfl,⟨vs,(s12.aLst ha).sqL⟩,iF (xs:=vs) (fun i σ G=>∃ (z2 z3 z5 z6 z7:Option V) (ys:List V),σ = [some v0,some (.ref a),z2,z3,some (.ref ll),z5,z6,z7]∧Same H G∧G ll = some (.lst ys)∧Dats K G ((((ps.take i).filterMap (eR t)).filterMap (gC (bf ps))).map D.int) ys) ?_ (fun i σ G _ ⟨_,_,_,_,_,_,_,p,_⟩=>(p.aLst ha).sqL) ?_ ?_⟩
  · exact ⟨none,none,none,none,none,[],rfl,s12,aq,by rw [List.take_zero]; exact Dats.nil⟩
  · rintro i vx σ G hi ⟨z2,z3,z5,z6,z7,ys,rfl,sG,hlG,dy⟩
    obtain ⟨dx,ex,hx⟩:=(sG.dats hda).getV hi
    rw [List.getElem?_map] at ex
    cases hp:ps[i]? with
    | none=>rw [hp] at ex; cases ex
    | some p =>
      rw [hp] at ex
      cases ex
      have okp:=okS.ok p (List.mem_of_getElem? hp)
      have et:ps.take (i + 1) = ps.take i ++ [p]:=by rw [List.take_add_one,hp]; rfl
      have lys:ys.length ≤ 100:=by
        have l1:=dy.length
        rw [List.length_map] at l1
        have l2:=List.length_filterMap_le (eR t) (ps.take i)
        have l3:=List.length_filterMap_le (gC (bf ps)) ((ps.take i).filterMap (eR t))
        rw [List.length_take] at l2
        omega
      refine jN ?_
      dsimp only
      refine dt (xK fun f l0 l1 l2 G1 N=>?_)
      have hx1:Dat K G1 (.tup [.str p.nm,toP p.pt,.tup p.cs]) vx:=N.s.dat hx
      refine Al (K:=K) (j:=6) N okp.ok okt (by omega) okp.dp (aN (k:=1) (aa (k:=5) hx1) aj rfl) (aa (k:=0) ((sG.trans N.s).dat h0)) fun G2 s2 full=>?_
      have sH2:=sG.trans s2
      have hl2:=s2 _ _ hlG
      have same:∀ {G3:Hp} {z7:Option V},Same G2 G3→((eR t p).bind (gC (bf ps)) = none)→∃ (z2' z3' z5' z6' z7':Option V) (ys:List V),[some v0,some (.ref a),z2,z3,some (.ref ll),some vx,some (.ref f),z7] = [some v0,some (.ref a),z2',z3',some (.ref ll),z5',z6',z7']∧Same H G3∧G3 ll = some (.lst ys)∧Dats K G3 ((((ps.take (i + 1)).filterMap (eR t)).filterMap (gC (bf ps))).map D.int) ys:=fun {G3 z7} s3 e=>by
        refine ⟨_,_,_,_,_,ys,rfl,sH2.trans s3,s3 _ _ hl2,?_⟩
        rw [et,List.filterMap_append,List.filterMap_append]
        have e2:([p].filterMap (eR t)).filterMap (gC (bf ps)) = []:=by
          cases h1:eR t p with
          | none=>simp [h1]
          | some w =>
            rw [h1] at e
            have e:gC (bf ps) w = none:=e
            simp [h1,e]
        rw [e2,List.append_nil]
        exact (s2.trans s3).dats dy
      cases hft:bY p.pt t with
      | none =>
        have eW:eR t p = none:=by unfold eR; rw [hft]; rfl
        exact ⟨_,rfl,lU (gm (same (Same.refl _) (by rw [eW]; rfl)))⟩
      | some fd =>
        have eW:eR t p = some ⟨p.nm,p.cs,fd.1⟩:=by unfold eR; rw [hft]; rfl
        have F3:=full fd hft
        have tail:=lO okp.nh hft
        have few:fd.1.length ≤ 8:=by
          have hw:=sP (ps:=ps) (List.mem_of_getElem? hp) c hft
          exact (pG okS.ok hw).1
        refine ⟨_,rfl,qx ?_⟩
        refine fg (K:=K) (gL (cs:=fd.1.map toD) (rb (k:=6) (v:=0) F3.hf F3.h0 aj rfl) (by rw [List.length_map]; omega) (fd.1.map fun x=>opD (lnO (bf ps x))) (by rw [List.length_map,List.length_map]) rfl (fun G3 j x v d s3 hc hd hv=>?_)) fun lh zs G3 hlh s3 hzs dzs=>?_
        · rw [List.getElem?_map] at hc hd
          cases hx:fd.1[j]? with
          | none=>rw [hx] at hc; cases hc
          | some y =>
            rw [hx] at hc hd
            cases hc
            cases hd
            have hy:=tail y (List.mem_of_getElem? hx)
            have dy:=(fc hy).2
            exact bP (R:=fN n) (cR (aa (k:=0) hv) (dB (aT (k:=1) ((sH2.trans s3).ld ⟨a,vs,rfl,ha,hda⟩)) bK)) ⟨ps,y,rfl,okS,ff t y okt (kA hy),by omega,by omega,rfl⟩
        have eM:(fd.1.map fun x=>opD (lnO (bf ps x))) = ((fd.1.map (bf ps)).map lnO).map opD:=by rw [List.map_map,List.map_map]; rfl
        have hL3:LD K G3 (((fd.1.map (bf ps)).map lnO).map opD) (.ref lh):=by rw [← eM]; exact LD.of hzs dzs
        refine eU (b:=!(dD (fd.1.map (bf ps))).isNone) (RT.as (ay (vn (K:=K) (aT (k:=7) hL3))) (by rw [nZ])) (fun cS G4 s4=>?_) (fun cN G4 s4=>gm ?_)
        · cases ea:dD (fd.1.map (bf ps)) with
          | none=>rw [ea] at cS; cases cS
          | some bs =>
            rw [jW ea] at hL3
            have hx4:=(s3.trans s4).dat (s2.dat hx)
            have hx4:Dat K G4 (.tup [.str p.nm,toP p.pt,.tup p.cs]) vx:=hx4
            have hl4:=(s3.trans s4) _ _ hl2
            refine h8 (K:=K) (d:=.int ((p.cs.length:Int) + (bs.map (·.1)).sum)) (eH (cq (aN (k:=2) (aa (k:=5) hx4) aj rfl)) (t7 (aT (k:=7) (s4.ld hL3)))) hl4 (by omega) fun y G5 b5 hl5 q5=>?_
            have g5:dv K G4 G5:=b5.grow hl4 hl5
            refine ⟨_,_,_,_,_,ys ++ [y],rfl,fun x o hx=>b5 x o (av hx hln) ((s3.trans s4) _ _ (sH2 _ _ hx)),hl5,?_⟩
            have e2:([p].filterMap (eR t)).filterMap (gC (bf ps)) = [(p.cs.length:Int) + (bs.map (·.1)).sum]:=by
              have e3:gC (bf ps) ⟨p.nm,p.cs,fd.1⟩ = some ((p.cs.length:Int) + (bs.map (·.1)).sum):=uJ (w:=⟨p.nm,p.cs,fd.1⟩) ea okp.nm
              simp [eW,e3]
            rw [et,List.filterMap_append,List.filterMap_append,e2,List.map_append]
            exact Dats.append (Dats.mono g5 _ ((s2.trans (s3.trans s4)).dats dy)) (Dats.cons q5 Dats.nil)
        · refine same (s3.trans s4) ?_
          rw [eW]
          cases ea:dD (fd.1.map (bf ps)) with
          | none=>exact uI (w:=⟨p.nm,p.cs,fd.1⟩) ea
          | some bs=>rw [ea] at cN; cases cN
  · rintro σ G ⟨z2,z3,z5,z6,z7,ys,rfl,sG,hlG,dy⟩
    rw [← la,List.take_length] at dy
    have hL:LD K G (((ps.filterMap (eR t)).filterMap (gC (bf ps))).map D.int) (.ref ll):=LD.of hlG dy
    dsimp only
    generalize (ps.filterMap (eR t)).filterMap (gC (bf ps)) = ns at lm dy hL
    refine aZ (K:=K) (mz (b:=!ns.isEmpty) (RT.as (ay (xV (k:=4) hlG dy (ki ns) (Nat.le_trans (nr ns) (by decide)))) (by rw [lI])) (fun cT=>?_) (fun cF=>?_)) fun v G2 s2 q2=>post v G2 (sG.trans s2) q2
    · cases eb:bf ps t with
      | none =>
        rw [eb] at lm
        have lm:ns = []:=lm
        subst lm
        cases cT
      | some b =>
        rw [eb] at lm
        exact zG (aT (k:=4) hL) lm.1 lm.2
    · cases eb:bf ps t with
      | none=>exact xW
      | some b =>
        rw [eb] at lm
        cases ns with
        | nil=>exact absurd lm.1 (by simp)
        | cons x y=>cases cF
end
end My
end
section
namespace My
open PySem L2 PyProof.Rows
section
variable {P:Program} {w:World} {K:PySem.W.Frag} {mg:Str→Option Value} {base:Heap} {k:Nat}
def mm (f:Tr→D→Bool) (ts:List Tr) (cs:List D):List Bool:=(ts.zip cs).map fun p=>f p.1 p.2
def kN (f:Tr→D→Bool) (ts:List Tr) (cs:List D):Bool:=decide (ts.length = cs.length) && (mm f ts cs).all id
def rN:D→Option (Str × List D)
  | .tup [.str nm,.tup cs]=>some (nm,cs)
  | _=>none
def iD (ps:List Pc):Nat→Tr→D→Bool
  | 0,_,_=>false
  | n + 1,t,c=>match rN c with
    | none=>false
    | some x=>match (dJ ps t).find? fun w=>decide (w.nm = x.1) with
      | none=>false
      | some w=>kN (iD ps n) w.ts x.2
def vQ (n:Nat) (as:List Ar) (d:D):Prop:=∃ (ps:List Pc) (ts:List Tr) (cs:List D),as = [.d (.tup (ts.map toD)),.l (ps.map pcD),.d (.tup cs)]∧iw ps∧(∀ t ∈ ts,okT t∧aR t ≤ n)∧n ≤ 8∧ts.length ≤ 8∧d = .bl (kN (iD ps n) ts cs)
def pH (n:Nat) (as:List Ar) (d:D):Prop:=∃ (ps:List Pc) (t:Tr) (c:D),as = [.d (toD t),.l (ps.map pcD),.d c]∧iw ps∧okT t∧aR t ≤ n∧n ≤ 8∧d = .bl (iD ps n t c)
theorem y0 (as:List Ar) (d:D):¬ pH 0 as d:=fun ⟨ps,t,c,_,_,_,h,_⟩=>by
  have:1 ≤ aR t:=by cases t <;> simp [aR]
  omega
theorem zW {ts:List Tr} {cs:List D} {j:Nat} {t:Tr} {c:D} (h1:ts[j]? = some t) (h2:cs[j]? = some c):(ts.zip cs)[j]? = some (t,c):=by
  rw [List.getElem?_zip_eq_some]
  exact ⟨h1,h2⟩
theorem jG (T:Txt P w K mg) {n:Nat} (FV:FnOk P w K mg base CX0 k T.Dp T.Dq ["tree","some","thing"] (spA K (pH n))):FnOk P w K mg base CX0 (k + 1) T.DT T.DW ["trees","some","things"] (spA K (vQ n)):=by
  refine T.EE.ok sc_are_covered_by (fun vs H Q E h=>?_) (fun cdv A outer s H vs Q E hr h=>?_)
  · obtain ⟨as,d,hd,⟨ps,ts,cs,rfl,_⟩,_⟩:=h; exact hd.length.symm
  have nd:=sc_are_covered_by.nd
  obtain ⟨as,d,hd,⟨ps,ts,cs,rfl,okS,okts,n8,l8,rfl⟩,post⟩:=h
  obtain ⟨v0,v1,v2,rfl,h0,h1,h2⟩:=oa hd
  have h0:Dat K H (.tup (ts.map toD)) v0:=h0
  have h1:LD K H (ps.map pcD) v1:=h1
  have h2:Dat K H (.tup cs) v2:=h2
  refine ⟨_,(ao (bj (aF gh (aA aH rfl T.De bI (ah (pv 0) af)) (aA aH rfl T.De bI (ah (pv 2) af)) (aL _)) (au (aD cG)) aK)
  (au (aD (aA (gF rfl) rfl T.Jj j0 (ah (dO (own:=["tree","thing"]) (fr:=[1]) (N':=["tree","thing","some"]) (xy rfl T.JX (ah (pv 0) (ah (pv 2) af))) rfl (by show cj ["trees","some","things"] (fun x=>(aw di).names.lookup x) _ _ _ _ = true; decide +kernel) rfl (fun _ _ _ _ _=>(o3 (K:=K) (n:=2) rfl rfl (bx (aV (i:=0) (by show List.Nodup [("tree":Str),("thing":Str),("some":Str)]; decide +kernel) rfl (Or.inl rfl)) (bx (aV (i:=1) (by show List.Nodup [("tree":Str),("thing":Str),("some":Str)]; decide +kernel) rfl (Or.inl rfl)) d8)))) (fun _ _ _ _ _=>bX) (fun _ _ _ _ _=>(az FV hr rfl T.FX T.Eg.kp (ir T) .nil aY (ah (pv 0) (ah (pv 2) (ah (pv 1) af)))))) af))))),?_⟩
  have el:decide (((ts.map toD).length:Int) = (cs.length:Int)) = decide (ts.length = cs.length):=by
    rw [List.length_map]
    by_cases z:ts.length = cs.length
    · rw [decide_eq_true z,decide_eq_true (by omega)]
    · rw [decide_eq_false z,decide_eq_false (by omega)]
  refine aO (K:=K) (b:=!decide (ts.length = cs.length)) (RT.as (ay (eO (cq (aa (k:=0) h0)) (cq (aa (k:=2) h2)))) (by rw [el])) (fun c H1 s1=>?_) (fun c H1 s1=>?_)
  · refine aZ (K:=K) (d:=.bl false) dj fun v H2 s2 q=>post v H2 (s1.trans s2) ?_
    have e:kN (iD ps n) ts cs = false:=by
      unfold kN
      have z:decide (ts.length = cs.length) = false:=by simpa using c
      rw [z]
      rfl
    rw [e]
    exact q
  · have z:decide (ts.length = cs.length) = true:=by simpa using c
    have el:=of_decide_eq_true z
    have e:kN (iD ps n) ts cs = (mm (iD ps n) ts cs).all id:=by
      unfold kN
      rw [z]
      rfl
    rw [e] at post
    refine aZ (K:=K) (d:=.bl ((mm (iD ps n) ts cs).all id)) (iT (bs:=mm (iD ps n) ts cs) (Bs (cs:=ts.map toD) (ds:=cs) (ae (aa (k:=0) (s1.dat h0)) (ae (aa (k:=2) (s1.dat h2)) ax)) (by rw [List.length_map]; exact el) (by rw [List.length_map]; omega) _ (by unfold mm; rw [List.length_map,List.length_map,List.length_map,List.length_zip]; omega) (by decide) rfl (fun G j c d e v w s2 hc hd he hv hw=>?_))) fun v H2 s2 q=>post v H2 (s1.trans s2) q
    rw [List.getElem?_map] at hc
    cases ht:ts[j]? with
    | none=>rw [ht] at hc; cases hc
    | some t =>
      rw [ht] at hc
      cases hc
      unfold mm at he
      rw [List.getElem?_map,List.getElem?_map,zW ht hd] at he
      cases he
      have ok:=okts t (List.mem_of_getElem? ht)
      exact bP (R:=pH n) (cR (aa (k:=0) hv) (dB (aT (k:=2) ((s1.trans s2).ld h1)) (cR (aa (k:=1) hw) bK))) ⟨ps,t,d,rfl,okS,ok.1,ok.2,n8,rfl⟩
theorem yL {α:Type} {p:α→Bool} {l:List α} {i:Nat} {x:α} (h:l[i]? = some x) (hx:p x = true) (hn:∀ y ∈ l.take i,p y = false):l.find? p = some x:=by
  rw [List.find?_eq_some_iff_getElem]
  have hi:i < l.length:=(List.getElem?_eq_some_iff.mp h).1
  refine ⟨hx,i,hi,(List.getElem?_eq_some_iff.mp h).2,fun j hj=>?_⟩
  have hm:l[j] ∈ l.take i:=List.mem_take_iff_getElem.mpr ⟨j,by omega,rfl⟩
  rw [hn _ hm]
  rfl
theorem yM {α:Type} {p:α→Bool} {l:List α} (hn:∀ y ∈ l,p y = false):l.find? p = none:=by
  rw [List.find?_eq_none]
  intro y hy
  rw [hn y hy]
  exact Bool.false_ne_true
theorem uz {ps:List Pc} {n:Nat} {t:Tr} {c:D} (h:rN c = none):iD ps (n + 1) t c = false:=by
  show (match rN c with | none=>false | some x=>_) = false
  rw [h]
def ow (c:D):Bool:=!cC c || (match c with | .tup ds=>!decide ((ds.length:Int) = 2) || !ke (ds.getD 1 .non) "tuple" | _=>true)
theorem lK (c:D):ow c = (rN c).isNone:=by
  unfold ow
  match c with
  | .tup [.str nm,.tup cs]=>rfl
  | .tup []=>rfl
  | .tup [.str nm]=>rfl
  | .tup (.str nm :: x :: y :: r) =>
    have e:(rN (.tup (.str nm :: x :: y :: r))).isNone = true:=by cases x <;> rfl
    rw [e]
    show (false || (!decide ((((D.str nm) :: x :: y :: r).length:Int) = 2) || _)) = true
    have z:decide ((((D.str nm) :: x :: y :: r).length:Int) = 2) = false:=decide_eq_false (by simp only [List.length_cons]; omega)
    rw [z]
    rfl
  | .tup [.str nm,.non]=>rfl
  | .tup [.str nm,.bl _]=>rfl
  | .tup [.str nm,.int _]=>rfl
  | .tup [.str nm,.str _]=>rfl
  | .tup [.str nm,.lst]=>rfl
  | .tup (.non :: r)=>cases r <;> rfl
  | .tup (.bl _ :: r)=>cases r <;> rfl
  | .tup (.int _ :: r)=>cases r <;> rfl
  | .tup (.tup _ :: r)=>cases r <;> rfl
  | .tup (.lst :: r)=>cases r <;> rfl
  | .non=>rfl
  | .bl _=>rfl
  | .int _=>rfl
  | .str _=>rfl
  | .lst=>rfl
theorem kl (T:Txt P w K mg) {n:Nat} (Ej:FnOk P w K mg base CX0 k T.D1 T.D3 ["thing"] (spD K gS)) (IA:FnOk P w K mg base CX0 k T.F5 T.F9 ["tree","some"] (mG K pI)) (Iw:FnOk P w K mg base CX0 k T.DT T.DW ["trees","some","things"] (spA K (vQ n))):FnOk P w K mg base CX0 (k + 1) T.Dp T.Dq ["tree","some","thing"] (spA K (pH (n + 1))):=by
  refine T.Eg.ok sc_is_covered_by (fun vs H Q E h=>?_) (fun cdv A outer s H vs Q E hr h=>?_)
  · obtain ⟨as,d,hd,⟨ps,t,c,rfl,_⟩,_⟩:=h; exact hd.length.symm
  have nd:=sc_is_covered_by.nd
  obtain ⟨as,d,hd,⟨ps,t,c,rfl,okS,okt,dpt,n8,rfl⟩,post⟩:=h
  obtain ⟨v0,v1,v2,rfl,h0,h1,h2⟩:=oa hd
  have h0:Dat K H (toD t) v0:=h0
  have h1:LD K H (ps.map pcD) v1:=h1
  have h2:Dat K H c v2:=h2
  refine ⟨_,(ao (bj (PW.pt (cQ (bR (bq (az Ej hr rfl T.FQ T.Ez.kp (fY T) .nil aY (ah (pv 2) af)) (fun _=>rfl))) (cQ (aF gh (aA aH rfl T.De bI (ah (pv 2) af)) ag (aL _)) (de (bR (bq (aA (dA fP) rfl T.C1 aQ (aS (aE aI (pv 2) ag (fun _ _=>rfl)) (aS (dM (v:=.ty "tuple") rfl T.Ei cV rfl) af))) (fun _=>rfl))))))) (au (aD cG)) aK)
  (ao (hV PassesOwn.never rfl (dq (az IA hr rfl T.IG T.GX.kp (m8 T) .nil aY (ah (pv 0) (ah (pv 1) af)))) (gD rfl (bx (aV (i:=3) nd rfl (Or.inl rfl)) (bx (aV (i:=4) nd rfl (Or.inl rfl)) (bx (aV (i:=5) nd rfl (Or.inl rfl)) d8)))) (au (bj (aF cg (pv 3) (aE aI (pv 2) ag (fun _ _=>rfl)) (aL _)) (au (aD (az Iw hr rfl T.Hd T.EE.kp (jX T) .nil aY (ah (pv 5) (ah (pv 1) (ah (aE aI (pv 2) ag (fun _ _=>rfl)) af)))))) aK)))
  (au (aD cG)))),?_⟩
  have tg:RE K (gQ (spD K gS) [] E0 (bB (eJ 2) cH)) (dW ["tree","some","thing","name","cells","trees"] [v0,v1,v2]) H (.bl (cC c)):=bh (R:=gS) (ae (aa (k:=2) h2) ax) ⟨c,rfl,rfl⟩
  refine aO (K:=K) (b:=ow c) ?_ (fun cn H1 s1=>?_) (fun cs H1 s1=>?_)
  · by_cases ht:cC c = true
    · obtain ⟨nm,r,rfl⟩:∃ nm r,c = .tup (.str nm :: r):=by
        match c,ht with
        | .tup (.str nm :: r),_=>exact ⟨nm,r,rfl⟩
      by_cases hl:((D.str nm :: r).length:Int) = 2
      · obtain ⟨x,rfl⟩:∃ x,r = [x]:=by
          match r,hl with
          | [x],_=>exact ⟨x,rfl⟩
          | [],hl=>simp at hl
          | x :: y :: r,hl=>simp only [List.length_cons] at hl; omega
        exact RT.as (bT (bu (aW tg)) fun _=>bT (ay (eO (cq (aa (k:=2) h2)) aj)) fun _=>bu (aW (bM (aN (k:=1) (aa (k:=2) h2) aj rfl)))) rfl
      · refine RT.as (bT (bu (aW tg)) fun _=>bT (c:=true) (ay (eO (cq (aa (k:=2) h2)) aj)) fun z=>?_) ?_
        · rw [decide_eq_false hl] at z; cases z
        · show (false || (!decide (((D.str nm :: r).length:Int) = 2) || true)) = (false || (!decide (((D.str nm :: r).length:Int) = 2) || _))
          rw [decide_eq_false hl]
          rfl
    · have ht:cC c = false:=by simpa using ht
      refine RT.as (bT (c:=true) (bu (aW tg)) fun z=>?_) ?_
      · rw [ht] at z; cases z
      · unfold ow; rw [ht]; rfl
  · rw [lK] at cn
    refine aZ (K:=K) (d:=.bl false) dj fun v H2 s2 q=>post v H2 (s1.trans s2) ?_
    rw [uz (by cases e:rN c with | none=>rfl | some _=>rw [e] at cn; cases cn)]
    exact q
  rw [lK] at cs
  obtain ⟨nm,cv,rfl⟩:∃ nm cv,c = .tup [.str nm,.tup cv]:=by
    unfold rN at cs
    split at cs
    · exact ⟨_,_,rfl⟩
    · cases cs
  have ec:iD ps (n + 1) t (.tup [.str nm,.tup cv]) = (match (dJ ps t).find? fun w=>decide (w.nm = nm) with | none=>false | some w=>kN (iD ps n) w.ts cv):=rfl
  rw [ec] at post
  refine cO (RC.use (K:=K) (fq (R:=pI) (cR (aa (k:=0) (s1.dat h0)) (dB (aT (k:=1) (s1.ld h1)) bK)) ⟨ps,t,rfl,okS,okt,by omega,rfl⟩) fun l ys H2 hl s2 hy hdy=>?_)
  have s12:=s1.trans s2
  have ly:=hdy.length
  rw [List.length_map] at ly
  refine ⟨l,rfl,⟨ys,SqL.of hy⟩,iF (xs:=ys) (fun i σ G=>∃ (z3 z4 z5:Option V),σ = [some v0,some v1,some v2,z3,z4,z5]∧Same H2 G∧∀ w ∈ (dJ ps t).take i,decide (w.nm = nm) = false) ?_ (fun i σ G _ ⟨_,_,_,_,p,_⟩=>SqL.of (p _ _ hy)) ?_ ?_⟩
  · exact ⟨none,none,none,rfl,Same.refl _,fun w hw=>by simp at hw⟩
  · rintro i vx σ G hi ⟨z3,z4,z5,rfl,sG,hno⟩
    have sHG:=s12.trans sG
    obtain ⟨dx,ex,hx⟩:=(sG.dats hdy).getV hi
    rw [List.getElem?_map] at ex
    cases hw:(dJ ps t)[i]? with
    | none=>rw [hw] at ex; cases ex
    | some w =>
      rw [hw] at ex
      cases ex
      have hwm:=List.mem_of_getElem? hw
      have et:(dJ ps t).take (i + 1) = (dJ ps t).take i ++ [w]:=by rw [List.take_add_one,hw]; rfl
      obtain ⟨pa,us,rfl,hpa,hus⟩:=(show Dat K G (.tup [.str w.nm,.tup w.cs,.tup (w.ts.map toD)]) vx from hx).tupE
      obtain ⟨x3,x4,x5,rfl,k3,k4,k5⟩:=p6 hus
      refine ⟨pa,_,rfl,hpa,rfl,_,_,rfl,_,_,rfl,_,_,rfl,rfl,?_⟩
      dsimp only
      have h2G:Dat K G (.tup [.str nm,.tup cv]) v2:=sHG.dat h2
      refine eU (b:=decide (w.nm = nm)) (ay (br (K:=K) (aa (k:=3) k3) (aN (k:=0) (aa (k:=2) h2G) aj rfl))) (fun cY G1 t1=>?_) (fun cN G1 t1=>gm ?_)
      · rw [yL hw cY hno] at post
        have tail:=fun x hx=>jU (tO okS) hwm x hx
        refine aZ (K:=K) (d:=.bl (kN (iD ps n) w.ts cv)) (bP (R:=vQ n) (cR (aa (k:=5) (t1.dat k5)) (dB (aT (k:=1) ((sHG.trans t1).ld h1)) (cR (aN (k:=1) (aa (k:=2) (t1.dat h2G)) aj rfl) bK))) ⟨ps,w.ts,cv,rfl,okS,fun x hx=>⟨ff t x okt (kA (tail x hx)),?_⟩,by omega,(pG okS.ok hwm).1,rfl⟩) fun v G2 t2 q=>post v G2 (sHG.trans (t1.trans t2)) q
        have:=(fc (tail x hx)).2
        omega
      · refine ⟨_,_,_,rfl,sG.trans t1,fun y hy=>?_⟩
        rw [et] at hy
        rcases List.mem_append.mp hy with hy | hy
        · exact hno y hy
        · rw [List.mem_singleton.mp hy]; exact cN
  · rintro σ G ⟨z3,z4,z5,rfl,sG,hno⟩
    rw [← ly,List.take_length] at hno
    rw [yM hno] at post
    dsimp only
    exact aZ (K:=K) (d:=.bl false) dj fun v G2 t2 q=>post v G2 (s12.trans (sG.trans t2)) q
def Ay (as:List Ar) (d:D):Prop:=∃ (ps:List Pc) (t:Tr) (c:D),as = [.d (toD t),.l (ps.map pcD),.d c]∧i9 ps t∧d = .bl (iD ps 8 t c)
theorem mi (T:Txt P w K mg) (Fx:FnOk P w K mg base CX0 k T.Es T.Ey ["tree"] (spD K kB)) (Gg:FnOk P w K mg base CX0 k T.EW T.EY ["some"] (spA K gR)) (FV:FnOk P w K mg base CX0 k T.Dp T.Dq ["tree","some","thing"] (spA K (pH 8))):FnOk P w K mg base CX0 (k + 1) T.EL T.EO ["tree","some","thing"] (spA K Ay):=by
  refine T.Fv.ok sc_is_covering (fun vs H Q E h=>?_) (fun cdv A outer s H vs Q E hr h=>?_)
  · obtain ⟨as,d,hd,⟨ps,t,c,rfl,_⟩,_⟩:=h; exact hd.length.symm
  have nd:=sc_is_covering.nd
  obtain ⟨as,d,hd,⟨ps,t,c,rfl,gi,rfl⟩,post⟩:=h
  obtain ⟨v0,v1,v2,rfl,h0,h1,h2⟩:=oa hd
  have h0:Dat K H (toD t) v0:=h0
  have h1:LD K H (ps.map pcD) v1:=h1
  have h2:Dat K H c v2:=h2
  refine ⟨_,(ao (bF (az Fx hr rfl T.GJ T.E3.kp (iB T) .nil aY (ah (pv 0) af)))
  (ao (bF (az Gg hr rfl T.Hs T.Fp.kp (je T) .nil aY (ah (pv 1) af)))
  (au (aD (az FV hr rfl T.FX T.Eg.kp (ir T) .nil aY (ah (pv 0) (ah (pv 1) (ah (pv 2) af)))))))),?_⟩
  refine gE (RE.use (bh (R:=kB) (d:=.non) (ae (aa (K:=K) (k:=0) h0) ax) ⟨toD t,rfl,jT gi.ot gi.dp gi.sz,rfl⟩) fun v4 H1 s1 _=>?_)
  refine gE (RE.use (bP (R:=gR) (d:=.non) (dB (aT (K:=K) (k:=1) (s1.ld h1)) bK) ⟨ps,rfl,gi.gs,rfl⟩) fun v5 H2 s2 _=>?_)
  have s12:=s1.trans s2
  exact aZ (K:=K) (d:=.bl (iD ps 8 t c)) (bP (R:=pH 8) (cR (aa (k:=0) (s12.dat h0)) (dB (aT (k:=1) (s12.ld h1)) (cR (aa (k:=2) (s12.dat h2)) bK))) ⟨ps,t,c,rfl,gi.os,gi.ot,gi.dp,by decide,rfl⟩) fun v H' s q=>post v H' (s12.trans s) q
end
end My
end
section
namespace My
open PySem L2 PyProof.Rows
section
variable {P:Program} {w:World} {K:PySem.W.Frag} {mg:Str→Option Value} {base:Heap} {k:Nat}
structure wV (ps:List Pc):Prop where
  nd:(ps.map (·.nm)).Nodup
  nl:∀ p ∈ ps,noL (pcD p) = true∧dS (pcD p) ≤ 19
def yZ (nm:Str):D→Bool
  | .tup (.str x :: _)=>decide (x = nm)
  | _=>false
theorem ny {nm:Str}:∀ {ps:List Pc},(∀ p ∈ ps,p.nm ≠ nm)→(ps.map pcD).filter (yZ nm) = []
  | [],_=>rfl
  | p :: ps,h=>by
    rw [List.map_cons,List.filter_cons,if_neg]
    · exact ny fun q hq=>h q (List.mem_cons_of_mem _ hq)
    · show ¬ decide (p.nm = nm) = true
      rw [decide_eq_false (h p List.mem_cons_self)]
      exact Bool.false_ne_true
theorem qi {p:Pc}:∀ {ps:List Pc},(ps.map (·.nm)).Nodup→p ∈ ps→(ps.map pcD).filter (yZ p.nm) = [pcD p]
  | [],_,h=>by cases h
  | q :: ps,nd,h=>by
    rw [List.map_cons,List.nodup_cons] at nd
    rcases List.mem_cons.mp h with rfl | h
    · rw [List.map_cons,List.filter_cons,if_pos (show yZ p.nm (pcD p) = true from decide_eq_true rfl),ny fun x hx z=>nd.1 (List.mem_map.mpr ⟨x,hx,z⟩)]
    · rw [List.map_cons,List.filter_cons,if_neg]
      · exact qi nd.2 h
      · show ¬ decide (q.nm = p.nm) = true
        rw [decide_eq_false fun z=>nd.1 (List.mem_map.mpr ⟨p,h,z.symm⟩)]
        exact Bool.false_ne_true
def mQ (n:Nat) (as:List Ar) (es:List D):Prop:=∃ (ps:List Pc) (t:Tr) (c:D),as = [.d (toD t),.l (ps.map pcD),.d c]∧iw ps∧wV ps∧okT t∧aR t ≤ 8∧mP ps n t c es∧es.length ≤ 900
theorem xT {k:Nat} {σ:L2.St} {H:Hp} {l:Addr} {ys:List V} {ds:List D} (hl:H l = some (.lst ys)) (hd:Dats K H ds ys) (n1:cM ds = true) (dp:bJ ds ≤ 20) (hv:σ[k]? = some (some (.ref l)):=by rfl):RE K (tOp (xI K false) (eJ k) (kU cH)) σ H (.bl (cW ds [])):=fun H1 s Q q =>
  ⟨_,hv,bU (by decide),fun p hp=>by
    have sp:=aC hp (.lst [])
    exact ⟨l,p,ys,[],ds,[],rfl,rfl,SqL.of (sp _ _ (s _ _ hl)),SqL.of aq,sp.dats (s.dats hd),Dats.nil,n1,rfl,dp,q _ _ sp (Dat.blI _)⟩⟩
theorem qz {α:Type} {xss:List (List α)} {n:Nat} (h:xss.flatten.length ≤ n):∀ {i:Nat} {x:List α},xss[i]? = some x→(xss.take i).flatten.length + x.length ≤ n:=by
  intro i x hx
  have e:xss.take (i + 1) = xss.take i ++ [x]:=by rw [List.take_add_one,hx]; rfl
  have l:(xss.take (i + 1)).flatten.length ≤ xss.flatten.length:=by
    have z:xss = xss.take (i + 1) ++ xss.drop (i + 1):=(List.take_append_drop _ _).symm
    rw [congrArg List.flatten z,List.flatten_append,List.length_append]
    omega
  rw [e,List.flatten_append,List.length_append] at l
  simp only [List.flatten_cons,List.flatten_nil,List.append_nil] at l
  omega
theorem qI (T:Txt P w K mg) {n:Nat} (Hg:FnOk P w K mg base CX0 k T.EV T.EX ["_law_tree_here","_law_some","_law_cover"] (mG K (mQ n))) (IH:FnOk P w K mg base CX0 k T.Fz T.FF ["_law_near","_law_far","_law_cells"] (iz K nY)) (Fj:FnOk P w K mg base CX0 k T.Em T.Et ["_law_pattern","_law_tree_here","_law_found"] (iP K oL 3)) (JH:FnOk P w K mg base CX0 k T.Fy T.FE ["_law_cells","_law_nums","_law_ks"] (mG K rC)):FnOk P w K mg base CX0 (k + 1) T.EV T.EX ["_law_tree_here","_law_some","_law_cover"] (mG K (mQ (n + 1))):=by
  refine T.Fm.ok sc__law_lay (fun vs H Q E h=>?_) (fun cdv A outer s H vs Q E hr h=>?_)
  · obtain ⟨as,es,hd,⟨ps,t,c,rfl,_⟩,_⟩:=h; exact hd.length.symm
  have nd:=sc__law_lay.nd
  obtain ⟨as,es,hd,⟨ps,t,c,rfl,okS,laS,okt,dpt,hlay,l900⟩,post⟩:=h
  obtain ⟨v0,v1,v2,rfl,h0,h1,h2⟩:=oa hd
  have h0:Dat K H (toD t) v0:=h0
  have h1:LD K H (ps.map pcD) v1:=h1
  have h2:Dat K H c v2:=h2
  refine ⟨_,(ao (bj (PW.pt (cQ (bR (bq (aA (dA fP) rfl T.C1 aQ (aS (pv 2) (aS (dM (v:=.ty "tuple") rfl T.Ei cV rfl) af))) (fun _=>rfl))) (cQ (aF gh (aA aH rfl T.De bI (ah (pv 2) af)) ag (aL _)) (de (bR (bq (aA (dA fP) rfl T.C1 aQ (aS (aE aI (pv 2) ag (fun _ _=>rfl)) (aS (dM (v:=.ty "tuple") rfl T.Ei cV rfl) af))) (fun _=>rfl))))))) (au (aD dn)) aK)
  (ao (bj (aF cg (aE aI (pv 2) ag (fun _ _=>rfl)) aJ (aL _)) (ao (bj (PW.pt (cQ (aF gh (aE aI (pv 0) ag (fun _ _=>rfl)) aJ (aL _)) (de (aF gh (aA aH rfl T.De bI (ah (aE aI (pv 2) ag (fun _ _=>rfl)) af)) ag (aL _))))) (au (aD dn)) aK)
  (ao (dI (i:=3) (own:=["_law_one","_law_inner"]) (fr:=[1]) (N':=["_law_one","_law_inner","_law_some"]) (xy rfl T.JX (ah (iM mD (pv 0) (iS ag) kY) (ah (aE aI (pv 2) ag (fun _ _=>rfl)) af))) rfl (by show cj ["_law_tree_here","_law_some","_law_cover","_law_three","_law_last","_law_named","_law_found","_law_holes","_law_made","_law_cells"] (fun x=>(aw eI).names.lookup x) _ _ _ _ = true; decide +kernel) rfl (fun _ _ _ _ _=>(o3 (K:=K) (n:=2) rfl rfl (bx (aV (i:=0) (by show List.Nodup [("_law_one":Str),("_law_inner":Str),("_law_some":Str)]; decide +kernel) rfl (Or.inl rfl)) (bx (aV (i:=1) (by show List.Nodup [("_law_one":Str),("_law_inner":Str),("_law_some":Str)]; decide +kernel) rfl (Or.inl rfl)) d8)))) (fun _ _ _ _ _=>bX) (fun _ _ _ _ _=>(az Hg hr rfl T.Hq T.Fm.kp (jb T) .nil aY (ah (pv 0) (ah (pv 2) (ah (pv 1) af))))) nd rfl rfl rfl)
  (ao (bj (aF (tS hr) dn (pv 3) (by with_unfolding_all rfl)) (au (aD dn)) aK)
  (ao (bz (i:=4) nd rfl (Or.inl rfl) (bE hE (aE bp (pv 3) ag (fun _ _=>rfl)) (az IH hr rfl T.HI T.FL.kp (kC T) .nil aY (ah ag (ah ag (ah (aA aH rfl T.De bI (ah (aE bp (pv 3) ag (fun _ _=>rfl)) af)) af))))))
  (au (aD (bE hE (bE hE (bE hE (aE bp (pv 3) ag (fun _ _=>rfl)) (az IH hr rfl T.HI T.FL.kp (kC T) .nil aY (ah ag (ah ag (ah (aA aH rfl T.De bI (ah (pv 4) af)) af))))) (pv 4)) (aE bp (pv 3) ag (fun _ _=>rfl))))))))) aK)
  (ao (xE (i:=5) (j:=6) rfl nd rfl rfl (by decide) rfl rfl (ah (dO (own:=["_law_piece"]) (fr:=[2]) (N':=["_law_piece","_law_cover"]) (dq (pv 1)) rfl (by show cj ["_law_tree_here","_law_some","_law_cover","_law_three","_law_last","_law_named","_law_found","_law_holes","_law_made","_law_cells"] (fun x=>(aw eI).names.lookup x) _ _ _ _ = true; decide +kernel) rfl (fun _ _ _ _ _=>(aV (i:=0) (by show List.Nodup [("_law_piece":Str),("_law_cover":Str)]; decide +kernel) rfl (Or.inl rfl))) (fun _ _ _ _ _=>(mq (aF cg (aE (r:=o6 K) aI (pv 0) ag (fun _ _=>rfl)) (aE (r:=o6 K) aI (pv 1) ag (fun _ _=>rfl)) (aL _)))) (fun _ _ _ _ _=>(pv 0))) (ah (bC (ah (bC af) (ah (bC af) (ah (bC af) af)))) af)) (by kernel_rfl))
  (ao (bj (PW.pt (cQ (aF (oY hr) (pv 5) (bC af) (aL _)) (cQ (bR (bq (az Fj hr rfl T.GA T.E1.kp (gU T) .nil aY (ah (aE aI (aE bp (pv 5) ag (fun _ _=>rfl)) ag (fun _ _=>rfl)) (ah (pv 0) (ah (pv 6) af)))) (fun _=>rfl))) (de (aF gh (aA aH rfl T.De bI (ah (aE bp (pv 6) ag (fun _ _=>rfl)) af)) (aA aH rfl T.De bI (ah (aE aI (pv 2) ag (fun _ _=>rfl)) af)) (aL _)))))) (au (aD dn)) aK)
  (ao (dI (i:=7) (own:=["_law_one","_law_inner"]) (fr:=[1]) (N':=["_law_one","_law_inner","_law_some"]) (zt rfl T.JX (ah (aE bp (pv 6) ag (fun _ _=>rfl)) (ah (aE aI (pv 2) ag (fun _ _=>rfl)) af))) rfl (by show cj ["_law_tree_here","_law_some","_law_cover","_law_three","_law_last","_law_named","_law_found","_law_holes","_law_made","_law_cells"] (fun x=>(aw eI).names.lookup x) _ _ _ _ = true; decide +kernel) rfl (fun _ _ _ _ _=>(o3 (K:=K) (n:=2) rfl rfl (bx (aV (i:=0) (by show List.Nodup [("_law_one":Str),("_law_inner":Str),("_law_some":Str)]; decide +kernel) rfl (Or.inl rfl)) (bx (aV (i:=1) (by show List.Nodup [("_law_one":Str),("_law_inner":Str),("_law_some":Str)]; decide +kernel) rfl (Or.inl rfl)) d8)))) (fun _ _ _ _ _=>bX) (fun _ _ _ _ _=>(az Hg hr rfl T.Hq T.Fm.kp (jb T) .nil aY (ah (pv 0) (ah (pv 2) (ah (pv 1) af))))) nd rfl rfl rfl)
  (ao (bj (aF (tS hr) dn (pv 7) (by with_unfolding_all rfl)) (au (aD dn)) aK)
  (ao (bz (i:=8) nd rfl (Or.inl rfl) (bC af))
  (ao (hV PassesOwn.never rfl (dq (pv 7)) (aV (i:=9) nd rfl (Or.inl rfl)) (au (bz (i:=8) nd rfl (Or.inl rfl) (bE hE (pv 8) (pv 9)))))
  (au (aD (bE hE (pv 8) (az JH hr rfl T.IL T.GG.kp (pM T) .nil aY (ah (aE aI (aE bp (pv 5) ag (fun _ _=>rfl)) ag (fun _ _=>rfl)) (ah (aE bp (pv 6) ag (fun _ _=>rfl)) (ah (aE bp (pv 6) ag (fun _ _=>rfl)) af))))))))))))))),?_⟩
  rcases hlay with ⟨a,b,d,ca,cb,cd,xa,xb,xd,rfl,rfl,la,lb,ld,rfl⟩ | ⟨p,f,cl,cs,xss,hpk,hp,hft,hcl,rfl,hall,rfl⟩
  · have h0:Dat K H (.tup [.str "pick",toD a,toD b,toD d]) v0:=h0
    refine aO (K:=K) (b:=false) (RT.as (bT (bu (aW (bM (aa (k:=2) h2)))) fun _=>bT (ay (eO (cq (aa (k:=2) h2)) aj)) fun _=>bu (aW (bM (aN (k:=1) (aa (k:=2) h2) aj rfl)))) rfl) (fun c=>nomatch c) (fun _ H1 s1=>?_)
    refine aO (K:=K) (b:=true) (RT.as (ay (br (aN (k:=0) (aa (k:=2) (s1.dat h2)) aj rfl) aG)) (decide_eq_true rfl)) (fun _ H2 s2=>?_) (fun c=>nomatch c)
    have s12:=s1.trans s2
    refine aO (K:=K) (b:=false) (RT.as (bT (b:=false) (RT.as (ay (pe (aN (k:=0) (aa (k:=0) (s12.dat h0)) aj rfl) aG)) (by rw [decide_eq_true rfl]; rfl)) fun _=>ay (eO (cq (aN (k:=1) (aa (k:=2) (s12.dat h2)) aj rfl)) aj)) rfl) (fun c=>nomatch c) (fun _ H3 s3=>?_)
    have s13:=s12.trans s3
    have da:aR a ≤ 8:=by simp only [aR] at dpt; omega
    have db:aR b ≤ 8:=by simp only [aR] at dpt; omega
    have dd:aR d ≤ 8:=by simp only [aR] at dpt; omega
    have ll:(gg xa xb xd).length = xa.length + (cX 10 11 (xb ++ cX 8 9 xd.length).length).length + (xb.length + (cX 8 9 xd.length).length) + xd.length:=by unfold gg; simp only [List.length_append]
    refine dt (RCL.use (K:=K) (zB (cs:=[toD a,toD b,toD d]) (ds:=[ca,cb,cd]) (ae (iV (aa (k:=0) (s13.dat h0))) (ae (aN (k:=1) (aa (k:=2) (s13.dat h2)) aj rfl) ax)) rfl (by simp) [xa,xb,xd] rfl (by decide) rfl (fun G j x y z v w sG hx hy hz hv hw=>?_)) fun l ys H4 hl s4 hy dy=>?_)
    · have hL:=(s13.trans sG).ld h1
      match j,hx,hy,hz with
      | 0,hx,hy,hz=>cases hx; cases hy; cases hz; exact fq (R:=mQ n) (cR (aa (k:=0) hv) (dB (aT (k:=2) hL) (cR (aa (k:=1) hw) bK))) ⟨ps,a,ca,rfl,okS,laS,okt.1,da,la,by omega⟩
      | 1,hx,hy,hz=>cases hx; cases hy; cases hz; exact fq (R:=mQ n) (cR (aa (k:=0) hv) (dB (aT (k:=2) hL) (cR (aa (k:=1) hw) bK))) ⟨ps,b,cb,rfl,okS,laS,okt.2.1,db,lb,by omega⟩
      | 2,hx,hy,hz=>cases hx; cases hy; cases hz; exact fq (R:=mQ n) (cR (aa (k:=0) hv) (dB (aT (k:=2) hL) (cR (aa (k:=1) hw) bK))) ⟨ps,d,cd,rfl,okS,laS,okt.2.2,dd,ld,by omega⟩
      | j + 3,hx,hy,hz=>cases hx
    have s14:=s13.trans s4
    refine aO (K:=K) (b:=false) (ay (tX (k:=3) hy dy)) (fun c=>nomatch c) (fun _ H5 s5=>?_)
    have hy5:=s5 _ _ hy
    have dy5:=s5.lds dy
    refine fg (K:=K) (es:=xb ++ cX 8 9 xd.length) (hX (lj (k:=3) (j:=1) hy5 dy5 aj rfl) (nM (hW (R:=nY) (ae aj (ae aj (ae (iU (lj (k:=3) (j:=2) (es:=xd) hy5 dy5 aj rfl)) ax))) ⟨8,9,_,rfl,rfl⟩)) (by show xb.length + (cX 8 9 xd.length).length ≤ 1000; omega)) fun l2 zs H6 hl2 s6 hz dz=>?_
    have hy6:=s6 _ _ hy5
    have dy6:=s6.lds dy5
    have hL6:LD K H6 (xb ++ cX 8 9 xd.length) (.ref l2):=LD.of hz dz
    have lx:(xb ++ cX 8 9 xd.length).length = xb.length + (cX 8 9 xd.length).length:=List.length_append
    refine ix (RC.use (K:=K) (es:=gg xa xb xd) (hX (nM (hX (nM (hX (lj (k:=3) (j:=0) hy6 dy6 aj rfl) (nM (hW (R:=nY) (ae aj (ae aj (ae (iU (aT (k:=4) hL6)) ax))) ⟨10,11,_,rfl,rfl⟩)) (by show xa.length + (cX 10 11 _).length ≤ 1000; omega))) (aT (k:=4) hL6) ?_)) (lj (k:=3) (j:=2) hy6 dy6 aj rfl) ?_) fun l3 us H7 hl3 s7 hu du=>post l3 us H7 (s14.trans (s5.trans (s6.trans s7))) hu ((s14.trans (s5.trans s6)).free hl3) du)
    · show (xa ++ cX 10 11 (xb ++ cX 8 9 xd.length).length).length + (xb ++ cX 8 9 xd.length).length ≤ 1000
      have e1:(xa ++ cX 10 11 (xb ++ cX 8 9 xd.length).length).length = xa.length + (cX 10 11 (xb ++ cX 8 9 xd.length).length).length:=List.length_append
      omega
    · show (xa ++ cX 10 11 (xb ++ cX 8 9 xd.length).length ++ (xb ++ cX 8 9 xd.length)).length + xd.length ≤ 1000
      have e1:(xa ++ cX 10 11 (xb ++ cX 8 9 xd.length).length).length = xa.length + (cX 10 11 (xb ++ cX 8 9 xd.length).length).length:=List.length_append
      have e2:(xa ++ cX 10 11 (xb ++ cX 8 9 xd.length).length ++ (xb ++ cX 8 9 xd.length)).length = (xa ++ cX 10 11 (xb ++ cX 8 9 xd.length).length).length + (xb ++ cX 8 9 xd.length).length:=List.length_append
      omega
  · have okp:=okS.ok p hp
    refine aO (K:=K) (b:=false) (RT.as (bT (bu (aW (bM (aa (k:=2) h2)))) fun _=>bT (ay (eO (cq (aa (k:=2) h2)) aj)) fun _=>bu (aW (bM (aN (k:=1) (aa (k:=2) h2) aj rfl)))) rfl) (fun c=>nomatch c) (fun _ H1 s1=>?_)
    refine aO (K:=K) (b:=false) (RT.as (ay (br (aN (k:=0) (aa (k:=2) (s1.dat h2)) aj rfl) aG)) (decide_eq_false okp.nm)) (fun c=>nomatch c) (fun _ H2 s2=>?_)
    have s12:=s1.trans s2
    have few:=okS.few
    refine cO (d4 (RC.use (K:=K) (zz (aT (k:=1) (s12.ld h1)) (by rw [List.length_map]; omega) (yZ p.nm) rfl (fun G j c v sG hc hv=>?_)) fun l ys H3 hl s3 hy dy=>d4 (xK fun fa l0 l1 l2 H4 N=>⟨_,_,rfl,?_⟩)))
    · rw [List.getElem?_map] at hc
      cases hq:ps[j]? with
      | none=>rw [hq] at hc; cases hc
      | some q =>
        rw [hq] at hc
        cases hc
        exact ⟨ay (br (aN (k:=0) (aa (k:=0) (show Dat K G (.tup [.str q.nm,toP q.pt,.tup q.cs]) v from hv)) aj rfl) (aN (k:=0) (aa (k:=1) ((s12.trans sG).dat h2)) aj rfl)),aa (k:=0) hv⟩
    rw [qi laS.nd hp] at dy
    have s14:=(s12.trans s3).trans N.s
    have hy4:=N.s _ _ hy
    have dy4:=N.s.dats dy
    have hn4:LD K H4 [pcD p] (.ref l):=LD.of hy4 dy4
    have pl:=laS.nl p hp
    refine cO (RT.use (b:=false) (RT.as (ay (xT (K:=K) (k:=5) hy4 dy4 (by simp [cM,pl.1]) (by simp only [bJ]; omega))) (ck _ _)) fun H5 s5=>lU ?_)
    have N5:=N.mono s5
    have s15:=s14.trans s5
    refine Al (K:=K) (j:=6) N5 okp.ok okt dpt okp.dp (aN (ds:=[.str p.nm,toP p.pt,.tup p.cs]) (k:=1) (e9 (k:=0) (aT (k:=5) (s5.ld hn4)) aj rfl) aj rfl) (aa (k:=0) (s15.dat h0)) fun H6 s6 full=>?_
    have eS:(bY p.pt t).isSome = true:=by rw [hft]; rfl
    refine ⟨_,rfl,?_⟩
    rw [eS]
    refine lU ?_
    have F6:=full f hft
    have hz6:Same H H6:=(s12.trans s3).trans s6
    have hn6:LD K H6 [pcD p] (.ref l):=s6.ld (LD.of hy dy)
    obtain ⟨lt,lxs⟩:=hall.len
    have few8:f.1.length ≤ 8:=by
      have hw:=sP (ps:=ps) hp hpk hft
      exact (pG okS.ok hw).1
    have h26:=hz6.dat h2
    have lle:xss.flatten.length + cl.length ≤ 900:=by
      have z:(fQ xss f cl).length = xss.flatten.length + cl.length:=by unfold fQ; rw [List.length_append,List.length_map]
      omega
    have lfl:xss.flatten.length ≤ 900:=by omega
    refine RT.use (b:=false) (RT.as (ay (eO (iU (rb (K:=K) (k:=6) (v:=0) F6.hf F6.h0 aj rfl)) (cq (aN (k:=1) (aa (k:=2) h26) aj rfl)))) (by rw [List.length_map,lt,decide_eq_true rfl]; rfl)) fun H7 s7=>lU ?_
    have F7:=F6.mono s7
    have s17:=hz6.trans s7
    refine dt (RCL.use (K:=K) (xS (cs:=f.1.map toD) (ds:=cs) (dB (rb (k:=6) (v:=0) F7.hf F7.h0 aj rfl) (cR (aN (k:=1) (aa (k:=2) (s7.dat h26)) aj rfl) bK)) (by rw [List.length_map]; exact lt) (by rw [List.length_map]; omega) xss (by rw [List.length_map]; exact lxs) (by decide) rfl (fun G j x y z v w sG hx hy hz hv hw=>?_)) fun lh zs H8 hlh s8 hzs dzs=>?_)
    · rw [List.getElem?_map] at hx
      cases hq:f.1[j]? with
      | none=>rw [hq] at hx; cases hx
      | some u =>
        rw [hq] at hx
        cases hx
        have tail:=lO okp.nh hft u (List.mem_of_getElem? hq)
        have du:=(fc tail).2
        have lz:=qz lfl hz
        exact fq (R:=mQ n) (cR (aa (k:=0) hv) (dB (aT (k:=2) ((s17.trans sG).ld h1)) (cR (aa (k:=1) hw) bK))) ⟨ps,u,y,rfl,okS,laS,ff t u okt (kA tail),by omega,hall.get hq hy hz,by omega⟩
    refine aO (K:=K) (b:=false) (ay (tX (k:=7) hzs dzs)) (fun c=>nomatch c) (fun _ H9 s9=>?_)
    have hzs9:=s9 _ _ hzs
    have dzs9:=s9.lds dzs
    have s19:=s17.trans (s8.trans s9)
    have s79:=s8.trans s9
    refine dt ⟨bU (by decide),fun m hm=>?_⟩
    have sm:Same H9 (upd H9 m (.lst [])):=aC hm _
    have lzs:=dzs9.length
    refine cO ⟨_,rfl,lh,rfl,⟨zs,SqL.of (sm _ _ hzs9)⟩,iF (xs:=zs) (fun i σ G=>∃ (z9:Option V) (m:Addr) (us:List V),σ = [some v0,some v1,some v2,none,none,some (.ref l),some (.ref fa),some (.ref lh),some (.ref m),z9]∧Same H9 G∧G m = some (.lst us)∧Dats K G (xss.take i).flatten us) ?_ (fun i σ G _ ⟨_,_,_,_,q,_⟩=>SqL.of (q _ _ hzs9)) ?_ ?_⟩
    · exact ⟨none,m,[],rfl,sm,aq,by rw [List.take_zero]; exact Dats.nil⟩
    · rintro i vx σ G hi ⟨z9,m,us,rfl,sG,hmG,du⟩
      have hix:i < xss.length:=by rw [lzs]; exact (List.getElem?_eq_some_iff.mp hi).1
      have hx:xss[i]? = some xss[i]:=List.getElem?_eq_getElem hix
      obtain ⟨v,ev,hv⟩:=(sG.lds dzs9).get hx
      rw [hi] at ev
      cases ev
      have lz:=qz lfl hx
      refine jN ?_
      dsimp only
      refine RC.use (K:=K) (hX (aT (k:=8) (LD.of hmG du)) (aT (k:=9) hv) (by omega)) fun m2 us2 G2 hm2 s2 hu2 du2=>?_
      refine ⟨_,m2,us2,rfl,sG.trans s2,hu2,?_⟩
      rw [List.take_add_one,hx,List.flatten_append]
      simp only [Option.toList_some,List.flatten_cons,List.flatten_nil,List.append_nil]
      exact du2
    · rintro σ G ⟨z9,m,us,rfl,sG,hmG,du⟩
      rw [← lzs,List.take_length] at du
      dsimp only
      have sHG:=s19.trans sG
      have F10:=F7.mono (s79.trans sG)
      have hn10:LD K G [.tup [.str p.nm,toP p.pt,.tup (cl.map clD)]] (.ref l):=by
        have z:=(s7.trans (s79.trans sG)).ld hn6
        have e:pcD p = .tup [.str p.nm,toP p.pt,.tup (cl.map clD)]:=by unfold pcD; rw [hcl.eq]
        rw [e] at z
        exact z
      obtain ⟨g1,g2⟩:=lL _ _ _ hft
      have lcl:cl.length ≤ 12:=by have:=okp.cs; rw [hcl.eq,List.length_map] at this; exact this
      refine ix (RC.use (K:=K) (es:=fQ xss f cl) (hX (aT (k:=8) (LD.of hmG du)) (nM (fq (R:=rC) (cR (aN (k:=2) (e9 (k:=0) (aT (k:=5) hn10) aj rfl) aj rfl) (dB (rb (k:=6) (v:=1) F10.hf F10.h1 aj rfl) (dB (rb (k:=6) (v:=2) F10.hf F10.h2 aj rfl) bK))) ⟨cl,f.2.1,f.2.2,rfl,by rw [g1,g2]; exact hcl.ok,lcl,rfl⟩)) (by rw [List.length_map]; omega)) fun l3 ws G2 hl3 s2 hw dw=>post l3 ws G2 (sHG.trans s2) hw (sHG.free hl3) dw)
end
end My
end
section
namespace My
open PySem L2 PyProof.Rows
section
variable {P:Program} {w:World} {K:PySem.W.Frag} {mg:Str→Option Value} {base:Heap} {k:Nat}
def Ae (T:Txt P w K mg):List (Addr × Sp):=[(T.C8,mF K vV (ug T.C0)),(T.Df,mF K Az (ug T.C0))]
def CV (T:Txt P w K mg):(L2.St→XK)→TS:=fun E=>zR (fun σ H Q=>tOp (sA K) (kU (bB (tC (.ref T.C8)) (bB (tC (.ref T.Df)) cH))) (eJ 0) σ H fun x H1=>∃ f sp,x = .ref f∧(f,sp) ∈ Ae T∧bB (eJ 1) (bB (eJ 2) cH) σ H1 fun vs H2=>sp vs H2 Q (E σ))
def ui (as:List Ar) (d:D):Prop:=∃ (ps:List Pc) (t:Tr),i9 ps t∧((as = [.d (.int 0),.d (toD t),.l (ps.map pcD)]∧d = (match bf ps t with | none=>qZ 8 | some b=>.int b.1))∨(as = [.d (.int 1),.d (toD t),.l (ps.map pcD)]∧d = (match bf ps t with | none=>qZ 8 | some b=>b.2)))
theorem qG (T:Txt P w K mg) (JJ:FnOk P w K mg base (CX1 P w) k T.C8 T.FK ["tree","some"] (mF K vV (ug T.C0))) (JO:FnOk P w K mg base (CX1 P w) k T.Df T.Gu ["tree","some"] (mF K Az (ug T.C0))) (Jt:sR P w K mg base k T.E7 T.Fc ["_law_e"] (ua T)):FnOk P w K mg base CX0 (k + 1) T.Gh T.Gr ["_law_what","_law_tree_here","_law_some"] (spA K ui):=by
  refine T.EZ.ok sc__law_ask (fun vs H Q E h=>?_) (fun cdv A outer s H vs Q E hr h=>?_)
  · obtain ⟨as,d,hd,⟨ps,t,gi,h⟩,_⟩:=h; rcases h with ⟨rfl,_⟩ | ⟨rfl,_⟩ <;> exact hd.length.symm
  have nd:=sc__law_ask.nd
  obtain ⟨as,d,hd,⟨ps,t,gi,hcase⟩,post⟩:=h
  refine ⟨_,(au (xG (t:=CV T) (i:=3) (fun pn xe E hx=>(au (aD (xr (E:=E) (Ae T) (aE bp (bC (ah (bg (v:=.ref T.C8) rfl T.IP rfl) (ah (bg (v:=.ref T.Df) rfl T.Jf rfl) af))) (pv 0) (fun _ _=>rfl)) (ah (pv 1) (ah (pv 2) af)) (fun f sp hm=>(List.mem_cons.mp hm).elim (fun e=>by cases e; exact ⟨T.GI.kp,_,_,_,_,JJ,hr,pO T,hx⟩) (fun hm=>by have e:=List.mem_singleton.mp hm; cases e; exact ⟨T.Hl.kp,_,_,_,_,JO,hr,rJ T,hx⟩)))))) rfl T.EI nd rfl rfl (fun e=>(au (aD (xq (E:=E0) Jt hr.h.mark rfl T.Iq T.FZ.kp (og T) .nil (ah (pv 3) af))))))),?_⟩
  rcases hcase with ⟨rfl,rfl⟩ | ⟨rfl,rfl⟩
  · obtain ⟨v0,v1,v2,rfl,h0,h1,h2⟩:=oa hd
    have h0:Dat K H (.int 0) v0:=h0
    have h1:Dat K H (toD t) v1:=h1
    have h2:LD K H (ps.map pcD) v2:=h2
    have e0:=h0.intE
    subst e0
    refine ⟨bU (by simp),fun l hl=>⟨_,rfl,l,[.ref T.C8,.ref T.Df],0,.ref T.C8,rfl,rfl,SqL.of aq,rfl,_,_,rfl,List.mem_cons_self,?_⟩⟩
    have sl:Same H (upd H l (.lst [.ref T.C8,.ref T.Df])):=aC hl _
    refine RB.use (K:=K) (cR (aa (k:=1) (sl.dat h1)) (dB (aT (k:=2) (sl.ld h2)) bK)) fun vs H2 s2 q2=>?_
    have s12:=sl.trans s2
    cases hb:bf ps t with
    | some b =>
      rw [hb] at post
      exact ⟨_,q2,.inl ⟨.int b.1,⟨ps,t,b,rfl,gi,hb,rfl⟩,fun v H' s q=>post v H' (s12.trans s) q⟩⟩
    | none =>
      rw [hb] at post
      refine ⟨_,q2,.inr ⟨T.C0,⟨ps,t,rfl,gi,hb,rfl⟩,fun H3 s3=>?_⟩⟩
      exact ⟨T.C4,T.C0,rfl,fun a ha=>⟨_,rfl,a,T.C0,8,rfl,aq,⟨rfl,rfl⟩,fun v H' s q=>post v H' (s12.trans (s3.trans ((aC ha _).trans s))) q⟩⟩
  · obtain ⟨v0,v1,v2,rfl,h0,h1,h2⟩:=oa hd
    have h0:Dat K H (.int 1) v0:=h0
    have h1:Dat K H (toD t) v1:=h1
    have h2:LD K H (ps.map pcD) v2:=h2
    have e0:=h0.intE
    subst e0
    refine ⟨bU (by simp),fun l hl=>⟨_,rfl,l,[.ref T.C8,.ref T.Df],1,.ref T.Df,rfl,rfl,SqL.of aq,rfl,_,_,rfl,List.mem_cons_of_mem _ List.mem_cons_self,?_⟩⟩
    have sl:Same H (upd H l (.lst [.ref T.C8,.ref T.Df])):=aC hl _
    refine RB.use (K:=K) (cR (aa (k:=1) (sl.dat h1)) (dB (aT (k:=2) (sl.ld h2)) bK)) fun vs H2 s2 q2=>?_
    have s12:=sl.trans s2
    cases hb:bf ps t with
    | some b =>
      rw [hb] at post
      exact ⟨_,q2,.inl ⟨b.2,⟨ps,t,b,rfl,gi,hb,rfl⟩,fun v H' s q=>post v H' (s12.trans s) q⟩⟩
    | none =>
      rw [hb] at post
      refine ⟨_,q2,.inr ⟨T.C0,⟨ps,t,rfl,gi,hb,rfl⟩,fun H3 s3=>?_⟩⟩
      exact ⟨T.C4,T.C0,rfl,fun a ha=>⟨_,rfl,a,T.C0,8,rfl,aq,⟨rfl,rfl⟩,fun v H' s q=>post v H' (s12.trans (s3.trans ((aC ha _).trans s))) q⟩⟩
end
end My
end
section
namespace My
open PySem L2 PyProof.Rows
section
variable {P:Program} {w:World} {K:PySem.W.Frag} {mg:Str→Option Value} {base:Heap} {k:Nat}
theorem wZ:∀ {ps:List Pc} {p q:Pc},(ps.map (·.nm)).Nodup→p ∈ ps→q ∈ ps→p.nm = q.nm→p = q
  | [],_,_,_,h,_,_=>by cases h
  | x :: ps,p,q,nd,hp,hq,e=>by
    rw [List.map_cons,List.nodup_cons] at nd
    rcases List.mem_cons.mp hp with e1 | h1
    · rcases List.mem_cons.mp hq with e2 | h2
      · rw [e1,e2]
      · exact absurd (List.mem_map.mpr ⟨q,h2,by rw [← e,e1]⟩) nd.1
    · rcases List.mem_cons.mp hq with e2 | h2
      · exact absurd (List.mem_map.mpr ⟨p,h1,by rw [e,e2]⟩) nd.1
      · exact wZ nd.2 h1 h2 e
theorem yt {ps:List Pc} (nd:(ps.map (·.nm)).Nodup) {t:Tr} (hpk:qw t = false) {p:Pc} {f:Fnd} (hp:p ∈ ps) (hft:bY p.pt t = some f):(dJ ps t).find? (fun w=>decide (w.nm = p.nm)) = some ⟨p.nm,p.cs,f.1⟩:=by
  have hw:=sP hp hpk hft
  cases e:(dJ ps t).find? (fun w=>decide (w.nm = p.nm)) with
  | none =>
    rw [List.find?_eq_none] at e
    exact absurd (decide_eq_true rfl) (e _ hw)
  | some w =>
    have h0:decide (w.nm = p.nm) = true:=List.find?_some (p:=fun w:Wy=>decide (w.nm = p.nm)) e
    have h1:=of_decide_eq_true h0
    have h2:=List.mem_of_find?_eq_some e
    unfold dJ at h2
    rw [if_neg (by rw [hpk]; exact Bool.false_ne_true)] at h2
    obtain ⟨q,hq,h3⟩:=List.mem_filterMap.mp h2
    unfold eR at h3
    cases ef:bY q.pt t with
    | none=>rw [ef] at h3; cases h3
    | some g =>
      rw [ef] at h3
      cases h3
      have eq:q = p:=wZ nd hq hp h1
      subst eq
      rw [hft] at ef
      cases ef
      rfl
theorem pL {f:Tr→D→Bool} {R:Tr→D→List D→Prop} (h:∀ t c es,R t c es→f t c = true) {ts:List Tr} {cs:List D} {ess:List (List D)} (q:AllL R ts cs ess):kN f ts cs = true:=by
  unfold kN
  rw [decide_eq_true q.len.1,Bool.true_and]
  unfold mm
  induction q with
  | nil=>rfl
  | cons r _ ih =>
    rw [List.zip_cons_cons,List.map_cons,List.all_cons,ih,h _ _ _ r]
    rfl
theorem oH {ps:List Pc} (nd:(ps.map (·.nm)).Nodup):∀ (n:Nat) (t:Tr) (c:D) (es:List D),mP ps n t c es→iD ps n t c = true
  | 0,_,_,_,h=>h.elim
  | n + 1,t,c,es,h=>by
    rcases h with ⟨a,b,d,ca,cb,cd,xa,xb,xd,rfl,rfl,la,lb,ld,rfl⟩ | ⟨p,f,cl,cs,xss,hpk,hp,hft,hcl,rfl,hall,rfl⟩
    · show (match (dJ ps (.pick a b d)).find? fun w:Wy=>decide (w.nm = ("pick":Str)) with | none=>false | some w=>kN (iD ps n) w.ts [ca,cb,cd]) = true
      rw [rq,List.find?_cons,decide_eq_true rfl]
      exact pL (oH nd n) (.cons la (.cons lb (.cons ld .nil)))
    · show (match (dJ ps t).find? fun w:Wy=>decide (w.nm = p.nm) with | none=>false | some w=>kN (iD ps n) w.ts cs) = true
      rw [yt nd hpk hp hft]
      exact pL (oH nd n) hall
def fW (ts:List Tr):Nat:=(ts.map aP).sum
theorem ye (a b:List Tr):fW (a ++ b) = fW a + fW b:=by simp [fW]
theorem lN:∀ (p:Pa) (t:Tr) (f:Fnd),bY p t = some f→fW f.1 ≤ aP t∧(fA p = true→fW f.1 + 1 ≤ aP t)
  | .hole i,t,f,h=>by cases h; exact ⟨by simp [fW],fun z=>nomatch z⟩
  | .gap i m,t,f,h=>by
    cases t with
    | num n =>
      have h':(if n ≤ m then some ([],[n],[]) else none:Option Fnd) = some f:=h
      by_cases z:n ≤ m
      · rw [if_pos z] at h'; cases h'; exact ⟨by simp [fW],fun _=>by simp [fW,aP]⟩
      · rw [if_neg z] at h'; cases h'
    | _=>cases h
  | .slot i,t,f,h=>by
    cases t with
    | arg n=>cases h; exact ⟨by simp [fW],fun _=>by simp [fW,aP]⟩
    | _=>cases h
  | .num m,t,f,h=>by
    cases t with
    | num n =>
      have h':(if n = m then some ([],[],[]) else none:Option Fnd) = some f:=h
      by_cases z:n = m
      · rw [if_pos z] at h'; cases h'; exact ⟨by simp [fW],fun _=>by simp [fW,aP]⟩
      · rw [if_neg z] at h'; cases h'
    | _=>cases h
  | .two o a b,t,f,h=>by
    cases t with
    | two o' u v =>
      obtain ⟨_,f1,f2,e1,e2,e3⟩:=dk h
      subst e3
      have h1:=(lN a u f1 e1).1
      have h2:=(lN b v f2 e2).1
      have e:fW (f1.1 ++ f2.1) = fW f1.1 + fW f2.1:=ye _ _
      refine ⟨?_,fun _=>?_⟩
      · show fW (f1.1 ++ f2.1) ≤ _; simp only [aP]; omega
      · show fW (f1.1 ++ f2.1) + 1 ≤ _; simp only [aP]; omega
    | _=>cases h
theorem yz {R:Tr→D→List D→Prop} (h:∀ t c es,R t c es→es.length ≤ 12 * aP t) {ts:List Tr} {cs:List D} {ess:List (List D)} (q:AllL R ts cs ess):ess.flatten.length ≤ 12 * fW ts:=by
  induction q with
  | nil=>simp
  | cons r _ ih =>
    have:=h _ _ _ r
    rw [List.flatten_cons,List.length_append]
    have e:∀ (t:Tr) (ts:List Tr),fW (t :: ts) = aP t + fW ts:=fun t ts=>by simp [fW]
    rw [e]
    omega
theorem jC {ps:List Pc} (ok:∀ p ∈ ps,zl p):∀ (n:Nat) (t:Tr) (c:D) (es:List D),mP ps n t c es→es.length ≤ 12 * aP t
  | 0,_,_,_,h=>h.elim
  | n + 1,t,c,es,h=>by
    rcases h with ⟨a,b,d,ca,cb,cd,xa,xb,xd,rfl,rfl,la,lb,ld,rfl⟩ | ⟨p,f,cl,cs,xss,hpk,hp,hft,hcl,rfl,hall,rfl⟩
    · have h1:=jC ok n a ca xa la
      have h2:=jC ok n b cb xb lb
      have h3:=jC ok n d cd xd ld
      have k1:=jA 8 9 xd.length
      have k2:=jA 10 11 (xb ++ cX 8 9 xd.length).length
      have j1:=wL (xd.length:Int)
      have j2:=wL ((xb ++ cX 8 9 xd.length).length:Int)
      have ll:(gg xa xb xd).length = xa.length + (cX 10 11 (xb ++ cX 8 9 xd.length).length).length + (xb.length + (cX 8 9 xd.length).length) + xd.length:=by unfold gg; simp only [List.length_append]
      simp only [aP]
      omega
    · have okp:=ok p hp
      have h1:=yz (jC ok n) hall
      have h2:=(lN _ _ _ hft).2 okp.nh
      have h3:=okp.cs
      rw [hcl.eq,List.length_map] at h3
      have z:(fQ xss f cl).length = xss.flatten.length + cl.length:=by unfold fQ; rw [List.length_append,List.length_map]
      omega
abbrev LPP:List Pc:=[⟨"inc",.two "add" (.hole 0) (.num 1),[.int 12,.int 1]⟩,⟨"both",.two "add" (.slot 0) (.slot 1),[.int 3,.tup [.str "arg",.int 0],.int 3,.tup [.str "arg",.int 1],.int 4]⟩,⟨"twofold",.two "mul" (.hole 0) (.num 2),[.int 13,.int 4]⟩,⟨"fewer",.two "sub" (.hole 0) (.gap 0 99),[.int 1,.tup [.str "low",.int 0],.int 5]⟩,⟨"addmul",.two "add" (.two "mul" (.hole 0) (.hole 1)) (.gap 0 99),[.int 6,.int 12,.tup [.str "low",.int 0]]⟩,⟨"turned",.two "less" (.gap 0 99) (.hole 0),[.int 1,.tup [.str "low",.int 0],.int 14,.int 7]⟩,⟨"far",.two "add" (.hole 0) (.gap 0 9999),[.int 2,.tup [.str "low",.int 0],.tup [.str "high",.int 0],.int 4]⟩,⟨"pair",.two "sub" (.gap 0 99) (.gap 1 99),[.int 1,.tup [.str "low",.int 0],.int 1,.tup [.str "low",.int 1],.int 5]⟩]
theorem Cq:BP.map pcD = BAS:=rfl
abbrev ALLP:List Pc:=BP ++ LPP
structure gdP (p:Pc):Prop where
  ok:zl p
  pc:mn (pcD p) = some true∧p.nm.length ≤ sizeLine
  nl:noL (pcD p) = true∧dS (pcD p) ≤ 19
  cl:∃ cl,sQ p cl
theorem CB:gdP ⟨"one",.gap 0 99,[.int 1,.tup [.str "low",.int 0]]⟩:=⟨⟨by decide +kernel,by simp [fV,okB],by decide,by decide,rfl⟩,⟨by decide +kernel,by decide⟩,⟨by decide +kernel,by decide +kernel⟩,[.n 1,.low 0],rfl,fun c hc=>List.all_eq_true.mp (show List.all [.n 1,.low 0] (iy _ _) = true from rfl) c hc⟩
theorem CC:gdP ⟨"two",.gap 0 9999,[.int 2,.tup [.str "low",.int 0],.tup [.str "high",.int 0]]⟩:=⟨⟨by decide +kernel,by simp [fV,okB],by decide,by decide,rfl⟩,⟨by decide +kernel,by decide⟩,⟨by decide +kernel,by decide +kernel⟩,[.n 2,.low 0,.high 0],rfl,fun c hc=>List.all_eq_true.mp (show List.all [.n 2,.low 0,.high 0] (iy _ _) = true from rfl) c hc⟩
theorem CD:gdP ⟨"slot",.slot 0,[.int 3,.tup [.str "arg",.int 0]]⟩:=⟨⟨by decide +kernel,by simp [fV,okB],by decide,by decide,rfl⟩,⟨by decide +kernel,by decide⟩,⟨by decide +kernel,by decide +kernel⟩,[.n 3,.arg 0],rfl,fun c hc=>List.all_eq_true.mp (show List.all [.n 3,.arg 0] (iy _ _) = true from rfl) c hc⟩
theorem CF:gdP ⟨"add",.two "add" (.hole 0) (.hole 1),[.int 4]⟩:=⟨⟨by decide +kernel,by simp [fV,okB],by decide,by decide,rfl⟩,⟨by decide +kernel,by decide⟩,⟨by decide +kernel,by decide +kernel⟩,[.n 4],rfl,fun c hc=>List.all_eq_true.mp (show List.all [.n 4] (iy _ _) = true from rfl) c hc⟩
theorem CG:gdP ⟨"sub",.two "sub" (.hole 0) (.hole 1),[.int 5]⟩:=⟨⟨by decide +kernel,by simp [fV,okB],by decide,by decide,rfl⟩,⟨by decide +kernel,by decide⟩,⟨by decide +kernel,by decide +kernel⟩,[.n 5],rfl,fun c hc=>List.all_eq_true.mp (show List.all [.n 5] (iy _ _) = true from rfl) c hc⟩
theorem CH:gdP ⟨"mul",.two "mul" (.hole 0) (.hole 1),[.int 6]⟩:=⟨⟨by decide +kernel,by simp [fV,okB],by decide,by decide,rfl⟩,⟨by decide +kernel,by decide⟩,⟨by decide +kernel,by decide +kernel⟩,[.n 6],rfl,fun c hc=>List.all_eq_true.mp (show List.all [.n 6] (iy _ _) = true from rfl) c hc⟩
theorem CI:gdP ⟨"less",.two "less" (.hole 0) (.hole 1),[.int 7]⟩:=⟨⟨by decide +kernel,by simp [fV,okB],by decide,by decide,rfl⟩,⟨by decide +kernel,by decide⟩,⟨by decide +kernel,by decide +kernel⟩,[.n 7],rfl,fun c hc=>List.all_eq_true.mp (show List.all [.n 7] (iy _ _) = true from rfl) c hc⟩
theorem CJ:gdP ⟨"more",.two "add" (.hole 0) (.gap 0 99),[.int 12,.tup [.str "low",.int 0]]⟩:=⟨⟨by decide +kernel,by simp [fV,okB],by decide,by decide,rfl⟩,⟨by decide +kernel,by decide⟩,⟨by decide +kernel,by decide +kernel⟩,[.n 12,.low 0],rfl,fun c hc=>List.all_eq_true.mp (show List.all [.n 12,.low 0] (iy _ _) = true from rfl) c hc⟩
theorem CK:gdP ⟨"inc",.two "add" (.hole 0) (.num 1),[.int 12,.int 1]⟩:=⟨⟨by decide +kernel,by simp [fV,okB],by decide,by decide,rfl⟩,⟨by decide +kernel,by decide⟩,⟨by decide +kernel,by decide +kernel⟩,[.n 12,.n 1],rfl,fun c hc=>List.all_eq_true.mp (show List.all [.n 12,.n 1] (iy _ _) = true from rfl) c hc⟩
theorem CL:gdP ⟨"both",.two "add" (.slot 0) (.slot 1),[.int 3,.tup [.str "arg",.int 0],.int 3,.tup [.str "arg",.int 1],.int 4]⟩:=⟨⟨by decide +kernel,by simp [fV,okB],by decide,by decide,rfl⟩,⟨by decide +kernel,by decide⟩,⟨by decide +kernel,by decide +kernel⟩,[.n 3,.arg 0,.n 3,.arg 1,.n 4],rfl,fun c hc=>List.all_eq_true.mp (show List.all [.n 3,.arg 0,.n 3,.arg 1,.n 4] (iy _ _) = true from rfl) c hc⟩
theorem BS:gdP ⟨"twofold",.two "mul" (.hole 0) (.num 2),[.int 13,.int 4]⟩:=⟨⟨by decide +kernel,by simp [fV,okB],by decide,by decide,rfl⟩,⟨by decide +kernel,by decide⟩,⟨by decide +kernel,by decide +kernel⟩,[.n 13,.n 4],rfl,fun c hc=>List.all_eq_true.mp (show List.all [.n 13,.n 4] (iy _ _) = true from rfl) c hc⟩
theorem BU:gdP ⟨"fewer",.two "sub" (.hole 0) (.gap 0 99),[.int 1,.tup [.str "low",.int 0],.int 5]⟩:=⟨⟨by decide +kernel,by simp [fV,okB],by decide,by decide,rfl⟩,⟨by decide +kernel,by decide⟩,⟨by decide +kernel,by decide +kernel⟩,[.n 1,.low 0,.n 5],rfl,fun c hc=>List.all_eq_true.mp (show List.all [.n 1,.low 0,.n 5] (iy _ _) = true from rfl) c hc⟩
theorem BV:gdP ⟨"addmul",.two "add" (.two "mul" (.hole 0) (.hole 1)) (.gap 0 99),[.int 6,.int 12,.tup [.str "low",.int 0]]⟩:=⟨⟨by decide +kernel,by simp [fV,okB],by decide,by decide,rfl⟩,⟨by decide +kernel,by decide⟩,⟨by decide +kernel,by decide +kernel⟩,[.n 6,.n 12,.low 0],rfl,fun c hc=>List.all_eq_true.mp (show List.all [.n 6,.n 12,.low 0] (iy _ _) = true from rfl) c hc⟩
theorem BW:gdP ⟨"turned",.two "less" (.gap 0 99) (.hole 0),[.int 1,.tup [.str "low",.int 0],.int 14,.int 7]⟩:=⟨⟨by decide +kernel,by simp [fV,okB],by decide,by decide,rfl⟩,⟨by decide +kernel,by decide⟩,⟨by decide +kernel,by decide +kernel⟩,[.n 1,.low 0,.n 14,.n 7],rfl,fun c hc=>List.all_eq_true.mp (show List.all [.n 1,.low 0,.n 14,.n 7] (iy _ _) = true from rfl) c hc⟩
theorem BX:gdP ⟨"far",.two "add" (.hole 0) (.gap 0 9999),[.int 2,.tup [.str "low",.int 0],.tup [.str "high",.int 0],.int 4]⟩:=⟨⟨by decide +kernel,by simp [fV,okB],by decide,by decide,rfl⟩,⟨by decide +kernel,by decide⟩,⟨by decide +kernel,by decide +kernel⟩,[.n 2,.low 0,.high 0,.n 4],rfl,fun c hc=>List.all_eq_true.mp (show List.all [.n 2,.low 0,.high 0,.n 4] (iy _ _) = true from rfl) c hc⟩
theorem BY:gdP ⟨"pair",.two "sub" (.gap 0 99) (.gap 1 99),[.int 1,.tup [.str "low",.int 0],.int 1,.tup [.str "low",.int 1],.int 5]⟩:=⟨⟨by decide +kernel,by simp [fV,okB],by decide,by decide,rfl⟩,⟨by decide +kernel,by decide⟩,⟨by decide +kernel,by decide +kernel⟩,[.n 1,.low 0,.n 1,.low 1,.n 5],rfl,fun c hc=>List.all_eq_true.mp (show List.all [.n 1,.low 0,.n 1,.low 1,.n 5] (iy _ _) = true from rfl) c hc⟩
theorem jk:∀ p ∈ ALLP,gdP p:=by
  intro p hp
  simp only [ALLP,BP,LPP,List.cons_append,List.nil_append,List.append_nil,List.mem_cons,List.not_mem_nil,or_false] at hp
  rcases hp with rfl | rfl | rfl | rfl | rfl | rfl | rfl | rfl | rfl | rfl | rfl | rfl | rfl | rfl | rfl | rfl
  · exact CB
  · exact CC
  · exact CD
  · exact CF
  · exact CG
  · exact CH
  · exact CI
  · exact CJ
  · exact CK
  · exact CL
  · exact BS
  · exact BU
  · exact BV
  · exact BW
  · exact BX
  · exact BY
theorem Au:(ALLP.map (·.nm)).Nodup:=by decide +kernel
theorem pD {ps:List Pc} (h:ps.Sublist ALLP):iw ps:=⟨fun p hp=>(jk p (h.subset hp)).ok,by have:=h.length_le; have e:ALLP.length = 16:=rfl; omega⟩
theorem sI {ps:List Pc} (h:ps.Sublist ALLP):(ps.map (·.nm)).Nodup:=(h.map (·.nm)).nodup Au
theorem zO {ps:List Pc} (h:ps.Sublist ALLP):wV ps:=⟨sI h,fun p hp=>(jk p (h.subset hp)).nl⟩
theorem yd {ps:List Pc} {t:Tr} (h:ps.Sublist ALLP) (lo:1 ≤ ps.length) (okt:okT t) (dp:aR t ≤ 8) (sz:aP t ≤ 40):i9 ps t:=by
  have l:=h.length_le
  have e:ALLP.length = 16:=rfl
  exact ⟨pD h,⟨lo,by omega,fun p hp=>(jk p (h.subset hp)).pc,sI h⟩,okt,dp,sz⟩
theorem zP {ps:List Pc} (h:ps.Sublist ALLP):cM (ps.map pcD) = true∧bJ (ps.map pcD) ≤ 20:=by
  have all:∀ p ∈ ps,noL (pcD p) = true∧dS (pcD p) ≤ 19:=fun p hp=>(jk p (h.subset hp)).nl
  clear h
  induction ps with
  | nil=>exact ⟨by simp [cM],by simp [bJ]⟩
  | cons p ps ih =>
    have h1:=all p List.mem_cons_self
    have h2:=ih fun q hq=>all q (List.mem_cons_of_mem _ hq)
    refine ⟨?_,?_⟩
    · rw [List.map_cons]; simp only [cM,h1.1,h2.1,Bool.and_true]
    · rw [List.map_cons]; simp only [bJ]; omega
theorem vC {ps:List Pc} (h:ps.Sublist ALLP):∀ p ∈ ps,fA p.pt = true∧p.nm ≠ "pick"∧∃ cl,sQ p cl:=fun p hp=>⟨(jk p (h.subset hp)).ok.nh,(jk p (h.subset hp)).ok.nm,(jk p (h.subset hp)).cl⟩
def Ao (K:PySem.W.Frag):Sp:=fun vs H Q _=>∃ (a t:Addr) (ns:List Int) (p q:Int) (rest:List V),vs = [.ref a,.ref t]∧Scr K H a ns∧H t = some (.lst (.int p :: .int q :: rest))∧0 ≤ p ∧
  ∀ (sub:List Pc) (l:Addr) (ys:List V) (H':Hp) (p' q':Int),But t H H'→H' t = some (.lst (.int p' :: .int q' :: rest))→0 ≤ p'→sub.Sublist LPP→H l = none→H' l = some (.lst ys)→Dats K H' ((BP ++ sub).map pcD) ys→Q (.ref l) H'
theorem qJ (T:Txt P w K mg) (Jm:FnOk P w K mg base CX0 k T.EK T.EN [] (iz K fun ds es=>ds = []∧es = LPD)) (Ds:FnOk P w K mg base CX0 k T.D0 T.D2 ["_law_script","_law_town","_law_many"] (mH K)):FnOk P w K mg base CX0 (k + 1) T.Gi T.Gs ["_law_script","_law_town"] (Ao K):=by
  refine T.Hk.ok sc__law_set (fun vs H Q E h=>?_) (fun cdv A outer s H vs Q E hr h=>?_)
  · obtain ⟨a,t,ns,p,q,rest,rfl,_⟩:=h; rfl
  have nd:=sc__law_set.nd
  obtain ⟨a,t,ns,p,q,rest,rfl,hS,hT,hp,post⟩:=h
  refine ⟨_,(ao (dI (i:=2) (own:=["_law_piece"]) (fr:=[0,1]) (N':=["_law_piece","_law_script","_law_town"]) (dq (xp Jm hr rfl T.Ia T.Fu.kp (mR T) .nil aY)) rfl (by show cj ["_law_script","_law_town","_law_more"] (fun x=>(aw fS).names.lookup x) _ _ _ _ = true; decide +kernel) rfl (fun _ _ _ _ _=>(aV (i:=0) (by show List.Nodup [("_law_piece":Str),("_law_script":Str),("_law_town":Str)]; decide +kernel) rfl (Or.inl rfl))) (fun _ _ _ _ _=>(mq (aF cg (az Ds hr rfl T.D4 T.Dt.kp (dE T) .nil aY (ah (pv 1) (ah (pv 2) (ah ag af)))) ag (aL _)))) (fun _ _ _ _ _=>(pv 0)) nd rfl rfl rfl)
  (au (aD (bE hE (bg (v:=.ref T.Ij) rfl T.Ho rfl) (pv 2))))),?_⟩
  refine dt (kM (K:=K) (fun r us H1=>Same H H1∧H r = none∧Dats K H1 LPD us) (fun R hR=>⟨[],LPD,Dats.nil,⟨rfl,rfl⟩,fun r us H1 s1 hr hr0 hd=>hR r us H1 hr ⟨s1,hr0,hd⟩⟩) rfl (fun r us H1 l hr hM hl=>?_))
  obtain ⟨s1,hr0,hd⟩:=hM
  have hT1:=s1 _ _ hT
  have nrt:r ≠ t:=Ne.symm (av hT hr0)
  have nlt:l ≠ t:=Ne.symm (av hT1 hl)
  have nlr:r ≠ l:=av hr hl
  have lu:=hd.length
  have lu8:us.length = 8:=by rw [← lu]; rfl
  refine ⟨
    (fun i G=>∃ (sub:List Pc) (ys:List V) (p' q':Int),But t H1 G∧G t = some (.lst (.int p' :: .int q' :: rest))∧0 ≤ p'∧sub.Sublist (LPP.take i)∧G l = some (.lst ys)∧Dats K G (sub.map pcD) ys∧sub.length ≤ i),?_,(fun i G hi ⟨_,_,_,_,b,_⟩=>SqL.of (b _ _ nrt hr)),(fun i G hi pn=>?_),(fun G pn=>?_)⟩
  · exact ⟨[],[],p,q,(aC hl _).but,by rw [aB (Ne.symm nlt)]; exact hT1,hp,List.nil_sublist _,aq,Dats.nil,Nat.le_refl _⟩
  · obtain ⟨sub,ys,p',q',bG,tG,gp,hsub,hlG,dG,lsub⟩:=pn
    have ly:=dG.length
    rw [List.length_map] at ly
    have gG:dv K H1 G:=bG.grow hT1 tG
    have hdG:Dats K G LPD us:=Dats.mono gG _ hd
    obtain ⟨dx,ex,hx⟩:=hdG.getV (List.getElem?_eq_getElem hi)
    have hx':(LPP.map pcD)[i]? = some dx:=ex
    rw [List.getElem?_map] at hx'
    cases hpp:LPP[i]? with
    | none=>rw [hpp] at hx'; cases hx'
    | some pp =>
      rw [hpp] at hx'
      cases hx'
      have et:LPP.take (i + 1) = LPP.take i ++ [pp]:=by rw [List.take_add_one,hpp]; rfl
      have hitem:us.getD i .non = us[i]:=by rw [List.getD_eq_getElem?_getD,List.getElem?_eq_getElem hi]; rfl
      refine ⟨_,rfl,_,rfl,a,t,ns,2,p',q',rest,rfl,hS.but (s1.but.trans bG) hT,tG,gp,by decide,by decide,fun r3 G3 p3 q3 b3 t3 g3 r3a r3b=>?_⟩
      refine ⟨rfl,_,rfl,?_⟩
      have hl3:=b3 _ _ nlt hlG
      have g3':dv K G G3:=b3.grow tG t3
      refine kR (fun c=>?_) (fun c=>?_)
      · refine ⟨_,rfl,ys,hl3,bQ (by omega),⟨_,rfl⟩,?_⟩
        rw [hitem]
        have b4:But l G3 (upd G3 l (.lst (ys ++ [us[i]]))):=But.upd (Same.refl _).but
        have g4:dv K G3 (upd G3 l (.lst (ys ++ [us[i]]))):=b4.grow hl3 aq
        refine ⟨sub ++ [pp],ys ++ [us[i]],p3,q3,fun b o nb hb=>b4 b o (av hb hl) (b3 b o nb (bG b o nb hb)),b4 _ _ (Ne.symm nlt) t3,g3,?_,aq,?_,?_⟩
        · rw [et]; exact hsub.append (List.Sublist.refl _)
        · rw [List.map_append]
          exact Dats.append (Dats.mono g4 _ (Dats.mono g3' _ dG)) (Dats.cons (Dat.mono g4 _ (Dat.mono g3' _ hx)) Dats.nil)
        · rw [List.length_append]
          simp
          omega
      · refine ⟨⟨_,rfl⟩,sub,ys,p3,q3,bG.trans b3,t3,g3,?_,hl3,Dats.mono g3' _ dG,by omega⟩
        rw [et]
        exact hsub.trans (List.sublist_append_left _ _)
  · obtain ⟨sub,ys,p',q',bG,tG,gp,hsub,hlG,dG,lsub⟩:=pn
    have hL:LD K G (sub.map pcD) (.ref l):=LD.of hlG dG
    have hsub':sub.Sublist LPP:=hsub.trans (List.take_sublist _ _)
    refine ix (RC.use (K:=K) (hX (x8 T.Jw) (aT (k:=2) hL) (by rw [List.length_map]; show 8 + sub.length ≤ 1000; omega)) fun lz zs G2 hlz s2 hzs dzs=>?_)
    refine post sub lz zs G2 p' q' ((s1.but.trans bG).trans s2.but) (s2 _ _ tG) gp hsub' ?_ hzs ?_
    · cases h:H lz with
      | none=>rfl
      | some o =>
        have h1:=s1 _ _ h
        by_cases e:lz = t
        · rw [e,tG] at hlz; cases hlz
        · rw [bG _ _ e h1] at hlz; cases hlz
    · rw [List.map_append,Cq]
      exact dzs
end
end My
end
section
namespace My
open PySem L2 PyProof.Rows
section
variable {P:Program} {w:World} {K:PySem.W.Frag} {mg:Str→Option Value} {base:Heap} {k:Nat}
theorem qW {σ:L2.St} {H:Hp} {ta tb:TE} (h1:RE K ta σ H (qZ 8)) (h2:RE K tb σ H (qZ 8)):RE K (tOp (Bl K false) ta tb) σ H (.bl true):=RE.as (zD h1 h2 rfl rfl (by decide +kernel)) (congrArg D.bl (iE _ rfl))
def rf (K:PySem.W.Frag):Sp:=fun vs H Q _=>∃ (a:Addr) (ns:List Int),vs = [.ref a]∧Scr K H a ns∧∀ H',Q (.bl true) H'
theorem vi {k:Nat} {σ:L2.St} {H:Hp} {l:Addr} {ys:List V} {ds:List D} (hl:aLst K H l ys) (hd:Dats K H ds ys) (n1:cM ds = true) (dp:bJ ds ≤ 20) (hv:σ[k]? = some (some (.ref l)):=by rfl):RE K (tOp (xI K false) (eJ k) (kU cH)) σ H (.bl (cW ds [])):=fun H1 s Q q =>
  ⟨_,hv,bU (by decide),fun p hp=>by
    have sp:=aC hp (.lst [])
    exact ⟨l,p,ys,[],ds,[],rfl,rfl,(sp.aLst (s.aLst hl)).sqL,SqL.of aq,sp.dats (s.dats hd),Dats.nil,n1,rfl,dp,q _ _ sp (Dat.blI _)⟩⟩
theorem A9 (T:Txt P w K mg) (Hx:FnOk P w K mg base CX0 k T.Eo T.Eu ["_law_script","_law_town","_law_room"] (mI K 6)) (JN:FnOk P w K mg base CX0 k T.Gi T.Gs ["_law_script","_law_town"] (Ao K)) (Ds:FnOk P w K mg base CX0 k T.D0 T.D2 ["_law_script","_law_town","_law_many"] (mH K)) (FY:FnOk P w K mg base CX0 k T.D5 T.D7 ["_law_tree_here","_law_some"] (spA K (fN 8))) (Hf:FnOk P w K mg base CX0 k T.Gh T.Gr ["_law_what","_law_tree_here","_law_some"] (spA K ui)) (Hg:FnOk P w K mg base CX0 k T.EV T.EX ["_law_tree_here","_law_some","_law_cover"] (mG K (mQ 8))) (Jn:FnOk P w K mg base CX0 k T.EL T.EO ["tree","some","thing"] (spA K Ay)):FnOk P w K mg base CX0 (k + 1) T.JK T.JW ["_law_script"] (rf K):=by
  refine T.Ki.ok sc_law (fun vs H Q E h=>?_) (fun cdv A outer s H vs Q E hr h=>?_)
  · obtain ⟨a,ns,rfl,_⟩:=h; rfl
  have nd:=sc_law.nd
  obtain ⟨a,ns,rfl,hS,post⟩:=h
  refine' ⟨_,?ybody,?yread⟩
  case ybody =>
    refine' ao ?y35 ?y36
    case y35=>exact (bz (i:=1) nd rfl (Or.inr rfl) (bC (ah ag (ah ag (ah ag af)))))
    case y36 =>
      refine' ao ?y33 ?y34
      case y33=>exact (xE (i:=2) (j:=3) rfl nd rfl rfl (by decide) rfl rfl (ah (az Hx hr rfl T.HL T.FO.kp (kF T) .nil aY (ah (pv 0) (ah (pv 1) (ah ag af)))) (ah (az JN hr rfl T.Je T.Hk.kp (rH T) .nil aY (ah (pv 0) (ah (pv 1) af))) af)) (by kernel_rfl))
      case y34 =>
        refine' ao ?y31 ?y32
        case y31 =>
          refine' bj ?y2 ?y3 ?y4
          case y2=>exact (aF cg (az Ds hr rfl T.D4 T.Dt.kp (dE T) .nil aY (ah (pv 0) (ah (pv 1) (ah ag af)))) ag (aL _))
          case y3 =>
            refine' au ?y1
            case y1=>exact (dI (i:=3) (own:=["_law_piece"]) (fr:=[0,1]) (N':=["_law_piece","_law_script","_law_town"]) (dq (pv 3)) rfl (by show cj ["_law_script","_law_town","_law_tree_here","_law_some","_law_due","_law_told_cover","_law_cells"] (fun x=>(aw rd).names.lookup x) _ _ _ _ = true; decide +kernel) rfl (fun _ _ _ _ _=>(aV (i:=0) (by show List.Nodup [("_law_piece":Str),("_law_script":Str),("_law_town":Str)]; decide +kernel) rfl (Or.inl rfl))) (fun _ _ _ _ _=>(mq (aF nG (az Ds hr rfl T.D4 T.Dt.kp (dE T) .nil aY (ah (pv 1) (ah (pv 2) (ah ag af)))) ag (aL _)))) (fun _ _ _ _ _=>(pv 0)) nd rfl rfl rfl)
          case y4=>exact aK
        case y32 =>
          refine' ao ?y29 ?y30
          case y29 =>
            refine' bj ?y6 ?y7 ?y8
            case y6=>exact (aF (oY hr) (pv 3) (bC af) (aL _))
            case y7 =>
              refine' au ?y5
              case y5=>exact (bz (i:=3) nd rfl (Or.inl rfl) (bC (ah (aE bp (bg (v:=.ref T.Ij) rfl T.Ho rfl) ag (fun _ _=>rfl)) af)))
            case y8=>exact aK
          case y30 =>
            refine' ao ?y27 ?y28
            case y27=>exact (bz (i:=4) nd rfl (Or.inl rfl) (az FY hr rfl T.F2 T.ED.kp (gW T) .nil aY (ah (pv 2) (ah (pv 3) af))))
            case y28 =>
              refine' ao ?y25 ?y26
              case y25 =>
                refine' bj ?y11 ?y12 ?y13
                case y11=>exact (aF ml (pv 4) dn (aL _))
                case y12 =>
                  refine' au ?y10
                  case y10 =>
                    refine' aD ?y9
                    case y9=>exact (fC (bZ (sv hr) (az Hf hr rfl T.Gz T.EZ.kp (gT T) .nil aY (ah ag (ah (pv 2) (ah (pv 3) af)))) (aX (ah aJ (ah ag af))) (aL _)) (fD (bZ (sv hr) (az Hf hr rfl T.Gz T.EZ.kp (gT T) .nil aY (ah ag (ah (pv 2) (ah (pv 3) af)))) (aX (ah aJ (ah ag af))) (aL _))))
                case y13=>exact aK
              case y26 =>
                refine' ao ?y23 ?y24
                case y23=>exact (bz (i:=5) nd rfl (Or.inl rfl) (az Hf hr rfl T.Gz T.EZ.kp (gT T) .nil aY (ah ag (ah (pv 2) (ah (pv 3) af)))))
                case y24 =>
                  refine' ao ?y21 ?y22
                  case y21=>exact (bz (i:=6) nd rfl (Or.inl rfl) (az Hg hr rfl T.Hq T.Fm.kp (jb T) .nil aY (ah (pv 2) (ah (pv 3) (ah (pv 5) af)))))
                  case y22 =>
                    refine' ao ?y19 ?y20
                    case y19 =>
                      refine' bj ?y15 ?y16 ?y17
                      case y15=>exact (PW.pt (cQ (aF gh (az Hf hr rfl T.Gz T.EZ.kp (gT T) .nil aY (ah ag (ah (pv 2) (ah (pv 3) af)))) (pv 4) (aL _)) (cQ (aF ml (pv 6) dn (aL _)) (de (aF gh (aA aH rfl T.De bI (ah (pv 6) af)) (pv 4) (aL _))))))
                      case y16 =>
                        refine' au ?y14
                        case y14=>exact (aD cG)
                      case y17=>exact aK
                    case y20 =>
                      refine' au ?y18
                      case y18=>exact (aD (bZ Ba (az Jn hr rfl T.Ib T.Fv.kp (mS T) .nil aY (ah (pv 2) (ah (pv 3) (ah (pv 5) af)))) cG (aL _)))
  case yread =>
    refine dt ⟨bU (by decide),fun t ht=>?_⟩
    have hS0:=hS.same (aC ht (.lst [.int 0,.int 0,.int 8]))
    refine cO ?_
    refine ⟨_,rfl,_,rfl,a,t,ns,6,0,0,8,rfl,hS0,aq,by decide,by decide,by decide,by decide,by decide,fun v1 H1 X p1 q1 c1 b1 t1 g1 gc1 gd1 okX dp1 sz1 dX=>?_⟩
    refine ⟨_,rfl,_,rfl,a,t,ns,p1,q1,[.int c1],rfl,hS0.but b1 aq,t1,g1,fun sub l ys H3 p3 q3 b3 t3 g3 hsub hl hy dy=>⟨v1,.ref l,rfl,?_⟩⟩
    have hS3:=(hS0.but b1 aq).but b3 t1
    have dX3:Dat K H3 (toD X) v1:=Dat.mono (b3.grow t1 t3) _ dX
    have dp8:aR X ≤ 8:=by omega
    have sz40:aP X ≤ 40:=by omega
    have nlt:l ≠ t:=Ne.symm (av t1 hl)
    have hps:(BP ++ sub).Sublist ALLP:=(List.Sublist.refl BP).append hsub
    generalize BP ++ sub = ps0 at hps dy
    clear hsub hl
    dsimp only
    refine jO (fun σ G=>∃ (vl:V) (ps:List Pc),σ = [some (.ref a),some (.ref t),some v1,some vl,none,none,none]∧Dat K G (toD X) v1∧LD K G (ps.map pcD) vl∧ps.Sublist ALLP) ?_ (fun rest=>?_)
    · rintro σ G ⟨vl,ps0,rfl,dX,hL,hps⟩
      refine jO (fun σ G=>∃ (vl:V) (ps:List Pc),σ = [some (.ref a),some (.ref t),some v1,some vl,none,none,none]∧Dat K G (toD X) v1∧LD K G (ps.map pcD) vl∧ps.Sublist ALLP∧1 ≤ ps.length) ?_ (fun rest=>?_)
      · rintro σ G ⟨vl,ps,rfl,dX,hL,hps,lo⟩
        have gi:i9 ps X:=yd hps lo okX dp8 sz40
        refine dP (K:=K) (d:=opD (lnO (bf ps X))) (bP (R:=fN 8) (cR (aa (k:=2) dX) (dB (aT (k:=3) hL) bK)) ⟨ps,X,rfl,pD hps,okX,dp8,by decide,rfl⟩) fun vd G1 s1 qd=>?_
        have dX:=s1.dat dX
        have hL:=s1.ld hL
        cases hb:bf ps X with
        | none =>
          rw [hb] at qd
          refine aO (K:=K) (b:=true) (ay (iO (aa (k:=4) qd))) (fun _ G2 s2=>?_) (fun c=>nomatch c)
          have A0:∀ {G:Hp} {σ:L2.St},Same G2 G→σ[2]? = some (some v1)→σ[3]? = some (some vl)→∀ (i:Int),(i = 0∨i = 1)→RE K (gQ (spA K ui) [] E0 (bB (tC (.int i)) (bB (eJ 2) (bB (eJ 3) cH)))) σ G (qZ 8):=fun {G σ} sG ea eb i hi =>
            bP (R:=ui) (cR aj (cR (aa (k:=2) ((s2.trans sG).dat dX) ea) (dB (aT (k:=3) ((s2.trans sG).ld hL) eb) bK))) ⟨ps,X,gi,by
              rcases hi with rfl | rfl
              · exact .inl ⟨rfl,by rw [hb]⟩
              · exact .inr ⟨rfl,by rw [hb]⟩⟩
          have RF:∀ {G:Hp} {σ:L2.St},RE K (vE (bB (tC (.str "refused")) (bB (tC (.int 8)) cH))) σ G (qZ 8):=ba (ae aG (ae aj ax))
          exact aZ (K:=K) (d:=.bl true) (RE.as (cm (qW (A0 (Same.refl _) rfl rfl 0 (.inl rfl)) RF) fun _=>qW (A0 (Same.refl _) rfl rfl 1 (.inr rfl)) RF) rfl) fun v G3 s3 q3=>by rw [q3.blE]; exact post G3
        | some b =>
          rw [hb] at qd
          have qd:Dat K G1 (.int b.1) vd:=qd
          obtain ⟨es,hlay,hlen⟩:=iC (vC hps) 8 X b dp8 hb
          have hlc:=oH (sI hps) 8 X b.2 es hlay
          have l900:es.length ≤ 900:=by have:=jC (pD hps).ok 8 X b.2 es hlay; omega
          refine aO (K:=K) (b:=false) (ay (iO (aa (k:=4) qd))) (fun c=>nomatch c) (fun _ G2 s2=>?_)
          refine dP (K:=K) (d:=b.2) (bP (R:=ui) (cR aj (cR (aa (k:=2) (s2.dat dX)) (dB (aT (k:=3) (s2.ld hL)) bK))) ⟨ps,X,gi,.inr ⟨rfl,by rw [hb]⟩⟩) fun vc G3 s3 qc=>?_
          have s23:=s2.trans s3
          refine fg (K:=K) (fq (R:=mQ 8) (cR (aa (k:=2) (s23.dat dX)) (dB (aT (k:=3) (s23.ld hL)) (cR (aa (k:=5) qc) bK))) ⟨ps,X,b.2,rfl,pD hps,zO hps,okX,dp8,hlay,l900⟩) fun lc us G4 hlc4 s4 hu du=>?_
          have s24:=s23.trans s4
          have hC:LD K G4 es (.ref lc):=LD.of hu du
          refine aO (K:=K) (b:=false) ?_ (fun c=>nomatch c) (fun _ G5 s5=>?_)
          · refine RT.as (bT (b:=false) (RT.as (ay (eO (i:=b.1) (bP (R:=ui) (cR aj (cR (aa (k:=2) (s24.dat dX)) (dB (aT (k:=3) (s24.ld hL)) bK))) ⟨ps,X,gi,.inl ⟨rfl,by rw [hb]⟩⟩) (aa (k:=4) (s24.dat qd)))) (by rw [decide_eq_true rfl]; rfl)) fun _=>bT (b:=false) (ay (iO (aa (k:=6) hC.lst))) fun _=>ay (eO (iU (aT (k:=6) hC)) (aa (k:=4) (s24.dat qd)))) ?_
            rw [decide_eq_true hlen]
            rfl
          · have s25:=s24.trans s5
            refine aZ (K:=K) (d:=.bl true) (RE.as (Bw (bP (R:=Ay) (cR (aa (k:=2) (s25.dat dX)) (dB (aT (k:=3) (s25.ld hL)) (cR (aa (k:=5) ((s4.trans s5).dat qc)) bK))) ⟨ps,X,b.2,rfl,gi,rfl⟩) dj) (by rw [hlc]; rfl)) fun v G6 s6 q6=>by rw [q6.blE]; exact post G6
      · have nl:=zP hps
        obtain ⟨la,us,rfl,haL,hd⟩:=hL
        refine eU (b:=ps0.isEmpty) (RT.as (ay (vi (K:=K) (k:=3) haL hd nl.1 nl.2)) ?_) (fun cE G2 s2=>?_) (fun cF G2 s2=>gm (rest _ _ ⟨_,ps0,rfl,s2.dat dX,s2.ld ⟨la,us,rfl,haL,hd⟩,hps,?_⟩))
        · cases ps0 with
          | nil=>exact cA
          | cons p r=>exact ck _ _
        · refine RC.use (K:=K) (hZ (es:=[BAS.getD 4 .non]) (ae (e9 (k:=4) (x8 T.Jw) aj rfl) ax)) fun l2 zs G3 hl2 s3 hz dz=>?_
          refine rest _ _ ⟨.ref l2,[⟨"sub",.two "sub" (.hole 0) (.hole 1),[.int 5]⟩],rfl,(s2.trans s3).dat dX,LD.of hz dz,?_,by decide⟩
          exact List.singleton_sublist.mpr (by simp [ALLP,BP])
        · cases ps0 with
          | nil=>cases cF
          | cons p r=>simp
    · refine ⟨_,rfl,_,rfl,a,t,ns,4,p3,q3,[.int c1],rfl,hS3,t3,g3,by decide,by decide,fun r4 G4 p4 q4 b4 t4 g4 r4a r4b=>?_⟩
      have dX4:=Dat.mono (b4.grow t3 t4) _ dX3
      have hy4:=b4 _ _ nlt hy
      have dy4:=Dats.mono (b4.grow t3 t4) _ dy
      have hS4:=hS3.but b4 t3
      refine ⟨rfl,_,rfl,?_⟩
      refine kR (fun c=>?_) (fun c=>gm (rest _ _ ⟨_,ps0,rfl,dX4,LD.of hy4 dy4,hps⟩))
      refine kM (K:=K) (fun r us H1=>r = l∧us = ys∧H1 = G4) (fun R hR=>⟨_,rfl,hR l ys G4 hy4 ⟨rfl,rfl,rfl⟩⟩) rfl (fun r us H1 l2 hr hM hl2=>?_)
      obtain ⟨rfl,rfl,rfl⟩:=hM
      have nl2t:l2 ≠ t:=Ne.symm (av t4 hl2)
      have nl2l:r ≠ l2:=av hr hl2
      have lu:=dy4.length
      rw [List.length_map] at lu
      have l16:us.length ≤ 16:=by rw [← lu]; exact hps.length_le
      refine ⟨
        (fun i G=>∃ (sub:List Pc) (zs:List V) (p' q':Int),But t H1 G∧G t = some (.lst [.int p',.int q',.int c1])∧0 ≤ p'∧sub.Sublist (ps0.take i)∧G l2 = some (.lst zs)∧Dats K G (sub.map pcD) zs∧sub.length ≤ i),?_,(fun i G hi ⟨_,_,_,_,b,_⟩=>SqL.of (b _ _ nlt hr)),(fun i G hi pn=>?_),(fun G pn=>?_)⟩
      · exact ⟨[],[],p4,q4,(aC hl2 _).but,by rw [aB (Ne.symm nl2t)]; exact t4,g4,List.nil_sublist _,aq,Dats.nil,Nat.le_refl _⟩
      · obtain ⟨sub,zs,p',q',bG,tG,gp,hsub,hlG,dG,lsub⟩:=pn
        have lz:=dG.length
        rw [List.length_map] at lz
        have gG:dv K H1 G:=bG.grow t4 tG
        obtain ⟨dx,ex,hx⟩:=(Dats.mono gG _ dy4).getV (List.getElem?_eq_getElem hi)
        rw [List.getElem?_map] at ex
        cases hpp:ps0[i]? with
        | none=>rw [hpp] at ex; cases ex
        | some pp =>
          rw [hpp] at ex
          cases ex
          have et:ps0.take (i + 1) = ps0.take i ++ [pp]:=by rw [List.take_add_one,hpp]; rfl
          have hitem:us.getD i .non = us[i]:=by rw [List.getD_eq_getElem?_getD,List.getElem?_eq_getElem hi]; rfl
          refine ⟨_,rfl,_,rfl,a,t,ns,4,p',q',[.int c1],rfl,hS4.but bG t4,tG,gp,by decide,by decide,fun r5 G5 p5 q5 b5 t5 g5 r5a r5b=>?_⟩
          refine ⟨_,_,rfl,rfl,_,rfl,?_⟩
          have hl5:=b5 _ _ nl2t hlG
          have g5':dv K G G5:=b5.grow tG t5
          refine kR (fun c=>?_) (fun c=>?_)
          · refine ⟨_,rfl,zs,hl5,bQ (by omega),⟨_,rfl⟩,?_⟩
            rw [hitem]
            have b6:But l2 G5 (upd G5 l2 (.lst (zs ++ [us[i]]))):=But.upd (Same.refl _).but
            have g6:dv K G5 (upd G5 l2 (.lst (zs ++ [us[i]]))):=b6.grow hl5 aq
            refine ⟨sub ++ [pp],zs ++ [us[i]],p5,q5,fun b o nb hb=>b6 b o (av hb hl2) (b5 b o nb (bG b o nb hb)),b6 _ _ (Ne.symm nl2t) t5,g5,?_,aq,?_,?_⟩
            · rw [et]; exact hsub.append (List.Sublist.refl _)
            · rw [List.map_append]
              exact Dats.append (Dats.mono g6 _ (Dats.mono g5' _ dG)) (Dats.cons (Dat.mono g6 _ (Dat.mono g5' _ hx)) Dats.nil)
            · rw [List.length_append]
              simp
              omega
          · refine ⟨⟨_,rfl⟩,sub,zs,p5,q5,bG.trans b5,t5,g5,?_,hl5,Dats.mono g5' _ dG,by omega⟩
            rw [et]
            exact hsub.trans (List.sublist_append_left _ _)
      · obtain ⟨sub,zs,p',q',bG,tG,gp,hsub,hlG,dG,lsub⟩:=pn
        exact rest _ _ ⟨.ref l2,sub,rfl,Dat.mono (bG.grow t4 tG) _ dX4,LD.of hlG dG,(hsub.trans (List.take_sublist _ _)).trans hps⟩
end
end My
end
section
open PySem PySem.W PyProof.Rows
section
local macro_rules | `(tactic| o_head $H:term)=>`(tactic| (have _hook:=$H; assumption))
theorem My.k0 (h:PySem.Challenge.rw_piecelay_k13_whole_least.row.Holds):PySem.Challenge.rw_piecelay_k13_whole_least.row.Holds:=by
  k_head
end
namespace My
def view:Program:={ PySem.Challenge.pw_piecelay_k13_whole_least with main:={ PySem.Challenge.pw_piecelay_k13_whole_least.main with body:=[top 1,top 2,top 3,top 4,top 5,top 6,top 7,top 8,top 9,top 10,top 11,top 12,top 13,top 14,top 15,top 17,top 18,top 19,top 20,top 22,top 23,top 24,top 25,top 26,top 27,top 28,top 29,top 30,top 32,top 33,top 34,top 36,top 37,top 38,top 39,top 40,top 41,top 42,top 43,top 44,top 45,top 46,top 47,top 48,top 49,top 50,top 51,top 52,top 53,top 54,top 55,top 56,top 57,top 59,top 60,top 61,top 62,top 63,top 64,top 65,top 66,top 67,top 68,top 69,top 70,top 71,top 72,top 73,top 75,top 76,top 77,top 78,top 79,top 80,top 81,top 82,top 83,top 84,top 85,top 86,top 87,top 88,top 89,top 90] } }
abbrev PRG:Program:=PySem.Challenge.pw_piecelay_k13_whole_least
abbrev loose:List Str:=["MOST_IN_LEAF","TREES_IN_BRANCH","MARK_LENGTHS","FILLED_FROM","BASIC"]
abbrev xt (s:Shared):Bool:=xlAt view [] s && recOk (RowW.records (OpenRow.toRowW (OpenLaw.row PySem.Challenge.rw_piecelay_k13_whole_least))) s
abbrev kas:List Addr:=[2,3,15,22,23,24,25,28,35,36,37,40,47,48,49,52,59,60,61,64,71,72,73,76,83,84,85,88,95,96,97,100,107,108,109,112,119,120,121,124,131,132,133,136,143,144,145,148,155,156,157,160,167,168,169,172,179,181,182,184,185,186,187,188,191,198,200,201,203,204,205,206,207,210,212,213,215,216,217,219,220,222,223,224,227,228,229,230,231,233,234,236,237,238,240,241,243,244,245,248,249,250,252,253,255,256,257,259,260,262,263,264,265,266,267,268,269,270,271,272,273,274,275,276,277,278,279,280,281,282,284,285,287,288,289,290,291,292,293,294,295,296,297,298,299,300,301,302,303,304,305,306,307,308,309,310,311,312,313,314,315,316,317,318,319,320,321,322,323,324,325,326,327,328,329,330,331,332,334,335,337,338,339,342,343,344,346,347,349,350,351,354,355,356,359,360,361,363,364,366,367,368,370,371,373,374,375,378,379,380,382,383,385,386,387,390,391,392,394,395,397,398,399,401,402,404,405,406,408,409,411,412,413,415,416,418,419,420,421,422,424,425,427,428,429,431,432,434,435,436,438,439,441,442,443,445,446,448,449,450,453,454,455,457,458,460,461,462,464,465,467,468,469,472,473,474,476,477,479,480,481,483,484,486,487,488,490,491,493,494,495,497,498,500,501,502,504,505,507,508,509,512,513,526,528,529,531,532,533,536,537,538,540,541,543,544,545,547,548,550,551,552,555,556,557,559,560,562,563,564,566,567,569,570,571,574,575,576,578,579,581,582,583,585,586,588,589,590,593,594]
theorem kas_ok:∀ P,kas = (My.k0.heap_1 P).map (·.1):=fun _=>by kernel_rfl
noncomputable abbrev hk:Hook:=kHook My.k0.heap_1 kas kas_ok
abbrev NN:Nat:=9000
noncomputable abbrev yO (w:World) (os:OsState):=LT.ran PRG w 11 (some (.ref 6)) NN (LT.boot w.params os) (topStub PRG)
noncomputable abbrev pC (P:Params) (s:SharedT):Bool:=staticsOk (Fast.tw5923862056798008813 PRG.main.body) (boot_heap P) s.abs.heap && namesBound PRG s.abs.heap && gensDone s.abs && laidKept (boot_heap P) s.abs.heap
noncomputable abbrev BC (s:SharedT):=Fast.tw4187177175401517315 view loose (Fast.tw5923862056798008813 PRG.main.body) xt true s.abs
noncomputable abbrev rS:=openGood view loose
abbrev xM (w:World) (os:OsState):Prop:=(yO w os).map (fun s=>LT.lot1 (BC s)) = some (rS.1,rS.2.1,rS.2.2.1)
abbrev xN (w:World) (os:OsState):Prop:=(yO w os).map (fun s=>LT.lot2 (BC s)) = some (rS.2.2.2.1,rS.2.2.2.2.1,rS.2.2.2.2.2.2)
abbrev xO (w:World) (os:OsState):Prop:=(yO w os).map (fun s=>LT.lot3 (BC s)) = some rS.2.2.2.2.2.1
abbrev xP (w:World) (os:OsState):Prop:=(yO w os).map (fun s=>(pC w.params s,Hook.obs hk s.abs)) = some (true,Hook.val hk w)
set_option maxHeartbeats 0 in
theorem ra1:∀ (w:World) (os:OsState),xM (w.withFollow "special-get-raises" false) os:=fun w os=>by unfold xM; kernel_rfl
set_option maxHeartbeats 0 in
theorem rb1:∀ (w:World) (os:OsState),xM (w.withFollow "special-get-raises" true) os:=fun w os=>by unfold xM; kernel_rfl
set_option maxHeartbeats 0 in
theorem ra2:∀ (w:World) (os:OsState),xN (w.withFollow "special-get-raises" false) os:=fun w os=>by unfold xN; kernel_rfl
set_option maxHeartbeats 0 in
theorem rb2:∀ (w:World) (os:OsState),xN (w.withFollow "special-get-raises" true) os:=fun w os=>by unfold xN; kernel_rfl
set_option maxHeartbeats 0 in
theorem ra3:∀ (w:World) (os:OsState),xO (w.withFollow "special-get-raises" false) os:=fun w os=>by unfold xO; kernel_rfl
set_option maxHeartbeats 0 in
theorem rb3:∀ (w:World) (os:OsState),xO (w.withFollow "special-get-raises" true) os:=fun w os=>by unfold xO; kernel_rfl
set_option maxHeartbeats 0 in
theorem ra4:∀ (w:World) (os:OsState),xP (w.withFollow "special-get-raises" false) os:=fun w os=>by unfold xP; kernel_rfl
set_option maxHeartbeats 0 in
theorem rb4:∀ (w:World) (os:OsState),xP (w.withFollow "special-get-raises" true) os:=fun w os=>by unfold xP; kernel_rfl
theorem left:LeftO PRG view loose xt (Hook.obs hk) (Hook.val hk) NN :=
  LT.left (by rfl) (by decide) (fun s=>by rfl) fun w os=>LT.lots (byRow2 "special-get-raises" (P:=fun w=>xM w os) (fun w=>ra1 w os) (fun w=>rb1 w os) w) (byRow2 "special-get-raises" (P:=fun w=>xN w os) (fun w=>ra2 w os) (fun w=>rb2 w os) w) (byRow2 "special-get-raises" (P:=fun w=>xO w os) (fun w=>ra3 w os) (fun w=>rb3 w os) w) (byRow2 "special-get-raises" (P:=fun w=>xP w os) (fun w=>ra4 w os) (fun w=>rb4 w os) w)
end My
end
namespace My
open PySem L2 PyProof.Rows
section
variable {P:Program} {w:World} {K:PySem.W.Frag} {mg:Str→Option Value} {base:Heap} {k:Nat}
theorem xc (vs:List V) (H:Hp) (Q:VK) (E:XK):¬ mI K 0 vs H Q E:=fun ⟨a,t,ns,room,p,q,c,_,_,_,_,_,_,_,h,_⟩=>by omega
theorem uS (vs:List V) (H:Hp) (Q:VK) (E:XK):¬ iz K (iA 0) vs H Q E:=fun ⟨ds,es,_,⟨x,k,_,_,h,_⟩,_⟩=>nomatch h
theorem w9 (vs:List V) (H:Hp) (Q:VK) (E:XK):¬ spD K (zY 0) vs H Q E:=fun ⟨ds,es,_,h,_⟩=>h
theorem uT (vs:List V) (H:Hp) (Q:VK) (E:XK):¬ iz K (jV 0) vs H Q E:=fun ⟨ds,es,_,⟨t,_,_,h,_⟩,_⟩=>by have:=j6 t; omega
theorem zi (vs:List V) (H:Hp) (Q:VK) (E:XK):¬ mG K (mQ 0) vs H Q E:=fun ⟨as,es,_,⟨ps,t,c,_,_,_,_,_,h,_⟩,_⟩=>h
theorem uR (vs:List V) (H:Hp) (Q:VK) (E:XK):¬ spA K (fN 0) vs H Q E:=fun ⟨as,d,_,h,_⟩=>uQ as d h
theorem zd (vs:List V) (H:Hp) (Q:VK) (E:XK):¬ spA K (pH 0) vs H Q E:=fun ⟨as,d,_,h,_⟩=>y0 as d h
theorem chain (T:Txt P w K mg):FnOk P w K mg base CX0 24 T.JK T.JW ["_law_script"] (rf K):=by
  have w1:=qN (P:=P) (w:=w) (base:=base) (k:=0) T
  have g1:=oS (P:=P) (w:=w) (base:=base) (k:=0) T
  have n2:=sj (k:=1) T g1 w1
  have wi:=kT (P:=P) (w:=w) (base:=base) (k:=0) T
  have it:=sk (k:=2) T n2 (wi.mono (by decide))
  have nt:=oX (k:=3) T it
  have wk:∀ n:Nat,FnOk P w K mg base CX0 (n + 1) T.Gm T.Gx ["tree"] (iz K (jV n)):=by
    intro n
    induction n with
    | zero=>exact eL uT
    | succ n ih=>exact uX (k:=n + 1) T (wi.mono (by omega)) ih
  have nm:=si (P:=P) (w:=w) (base:=base) (k:=0) T
  have mk:=sf (k:=1) T g1 w1
  have pp:∀ n:Nat,FnOk P w K mg base CX0 (n + 3) T.Da T.Dc ["thing","deep"] (spD K (Rpp n)):=by
    intro n
    induction n with
    | zero=>exact fR (k:=2) (n:=0) T mk n2 (wi.mono (by decide)) (eL w9)
    | succ n ih=>exact fR (k:=n + 3) (n:=n + 1) T (mk.mono (by omega)) (n2.mono (by omega)) (wi.mono (by omega)) ih
  have ma:∀ n:Nat,FnOk P w K mg base CX0 (n + 1) T.Er T.Ex ["pattern","kind"] (iz K (iA n)):=by
    intro n
    induction n with
    | zero=>exact eL uS
    | succ n ih=>exact qO (k:=n + 1) T (wi.mono (by omega)) ih
  have nu:=mj (k:=4) T (ma 3)
  have pa:=mZ (k:=6) T (pp 3) (nu.mono (by decide))
  have fi:=mY (k:=4) T (g1.mono (by decide)) (ma 3) (w1.mono (by decide))
  have ce:=r9 (k:=5) T (w1.mono (by decide)) fi
  have ins:=jH (P:=P) (w:=w) (base:=base) (k:=0) T
  have ai:=i5 (k:=6) T (w1.mono (by decide)) (ins.mono (by decide)) ce
  have pc:=qM (k:=7) T (nm.mono (by decide)) pa ai
  have ms:=kn (P:=P) (w:=w) (base:=base) (k:=0) T
  have mt:∀ n:Nat,FnOk P w K mg base CX0 (n + 1) T.Fk T.Fl ["pattern","tree","found"] (iP K oD n):=by
    intro n
    induction n with
    | zero=>exact eL tP
    | succ n ih=>exact sr (k:=n + 1) T (ms.mono (by omega)) ih
  have fo:=qL (k:=4) T (mt 3)
  have lf:∀ n:Nat,FnOk P w K mg base CX0 n T.Em T.Et ["_law_pattern","_law_tree_here","_law_found"] (iP K oL n):=by
    intro n
    induction n with
    | zero=>exact eL tP
    | succ n ih=>exact qH (k:=n) T ih
  have jo:=oU (P:=P) (w:=w) (base:=base) (k:=0) T
  have jp:=km (k:=1) T jo
  have wo:=su (k:=5) T fo
  have lb:=oV (k:=2) T jp
  have bw:=kS (k:=6) T wo (lb.mono (by decide))
  have bc:=kj (k:=9) T (wk 8) (bw.mono (by decide))
  have st:=uW (k:=9) T (pc.mono (by decide))
  have ns:=qP (k:=10) T st
  have lo:=oW (k:=11) T (nt.mono (by decide)) ns (bc.mono (by decide))
  have co:=qK (k:=11) T (nt.mono (by decide)) ns (bc.mono (by decide))
  have cv:∀ n:Nat,FnOk P w K mg base CX0 (2 * n + 6) T.Dp T.Dq ["tree","some","thing"] (spA K (pH n)):=by
    intro n
    induction n with
    | zero=>exact eL zd
    | succ n ih =>
      have ar:=jG (k:=2 * n + 6) T ih
      exact kl (k:=2 * n + 7) T (g1.mono (by omega)) (wo.mono (by omega)) ar
  have ic:=mi (k:=22) T (nt.mono (by decide)) (ns.mono (by decide)) (cv 8)
  have ov:=oP (P:=P) (w:=w) (base:=base) (k:=0) T
  have ju:=oO (P:=P) (w:=w) (base:=base) (k:=0) T
  have fl:=oN (P:=P) (w:=w) (base:=base) (k:=0) T
  have le:∀ n:Nat,FnOk P w K mg base CX0 (n + 3) T.D5 T.D7 ["_law_tree_here","_law_some"] (spA K (fN n)):=by
    intro n
    induction n with
    | zero=>exact eL uR
    | succ n ih=>exact mW (k:=n + 3) T ih (ov.mono (by omega)) ((lf 3).mono (by omega))
  have la:∀ n:Nat,FnOk P w K mg base CX0 (n + 3) T.EV T.EX ["_law_tree_here","_law_some","_law_cover"] (mG K (mQ n)):=by
    intro n
    induction n with
    | zero=>exact eL zi
    | succ n ih=>exact qI (k:=n + 3) T ih (ju.mono (by omega)) ((lf 3).mono (by omega)) (fl.mono (by omega))
  have wh:=mX (P:=P) (w:=w) (base:=base) (k:=11) T
  have ak:=qG (k:=12) T lo co wh
  have lp:=mh (P:=P) (w:=w) (base:=base) (k:=0) T
  have dr:=oM (P:=P) (w:=w) (base:=base) (k:=0) T
  have pk:=oQ (k:=1) T dr
  have tr:∀ n:Nat,FnOk P w K mg base CX0 (n + 2) T.Eo T.Eu ["_law_script","_law_town","_law_room"] (mI K n):=by
    intro n
    induction n with
    | zero=>exact eL xc
    | succ n ih=>exact oR (k:=n + 2) T (dr.mono (by omega)) (pk.mono (by omega)) ih
  have ls:=qJ (k:=1) T (lp.mono (by decide)) (dr.mono (by decide))
  exact A9 (k:=23) T ((tr 6).mono (by decide)) (ls.mono (by decide)) (dr.mono (by decide)) ((le 8).mono (by decide)) (ak.mono (by decide)) ((la 8).mono (by decide)) ic
end
abbrev NsD (K:PySem.W.Frag) (n:Str) (f:Addr):Prop:=PySem.W.nsIn K mainGlobals n = some (some (.ref f))
abbrev LkD (K:PySem.W.Frag) (n:Str) (st:Stmt) (f:Addr) (oc:Value) (od:Option Addr) (sl:Array (Option Value)) (kV dc pm:Value) (an:Option Addr) (cd ct:Value):Prop:=K.lookup f = some ⟨oc,od,.func (PySem.W.fnOf n n (jz st) (gb st) (aw st) .none kV dc pm an cd ct),sl⟩
theorem all_mk {l:PySem.W.OpenLaw} {w:World} {K:PySem.W.Frag} {h:Heap} {mg:Str→Option Value} {fa:Addr} (X:K.In h) (G:h.Ns mainGlobals mg) (hfa:mg "law" = some (.ref fa))
    {f1 f2 f3 f4 f5 f6 f7 f8 f9 f10 f11 f12 f13 f14 f15 f16 f17 f18 f19 f20 f21 f22 f23 f24 f25 f26 f27 f28 f29 f30 f31 f32 f33 f34 f35 f36 f37 f38 f39 f40 f41 f42 f43 f44 f45 f46 f47 f48:Addr} {od1 od2 od3 od4 od5 od6 od7 od8 od9 od10 od11 od12 od13 od14 od15 od16 od17 od18 od19 od20 od21 od22 od23 od24 od25 od26 od27 od28 od29 od30 od31 od32 od33 od34 od35 od36 od37 od38 od39 od40 od41 od42 od43 od44 od45 od46 od47 od48 an1 an2 an3 an4 an5 an6 an7 an8 an9 an10 an11 an12 an13 an14 an15 an16 an17 an18 an19 an20 an21 an22 an23 an24 an25 an26 an27 an28 an29 an30 an31 an32 an33 an34 an35 an36 an37 an38 an39 an40 an41 an42 an43 an44 an45 an46 an47 an48:Option Addr} {sl1 sl2 sl3 sl4 sl5 sl6 sl7 sl8 sl9 sl10 sl11 sl12 sl13 sl14 sl15 sl16 sl17 sl18 sl19 sl20 sl21 sl22 sl23 sl24 sl25 sl26 sl27 sl28 sl29 sl30 sl31 sl32 sl33 sl34 sl35 sl36 sl37 sl38 sl39 sl40 sl41 sl42 sl43 sl44 sl45 sl46 sl47 sl48:Array (Option Value)} {oc1 oc2 oc3 oc4 oc5 oc6 oc7 oc8 oc9 oc10 oc11 oc12 oc13 oc14 oc15 oc16 oc17 oc18 oc19 oc20 oc21 oc22 oc23 oc24 oc25 oc26 oc27 oc28 oc29 oc30 oc31 oc32 oc33 oc34 oc35 oc36 oc37 oc38 oc39 oc40 oc41 oc42 oc43 oc44 oc45 oc46 oc47 oc48 kV1 kV2 kV3 kV4 kV5 kV6 kV7 kV8 kV9 kV10 kV11 kV12 kV13 kV14 kV15 kV16 kV17 kV18 kV19 kV20 kV21 kV22 kV23 kV24 kV25 kV26 kV27 kV28 kV29 kV30 kV31 kV32 kV33 kV34 kV35 kV36 kV37 kV38 kV39 kV40 kV41 kV42 kV43 kV44 kV45 kV46 kV47 kV48 dc1 dc2 dc3 dc4 dc5 dc6 dc7 dc8 dc9 dc10 dc11 dc12 dc13 dc14 dc15 dc16 dc17 dc18 dc19 dc20 dc21 dc22 dc23 dc24 dc25 dc26 dc27 dc28 dc29 dc30 dc31 dc32 dc33 dc34 dc35 dc36 dc37 dc38 dc39 dc40 dc41 dc42 dc43 dc44 dc45 dc46 dc47 dc48 pm1 pm2 pm3 pm4 pm5 pm6 pm7 pm8 pm9 pm10 pm11 pm12 pm13 pm14 pm15 pm16 pm17 pm18 pm19 pm20 pm21 pm22 pm23 pm24 pm25 pm26 pm27 pm28 pm29 pm30 pm31 pm32 pm33 pm34 pm35 pm36 pm37 pm38 pm39 pm40 pm41 pm42 pm43 pm44 pm45 pm46 pm47 pm48 cd1 cd2 cd3 cd4 cd5 cd6 cd7 cd8 cd9 cd10 cd11 cd12 cd13 cd14 cd15 cd16 cd17 cd18 cd19 cd20 cd21 cd22 cd23 cd24 cd25 cd26 cd27 cd28 cd29 cd30 cd31 cd32 cd33 cd34 cd35 cd36 cd37 cd38 cd39 cd40 cd41 cd42 cd43 cd44 cd45 cd46 cd47 cd48 ct1 ct2 ct3 ct4 ct5 ct6 ct7 ct8 ct9 ct10 ct11 ct12 ct13 ct14 ct15 ct16 ct17 ct18 ct19 ct20 ct21 ct22 ct23 ct24 ct25 ct26 ct27 ct28 ct29 ct30 ct31 ct32 ct33 ct34 ct35 ct36 ct37 ct38 ct39 ct40 ct41 ct42 ct43 ct44 ct45 ct46 ct47 ct48:Value}
    {Fi:Tok}
    {FS:Tok}
    {EC:Tok}
    {FR:Tok}
    {Dr:Tok}
    {GE:Tok}
    {DJ:Tok}
    {ES:Tok}
    {FT:Tok}
    {Fh:Tok}
    {Gq:Addr}
    {Fb:Addr}
    {DV:Addr}
    {GK:Addr}
    {Gp:Addr}
    {Ig:Addr}
    {Jx:Addr}
    {IX:Addr}
    {Jy:Addr}
    {ob_MARK_LENGTHS:Obj}
    {Hj:Addr}
    {Jc:Addr}
    {Jd:Addr}
    {IZ:Addr}
    {Ja:Addr}
    {ID:Addr}
    {JR:Addr}
    {IC:Addr}
    {JA:Addr}
    {C2:Addr}
    {IB:Addr}
    {Jb:Addr}
    {JB:Addr}
    {Jz:Addr}
    {IY:Addr}
    (a1:NsD K "is_whole" f1) (l1:LkD K "is_whole" ij f1 oc1 od1 sl1 kV1 dc1 pm1 an1 cd1 ct1) (c1:PySem.W.codeIn K cd1 "is_whole" = true) (k1:PySem.W.keepIn K (.ref f1) = true)
    (a2:NsD K "is_tagged" f2) (l2:LkD K "is_tagged" gw f2 oc2 od2 sl2 kV2 dc2 pm2 an2 cd2 ct2) (c2:PySem.W.codeIn K cd2 "is_tagged" = true) (k2:PySem.W.keepIn K (.ref f2) = true)
    (a3:NsD K "is_node" f3) (l3:LkD K "is_node" iY f3 oc3 od3 sl3 kV3 dc3 pm3 an3 cd3 ct3) (c3:PySem.W.codeIn K cd3 "is_node" = true) (k3:PySem.W.keepIn K (.ref f3) = true)
    (a4:NsD K "trees_within" f4) (l4:LkD K "trees_within" eQ f4 oc4 od4 sl4 kV4 dc4 pm4 an4 cd4 ct4) (c4:PySem.W.codeIn K cd4 "trees_within" = true) (k4:PySem.W.keepIn K (.ref f4) = true)
    (a5:NsD K "is_tree" f5) (l5:LkD K "is_tree" gO f5 oc5 od5 sl5 kV5 dc5 pm5 an5 cd5 ct5) (c5:PySem.W.codeIn K cd5 "is_tree" = true) (k5:PySem.W.keepIn K (.ref f5) = true)
    (a6:NsD K "need_tree" f6) (l6:LkD K "need_tree" gA f6 oc6 od6 sl6 kV6 dc6 pm6 an6 cd6 ct6) (c6:PySem.W.codeIn K cd6 "need_tree" = true) (k6:PySem.W.keepIn K (.ref f6) = true)
    (a7:NsD K "walked" f7) (l7:LkD K "walked" jP f7 oc7 od7 sl7 kV7 dc7 pm7 an7 cd7 ct7) (c7:PySem.W.codeIn K cd7 "walked" = true) (k7:PySem.W.keepIn K (.ref f7) = true)
    (a8:NsD K "is_name" f8) (l8:LkD K "is_name" gM f8 oc8 od8 sl8 kV8 dc8 pm8 an8 cd8 ct8) (c8:PySem.W.codeIn K cd8 "is_name" = true) (k8:PySem.W.keepIn K (.ref f8) = true)
    (a9:NsD K "instruction_at" f9) (l9:LkD K "instruction_at" dR f9 oc9 od9 sl9 kV9 dc9 pm9 an9 cd9 ct9) (c9:PySem.W.codeIn K cd9 "instruction_at" = true) (k9:PySem.W.keepIn K (.ref f9) = true)
    (a10:NsD K "is_mark" f10) (l10:LkD K "is_mark" iX f10 oc10 od10 sl10 kV10 dc10 pm10 an10 cd10 ct10) (c10:PySem.W.codeIn K cd10 "is_mark" = true) (k10:PySem.W.keepIn K (.ref f10) = true)
    (a11:NsD K "is_pattern_part" f11) (l11:LkD K "is_pattern_part" cK f11 oc11 od11 sl11 kV11 dc11 pm11 an11 cd11 ct11) (c11:PySem.W.codeIn K cd11 "is_pattern_part" = true) (k11:PySem.W.keepIn K (.ref f11) = true)
    (a12:NsD K "marks_in" f12) (l12:LkD K "marks_in" ik f12 oc12 od12 sl12 kV12 dc12 pm12 an12 cd12 ct12) (c12:PySem.W.codeIn K cd12 "marks_in" = true) (k12:PySem.W.keepIn K (.ref f12) = true)
    (a13:NsD K "is_numbered" f13) (l13:LkD K "is_numbered" d6 f13 oc13 od13 sl13 kV13 dc13 pm13 an13 cd13 ct13) (c13:PySem.W.codeIn K cd13 "is_numbered" = true) (k13:PySem.W.keepIn K (.ref f13) = true)
    (a14:NsD K "is_pattern" f14) (l14:LkD K "is_pattern" eP f14 oc14 od14 sl14 kV14 dc14 pm14 an14 cd14 ct14) (c14:PySem.W.codeIn K cd14 "is_pattern" = true) (k14:PySem.W.keepIn K (.ref f14) = true)
    (a15:NsD K "is_filling" f15) (l15:LkD K "is_filling" fJ f15 oc15 od15 sl15 kV15 dc15 pm15 an15 cd15 ct15) (c15:PySem.W.codeIn K cd15 "is_filling" = true) (k15:PySem.W.keepIn K (.ref f15) = true)
    (a16:NsD K "is_cell" f16) (l16:LkD K "is_cell" iW f16 oc16 od16 sl16 kV16 dc16 pm16 an16 cd16 ct16) (c16:PySem.W.codeIn K cd16 "is_cell" = true) (k16:PySem.W.keepIn K (.ref f16) = true)
    (a17:NsD K "are_instructions" f17) (l17:LkD K "are_instructions" cz f17 oc17 od17 sl17 kV17 dc17 pm17 an17 cd17 ct17) (c17:PySem.W.codeIn K cd17 "are_instructions" = true) (k17:PySem.W.keepIn K (.ref f17) = true)
    (a18:NsD K "is_piece" f18) (l18:LkD K "is_piece" ig f18 oc18 od18 sl18 kV18 dc18 pm18 an18 cd18 ct18) (c18:PySem.W.codeIn K cd18 "is_piece" = true) (k18:PySem.W.keepIn K (.ref f18) = true)
    (a19:NsD K "is_set" f19) (l19:LkD K "is_set" gN f19 oc19 od19 sl19 kV19 dc19 pm19 an19 cd19 ct19) (c19:PySem.W.codeIn K cd19 "is_set" = true) (k19:PySem.W.keepIn K (.ref f19) = true)
    (a20:NsD K "need_set" f20) (l20:LkD K "need_set" ip f20 oc20 od20 sl20 kV20 dc20 pm20 an20 cd20 ct20) (c20:PySem.W.codeIn K cd20 "need_set" = true) (k20:PySem.W.keepIn K (.ref f20) = true)
    (a21:NsD K "may_stand_for" f21) (l21:LkD K "may_stand_for" eE f21 oc21 od21 sl21 kV21 dc21 pm21 an21 cd21 ct21) (c21:PySem.W.codeIn K cd21 "may_stand_for" = true) (k21:PySem.W.keepIn K (.ref f21) = true)
    (a22:NsD K "matches" f22) (l22:LkD K "matches" iZ f22 oc22 od22 sl22 kV22 dc22 pm22 an22 cd22 ct22) (c22:PySem.W.codeIn K cd22 "matches" = true) (k22:PySem.W.keepIn K (.ref f22) = true)
    (a23:NsD K "found_in" f23) (l23:LkD K "found_in" ie f23 oc23 od23 sl23 kV23 dc23 pm23 an23 cd23 ct23) (c23:PySem.W.codeIn K cd23 "found_in" = true) (k23:PySem.W.keepIn K (.ref f23) = true)
    (a24:NsD K "jump_over" f24) (l24:LkD K "jump_over" gx f24 oc24 od24 sl24 kV24 dc24 pm24 an24 cd24 ct24) (c24:PySem.W.codeIn K cd24 "jump_over" = true) (k24:PySem.W.keepIn K (.ref f24) = true)
    (a25:NsD K "jumps_of_pick" f25) (l25:LkD K "jumps_of_pick" eB f25 oc25 od25 sl25 kV25 dc25 pm25 an25 cd25 ct25) (c25:PySem.W.codeIn K cd25 "jumps_of_pick" = true) (k25:PySem.W.keepIn K (.ref f25) = true)
    (a26:NsD K "ways_of" f26) (l26:LkD K "ways_of" i0 f26 oc26 od26 sl26 kV26 dc26 pm26 an26 cd26 ct26) (c26:PySem.W.codeIn K cd26 "ways_of" = true) (k26:PySem.W.keepIn K (.ref f26) = true)
    (a27:NsD K "length_by" f27) (l27:LkD K "length_by" gy f27 oc27 od27 sl27 kV27 dc27 pm27 an27 cd27 ct27) (c27:PySem.W.codeIn K cd27 "length_by" = true) (k27:PySem.W.keepIn K (.ref f27) = true)
    (a28:NsD K "best_by_ways" f28) (l28:LkD K "best_by_ways" b9 f28 oc28 od28 sl28 kV28 dc28 pm28 an28 cd28 ct28) (c28:PySem.W.codeIn K cd28 "best_by_ways" = true) (k28:PySem.W.keepIn K (.ref f28) = true)
    (a29:NsD K "best_covering" f29) (l29:LkD K "best_covering" d9 f29 oc29 od29 sl29 kV29 dc29 pm29 an29 cd29 ct29) (c29:PySem.W.codeIn K cd29 "best_covering" = true) (k29:PySem.W.keepIn K (.ref f29) = true)
    (a30:NsD K "length_of" f30) (l30:LkD K "length_of" gz f30 oc30 od30 sl30 kV30 dc30 pm30 an30 cd30 ct30) (c30:PySem.W.codeIn K cd30 "length_of" = true) (k30:PySem.W.keepIn K (.ref f30) = true)
    (a31:NsD K "is_covered_by" f31) (l31:LkD K "is_covered_by" eA f31 oc31 od31 sl31 kV31 dc31 pm31 an31 cd31 ct31) (c31:PySem.W.codeIn K cd31 "is_covered_by" = true) (k31:PySem.W.keepIn K (.ref f31) = true)
    (a32:NsD K "are_covered_by" f32) (l32:LkD K "are_covered_by" di f32 oc32 od32 sl32 kV32 dc32 pm32 an32 cd32 ct32) (c32:PySem.W.codeIn K cd32 "are_covered_by" = true) (k32:PySem.W.keepIn K (.ref f32) = true)
    (a33:NsD K "covering" f33) (l33:LkD K "covering" ib f33 oc33 od33 sl33 kV33 dc33 pm33 an33 cd33 ct33) (c33:PySem.W.codeIn K cd33 "covering" = true) (k33:PySem.W.keepIn K (.ref f33) = true)
    (a34:NsD K "is_covering" f34) (l34:LkD K "is_covering" fj f34 oc34 od34 sl34 kV34 dc34 pm34 an34 cd34 ct34) (c34:PySem.W.codeIn K cd34 "is_covering" = true) (k34:PySem.W.keepIn K (.ref f34) = true)
    (a35:NsD K "_law_draw" f35) (l35:LkD K "_law_draw" gn f35 oc35 od35 sl35 kV35 dc35 pm35 an35 cd35 ct35) (c35:PySem.W.codeIn K cd35 "_law_draw" = true) (k35:PySem.W.keepIn K (.ref f35) = true)
    (a36:NsD K "_law_pick" f36) (l36:LkD K "_law_pick" gv f36 oc36 od36 sl36 kV36 dc36 pm36 an36 cd36 ct36) (c36:PySem.W.codeIn K cd36 "_law_pick" = true) (k36:PySem.W.keepIn K (.ref f36) = true)
    (a37:NsD K "_law_tree" f37) (l37:LkD K "_law_tree" fu f37 oc37 od37 sl37 kV37 dc37 pm37 an37 cd37 ct37) (c37:PySem.W.codeIn K cd37 "_law_tree" = true) (k37:PySem.W.keepIn K (.ref f37) = true)
    (a38:NsD K "_law_pieces" f38) (l38:LkD K "_law_pieces" fh f38 oc38 od38 sl38 kV38 dc38 pm38 an38 cd38 ct38) (c38:PySem.W.codeIn K cd38 "_law_pieces" = true) (k38:PySem.W.keepIn K (.ref f38) = true)
    (a39:NsD K "_law_set" f39) (l39:LkD K "_law_set" fS f39 oc39 od39 sl39 kV39 dc39 pm39 an39 cd39 ct39) (c39:PySem.W.codeIn K cd39 "_law_set" = true) (k39:PySem.W.keepIn K (.ref f39) = true)
    (a40:NsD K "_law_fit" f40) (l40:LkD K "_law_fit" ia f40 oc40 od40 sl40 kV40 dc40 pm40 an40 cd40 ct40) (c40:PySem.W.codeIn K cd40 "_law_fit" = true) (k40:PySem.W.keepIn K (.ref f40) = true)
    (a41:NsD K "_law_over" f41) (l41:LkD K "_law_over" gu f41 oc41 od41 sl41 kV41 dc41 pm41 an41 cd41 ct41) (c41:PySem.W.codeIn K cd41 "_law_over" = true) (k41:PySem.W.keepIn K (.ref f41) = true)
    (a42:NsD K "_law_least" f42) (l42:LkD K "_law_least" dQ f42 oc42 od42 sl42 kV42 dc42 pm42 an42 cd42 ct42) (c42:PySem.W.codeIn K cd42 "_law_least" = true) (k42:PySem.W.keepIn K (.ref f42) = true)
    (a43:NsD K "_law_jump" f43) (l43:LkD K "_law_jump" gr f43 oc43 od43 sl43 kV43 dc43 pm43 an43 cd43 ct43) (c43:PySem.W.codeIn K cd43 "_law_jump" = true) (k43:PySem.W.keepIn K (.ref f43) = true)
    (a44:NsD K "_law_fill" f44) (l44:LkD K "_law_fill" gq f44 oc44 od44 sl44 kV44 dc44 pm44 an44 cd44 ct44) (c44:PySem.W.codeIn K cd44 "_law_fill" = true) (k44:PySem.W.keepIn K (.ref f44) = true)
    (a45:NsD K "_law_lay" f45) (l45:LkD K "_law_lay" eI f45 oc45 od45 sl45 kV45 dc45 pm45 an45 cd45 ct45) (c45:PySem.W.codeIn K cd45 "_law_lay" = true) (k45:PySem.W.keepIn K (.ref f45) = true)
    (a46:NsD K "_law_which" f46) (l46:LkD K "_law_which" fH f46 oc46 od46 sl46 kV46 dc46 pm46 an46 cd46 ct46) (c46:PySem.W.codeIn K cd46 "_law_which" = true) (k46:PySem.W.keepIn K (.ref f46) = true)
    (a47:NsD K "_law_ask" f47) (l47:LkD K "_law_ask" h9 f47 oc47 od47 sl47 kV47 dc47 pm47 an47 cd47 ct47) (c47:PySem.W.codeIn K cd47 "_law_ask" = true) (k47:PySem.W.keepIn K (.ref f47) = true)
    (a48:NsD K "law" f48) (l48:LkD K "law" rd f48 oc48 od48 sl48 kV48 dc48 pm48 an48 cd48 ct48) (c48:PySem.W.codeIn K cd48 "law" = true) (k48:PySem.W.keepIn K (.ref f48) = true)
    (EH:PySem.W.nsIn K mainGlobals "MOST_PARTS" = some (some (.int 40 Fi)))
    (E4:PySem.W.nsIn K mainGlobals "MOST_DEEP" = some (some (.int 8 FS)))
    (DY:PySem.W.nsIn K mainGlobals "LONGEST_NAME" = some (some (.int 8 EC)))
    (EA:PySem.W.nsIn K mainGlobals "MOST_CELL" = some (some (.int 99 FR)))
    (Dd:PySem.W.nsIn K mainGlobals "MOST_PATTERN_DEEP" = some (some (.int 3 Dr)))
    (Fq:PySem.W.nsIn K mainGlobals "MOST_GAP" = some (some (.int 9999 GE)))
    (Dg:PySem.W.nsIn K mainGlobals "MOST_PIECE_CELLS" = some (some (.int 12 DJ)))
    (Eh:PySem.W.nsIn K mainGlobals "MOST_PIECES" = some (some (.int 16 ES)))
    (E5:PySem.W.nsIn K mainGlobals "MOST_NEAR" = some (some (.int 9 FT)))
    (EG:PySem.W.nsIn K mainGlobals "CALL_CELLS" = some (some (.int 3 Fh)))
    (DH:PySem.W.nsIn K mainGlobals "MOST_IN_LEAF" = some (some (.ref Gq))) (DI:KTD.tabLook (KTD.datLooks fun b=>K.lookup b) (fun b=>K.lookup b) Gq TL = true)
    (C6:PySem.W.nsIn K mainGlobals "TREES_IN_BRANCH" = some (some (.ref Fb))) (C7:KTD.tabLook (KTD.datLooks fun b=>K.lookup b) (fun b=>K.lookup b) Fb TB = true)
    (Dj:PySem.W.nsIn K mainGlobals "MARK_LENGTHS" = some (some (.ref DV))) (C5:KTD.tabLook (KTD.datLooks fun b=>K.lookup b) (fun b=>K.lookup b) DV TM = true)
    (DR:PySem.W.nsIn K mainGlobals "FILLED_FROM" = some (some (.ref GK))) (DS:KTD.tabLook (KTD.datLooks fun b=>K.lookup b) (fun b=>K.lookup b) GK TF = true)
    (DG:PySem.W.nsIn K mainGlobals "INSTRUCTIONS" = some (some (.ref Gp))) (GF:eT K (.tup INS) (.ref Gp) = true)
    (Ft:PySem.W.nsIn K mainGlobals "STRAIGHT" = some (some (.ref Ig))) (Ih:eT K (.tup STR) (.ref Ig) = true)
    (HV:PySem.W.nsIn K mainGlobals "AHEAD" = some (some (.ref Jx))) (JD:eT K (.tup AHE) (.ref Jx) = true)
    (GY:PySem.W.nsIn K mainGlobals "BEHIND" = some (some (.ref IX))) (Jl:eT K (.tup BEH) (.ref IX) = true)
    (Ho:PySem.W.nsIn K mainGlobals "BASIC" = some (some (.ref Jy))) (JE:lW K BAS Jy = true)
    (GC:K.lookup DV = some ob_MARK_LENGTHS) (Gy:KTD.tabLook KTD.flatLooks (fun b=>K.lookup b) DV ([("hole",.int 2),("gap",.int 3),("slot",.int 2)]:List (Str × PyData)) = true) (GD:KTD.hashesOf (fun b=>K.lookup b) DV = ([("hole",.int 2),("gap",.int 3),("slot",.int 2)]:List (Str × PyData)).map fun p=>(PySem.strKind l.prog w).hash p.1)
    (EI:PySem.W.nsIn K mainGlobals "PieceError" = some (some (.ref Hj)))
    (Hb:PySem.W.nsIn K mainGlobals "NoSize" = some (some (.ref Jc)))
    (Hc:PySem.W.nsIn K mainGlobals "NoTree" = some (some (.ref Jd)))
    (G8:PySem.W.nsIn K mainGlobals "NoArgs" = some (some (.ref IZ)))
    (G9:PySem.W.nsIn K mainGlobals "NoCode" = some (some (.ref Ja)))
    (Gd:PySem.W.nsIn K mainGlobals "NoSteps" = some (some (.ref ID)))
    (IE:PySem.W.nsIn K mainGlobals "Late" = some (some (.ref JR)))
    (Gc:PySem.W.nsIn K mainGlobals "NoPiece" = some (some (.ref IC)))
    (HX:PySem.W.nsIn K mainGlobals "NoSet" = some (some (.ref JA)))
    (Fs:PySem.W.nsIn K mainGlobals "NoCover" = some (some (.ref C2)))
    (Gb:PySem.W.nsIn K mainGlobals "NoParts" = some (some (.ref IB)))
    (Ha:PySem.W.nsIn K mainGlobals "NoName" = some (some (.ref Jb)))
    (HY:PySem.W.nsIn K mainGlobals "Taken" = some (some (.ref JB)))
    (HW:PySem.W.nsIn K mainGlobals "Fault" = some (some (.ref Jz)))
    (GZ:PySem.W.nsIn K mainGlobals "Broken" = some (some (.ref IY)))
    (Ge:qa K C2 [.type "ValueError",.type "Exception",.type "BaseException",.type "object"] "ValueError.__new__" none = true) (C3:nV K C2)
    (C4:PySem.W.exmOne K (.ref C2) (.ref Hj) = some true)
    (Dz:PySem.W.kitOne K (.ref C2) (.ref Jc) = some false)
    (DA:PySem.W.kitOne K (.ref C2) (.ref Jd) = some false)
    (Dv:PySem.W.kitOne K (.ref C2) (.ref IZ) = some false)
    (Dw:PySem.W.kitOne K (.ref C2) (.ref Ja) = some false)
    (Do:PySem.W.kitOne K (.ref C2) (.ref ID) = some false)
    (DZ:PySem.W.kitOne K (.ref C2) (.ref JR) = some false)
    (Dn:PySem.W.kitOne K (.ref C2) (.ref IC) = some false)
    (DN:PySem.W.kitOne K (.ref C2) (.ref JA) = some false)
    (Dl:PySem.W.kitOne K (.ref C2) (.ref C2) = some true)
    (Dm:PySem.W.kitOne K (.ref C2) (.ref IB) = some false)
    (Dy:PySem.W.kitOne K (.ref C2) (.ref Jb) = some false)
    (DO:PySem.W.kitOne K (.ref C2) (.ref JB) = some false)
    (DM:PySem.W.kitOne K (.ref C2) (.ref Jz) = some false)
    (Du:PySem.W.kitOne K (.ref C2) (.ref IY) = some false)
    (C9:PySem.W.kitOne K (.ref C2) (.type "ValueError") = some true)
    (Kc:PySem.W.nsIn K mainGlobals "len" = some none)
    (Hu:PySem.W.nsIn K mainGlobals "isinstance" = some none)
    (Kb:PySem.W.nsIn K mainGlobals "int" = some none)
    (JT:PySem.W.nsIn K mainGlobals "bool" = some none)
    (Kf:PySem.W.nsIn K mainGlobals "str" = some none)
    (JG:PySem.W.nsIn K mainGlobals "tuple" = some none)
    (JU:PySem.W.nsIn K mainGlobals "list" = some none)
    (JF:PySem.W.nsIn K mainGlobals "range" = some none)
    (J9:PySem.W.nsIn K mainGlobals "all" = some none)
    (Ka:PySem.W.nsIn K mainGlobals "any" = some none)
    (Ke:PySem.W.nsIn K mainGlobals "set" = some none)
    (Kg:PySem.W.nsIn K mainGlobals "sum" = some none)
    (Ii:PySem.W.nsIn K mainGlobals "reversed" = some none)
    (Kh:PySem.W.nsIn K mainGlobals "zip" = some none)
    (Kd:PySem.W.nsIn K mainGlobals "min" = some none)
    (Ht:PySem.W.nsIn K mainGlobals "ValueError" = some none) :
    ∃ fd:FuncData,(∀ (s:Shared) (v:Value),BindsTo s fd ⟨[v],[]⟩ [("_law_script",v)])∧∀ base:Heap,K.In base→base.Ns mainGlobals mg→FnOk l.prog w K mg base CX0 24 fa fd ["_law_script"] (rf K):=by
  have M:∀ {n:Str} {v:Value},PySem.W.nsIn K mainGlobals n = some (some v)→mg n = some v:=PySem.W.mg_of X G
  have N:∀ {n:Str},PySem.W.nsIn K mainGlobals n = some none→mg n = none:=PySem.W.mg_none_of X G
  have e:=hfa.symm.trans (M a48)
  cases e
  let T:Txt l.prog w K mg :=
    { D6:=f1,D8:=_,Ea:=bo (st:=ij) l1 c1 k1,E2:=M a1,
      D1:=f2,D3:=_,Ez:=bo (st:=gw) l2 c2 k2,FQ:=M a2,
      F4:=f3,F8:=_,GW:=bo (st:=iY) l3 c3 k3,IF:=M a3,
      Dh:=f4,Di:=_,DF:=bo (st:=eQ) l4 c4 k4,EB:=M a4,
      GR:=f5,GV:=_,HU:=bo (st:=gO) l5 c5 k5,Js:=M a5,
      Es:=f6,Ey:=_,E3:=bo (st:=gA) l6 c6 k6,GJ:=M a6,
      Gm:=f7,Gx:=_,HG:=bo (st:=jP) l7 c7 k7,Ji:=M a7,
      GQ:=f8,GU:=_,HS:=bo (st:=gM) l8 c8 k8,Jr:=M a8,
      DU:=f9,DX:=_,EF:=bo (st:=dR) l9 c9 k9,He:=M a9,
      GP:=f10,GT:=_,HR:=bo (st:=iX) l10 c10 k10,Jq:=M a10,
      Da:=f11,Dc:=_,DP:=bo (st:=cK) l11 c11 k11,Fg:=M a11,
      Er:=f12,Ex:=_,Fo:=bo (st:=ik) l12 c12 k12,Hr:=M a12,
      EM:=f13,ER:=_,Fw:=bo (st:=d6) l13 c13 k13,Ic:=M a13,
      E9:=f14,Fe:=_,F1:=bo (st:=eP) l14 c14 k14,Iu:=M a14,
      E8:=f15,Fd:=_,F0:=bo (st:=fJ) l15 c15 k15,Ir:=M a15,
      GO:=f16,GS:=_,HQ:=bo (st:=iW) l16 c16 k16,Jp:=M a16,
      DD:=f17,DE:=_,D9:=bo (st:=cz) l17 c17 k17,GB:=M a17,
      Gk:=f18,Gw:=_,Hn:=bo (st:=ig) l18 c18 k18,Jh:=M a18,
      HE:=f19,HF:=_,Ip:=bo (st:=gN) l19 c19 k19,JM:=M a19,
      EW:=f20,EY:=_,Fp:=bo (st:=ip) l20 c20 k20,Hs:=M a20,
      Ec:=f21,Ee:=_,EU:=bo (st:=eE) l21 c21 k21,Hw:=M a21,
      Fk:=f22,Fl:=_,Ga:=bo (st:=iZ) l22 c22 k22,HZ:=M a22,
      Gj:=f23,Gv:=_,Hm:=bo (st:=ie) l23 c23 k23,Jg:=M a23,
      FC:=f24,FI:=_,FP:=bo (st:=gx) l24 c24 k24,HN:=M a24,
      Eb:=f25,Ed:=_,ET:=bo (st:=eB) l25 c25 k25,Hv:=M a25,
      F5:=f26,F9:=_,GX:=bo (st:=i0) l26 c26 k26,IG:=M a26,
      FD:=f27,FJ:=_,GH:=bo (st:=gy) l27 c27 k27,IM:=M a27,
      Ep:=f28,Ew:=_,Ff:=bo (st:=b9) l28 c28 k28,HM:=M a28,
      DK:=f29,DL:=_,Ef:=bo (st:=d9) l29 c29 k29,FW:=M a29,
      C8:=f30,FK:=_,GI:=bo (st:=gz) l30 c30 k30,IP:=M a30,
      Dp:=f31,Dq:=_,Eg:=bo (st:=eA) l31 c31 k31,FX:=M a31,
      DT:=f32,DW:=_,EE:=bo (st:=di) l32 c32 k32,Hd:=M a32,
      Df:=f33,Gu:=_,Hl:=bo (st:=ib) l33 c33 k33,Jf:=M a33,
      EL:=f34,EO:=_,Fv:=bo (st:=fj) l34 c34 k34,Ib:=M a34,
      D0:=f35,D2:=_,Dt:=bo (st:=gn) l35 c35 k35,D4:=M a35,
      FB:=f36,FH:=_,FN:=bo (st:=gv) l36 c36 k36,HK:=M a36,
      Eo:=f37,Eu:=_,FO:=bo (st:=fu) l37 c37 k37,HL:=M a37,
      EK:=f38,EN:=_,Fu:=bo (st:=fh) l38 c38 k38,Ia:=M a38,
      Gi:=f39,Gs:=_,Hk:=bo (st:=fS) l39 c39 k39,Je:=M a39,
      Em:=f40,Et:=_,E1:=bo (st:=ia) l40 c40 k40,GA:=M a40,
      FA:=f41,FG:=_,FM:=bo (st:=gu) l41 c41 k41,HJ:=M a41,
      D5:=f42,D7:=_,ED:=bo (st:=dQ) l42 c42 k42,F2:=M a42,
      Fz:=f43,FF:=_,FL:=bo (st:=gr) l43 c43 k43,HI:=M a43,
      Fy:=f44,FE:=_,GG:=bo (st:=gq) l44 c44 k44,IL:=M a44,
      EV:=f45,EX:=_,Fm:=bo (st:=eI) l45 c45 k45,Hq:=M a45,
      E7:=f46,Fc:=_,FZ:=bo (st:=fH) l46 c46 k46,Iq:=M a46,
      Gh:=f47,Gr:=_,EZ:=bo (st:=h9) l47 c47 k47,Gz:=M a47,
      JK:=fa,JW:=_,Ki:=bo (st:=rd) l48 c48 k48,Kn:=M a48,
      Fi:=Fi,EH:=M EH,
      FS:=FS,E4:=M E4,
      EC:=EC,DY:=M DY,
      FR:=FR,EA:=M EA,
      Dr:=Dr,Dd:=M Dd,
      GE:=GE,Fq:=M Fq,
      DJ:=DJ,Dg:=M Dg,
      ES:=ES,Eh:=M Eh,
      FT:=FT,E5:=M E5,
      Fh:=Fh,EG:=M EG,
      El:=Gq,DH:=M DH,DI:=fun h x=>PySem.W.kt_text_in x DI,
      Dk:=Fb,C6:=M C6,C7:=fun h x=>PySem.W.kt_text_in x C7,
      DC:=DV,Dj:=M Dj,C5:=fun h x=>PySem.W.kt_text_in x C5,
      EJ:=GK,DR:=M DR,DS:=fun h x=>PySem.W.kt_text_in x DS,
      Ek:=Gp,DG:=M DG,Gn:=GF,
      Hi:=Ig,Ft:=M Ft,IW:=Ih,
      IS:=Jx,HV:=M HV,JV:=JD,
      Ik:=IX,GY:=M GY,JL:=Jl,
      Ij:=Jy,Ho:=M Ho,Jw:=JE,
      HH:=⟨⟨_,GC⟩,fun h x=>⟨_,PySem.W.kt_tab_in l.prog w x Gy (by decide +kernel) GD,rfl⟩⟩,
      Hh:=Hj,EI:=M EI,
      HC:=Jc,Hb:=M Hb,
      HD:=Jd,Hc:=M Hc,
      Hz:=IZ,G8:=M G8,
      HA:=Ja,G9:=M G9,
      GN:=ID,Gd:=M Gd,
      IV:=JR,IE:=M IE,
      GM:=IC,Gc:=M Gc,
      Im:=JA,HX:=M HX,
      C0:=C2,Fs:=M Fs,
      GL:=IB,Gb:=M Gb,
      HB:=Jb,Ha:=M Ha,
      Io:=JB,HY:=M HY,
      Il:=Jz,HW:=M HW,
      Hy:=IY,GZ:=M GZ,
      Ge:=Ge,C3:=C3,
      C4:=C4,
      Dz:=Dz,
      DA:=DA,
      Dv:=Dv,
      Dw:=Dw,
      Do:=Do,
      DZ:=DZ,
      Dn:=Dn,
      DN:=DN,
      Dl:=Dl,
      Dm:=Dm,
      Dy:=Dy,
      DO:=DO,
      DM:=DM,
      Du:=Du,
      C9:=C9,
      De:=N Kc,
      C1:=N Hu,
      Kk:=N Kb,
      J4:=N JT,
      J7:=N Kf,
      Ei:=N JG,
      JS:=N JU,
      JC:=N JF,
      Jj:=N J9,
      Kj:=N Ka,
      Km:=N Ke,
      J8:=N Kg,
      Jk:=N Ii,
      JX:=N Kh,
      Kl:=N Kd,
      Iv:=N Ht }
  exact ⟨_,fun s v=>.of_eq rfl,fun base _ _=>chain T⟩
theorem walk {l:PySem.W.OpenLaw} {q:Program} {loose:List Str} {XP:(Str→Option Value)→Heap→Prop} {YP:World→Heap→Prop} {d:DefRec} {K:Params→PySem.W.Frag} (hn:l.most = some 63) (hdf:d.params.defaults = [])
    (hY:∀ (w:World) (h:Heap),YP w h→(K w.params).In h)
    (F:∀ (w:World) (mg:Str→Option Value) (fa:Addr) (h:Heap),(K w.params).In h→h.Ns mainGlobals mg→mg d.name = some (.ref fa) →
      ∃ fd:FuncData,(∀ (s:Shared) (u:Value),BindsTo s fd ⟨[u],[]⟩ [("_law_script",u)])∧∀ base:Heap,(K w.params).In base→base.Ns mainGlobals mg→FnOk l.prog w (K w.params) mg base CX0 24 fa fd ["_law_script"] (rf (K w.params))) :
    PySem.W.WalkO q loose XP YP l.row.toRowW d [] (fun f vs=>PySem.call f vs) :=
  L2.walk_of (n:=63) (k:=24) (x:="_law_script") (CX:=fun _=>CX0) (sp:=fun w=>rf (K w.params)) hn (by decide) hdf ⟨rfl,by decide,by decide⟩ hY F (fun _ _ a ns hl hO hS=>⟨a,ns,rfl,BA hO hS,fun _=>rfl⟩) fun _ _ _ _ _ z=>z
end My
open PySem PySem.W PyProof.Rows
set_option maxRecDepth 100000 in
set_option maxHeartbeats 0 in
theorem PySem.Challenge.cw_piecelay_k13_whole_least_holds : PySem.Challenge.rw_piecelay_k13_whole_least.Holds := by
  w_on; o_law
  refine holds_open (q:=My.view) (loose:=My.loose) (Xt:=My.xt) (XP:=XL My.view []) (Yf:=Hook.obs (kHook My.k0.heap_1 My.kas My.kas_ok)) (Ya:=Hook.val (kHook My.k0.heap_1 My.kas My.kas_ok)) (YP:=Hook.says (kHook My.k0.heap_1 My.kas My.kas_ok)) (N:=My.NN) My.left (Hook.of (kHook My.k0.heap_1 My.kas My.kas_ok)) (Hook.keeps (kHook My.k0.heap_1 My.kas My.kas_ok)) (fun s e=>xl_of s (Bool.and_eq_true_iff.mp e).1) XL.keeps (by rfl) (by rfl) (by rfl) (fun s e=>recFacts_of (Bool.and_eq_true_iff.mp e).2) (by rfl) (by first | assumption | decide +kernel) (by decide +kernel) ⟨rfl,rfl,rfl,rfl,rfl,by decide +kernel⟩ ?hw ?hc
  case hw=>w_witness2
  k_fill
  refine My.walk (l:=PySem.Challenge.rw_piecelay_k13_whole_least) rfl rfl (fun w h Y=>PySem.W.kIn_of Y) ?F
  case F =>
    intro w mg fa h KX G hmg
    refine' My.all_mk KX G hmg ?a1 ?l1 ?c1 ?k1 ?a2 ?l2 ?c2 ?k2 ?a3 ?l3 ?c3 ?k3 ?a4 ?l4 ?c4 ?k4 ?a5 ?l5 ?c5 ?k5 ?a6 ?l6 ?c6 ?k6 ?a7 ?l7 ?c7 ?k7 ?a8 ?l8 ?c8 ?k8 ?a9 ?l9 ?c9 ?k9 ?a10 ?l10 ?c10 ?k10 ?a11 ?l11 ?c11 ?k11 ?a12 ?l12 ?c12 ?k12 ?a13 ?l13 ?c13 ?k13 ?a14 ?l14 ?c14 ?k14 ?a15 ?l15 ?c15 ?k15 ?a16 ?l16 ?c16 ?k16 ?a17 ?l17 ?c17 ?k17 ?a18 ?l18 ?c18 ?k18 ?a19 ?l19 ?c19 ?k19 ?a20 ?l20 ?c20 ?k20 ?a21 ?l21 ?c21 ?k21 ?a22 ?l22 ?c22 ?k22 ?a23 ?l23 ?c23 ?k23 ?a24 ?l24 ?c24 ?k24 ?a25 ?l25 ?c25 ?k25 ?a26 ?l26 ?c26 ?k26 ?a27 ?l27 ?c27 ?k27 ?a28 ?l28 ?c28 ?k28 ?a29 ?l29 ?c29 ?k29 ?a30 ?l30 ?c30 ?k30 ?a31 ?l31 ?c31 ?k31 ?a32 ?l32 ?c32 ?k32 ?a33 ?l33 ?c33 ?k33 ?a34 ?l34 ?c34 ?k34 ?a35 ?l35 ?c35 ?k35 ?a36 ?l36 ?c36 ?k36 ?a37 ?l37 ?c37 ?k37 ?a38 ?l38 ?c38 ?k38 ?a39 ?l39 ?c39 ?k39 ?a40 ?l40 ?c40 ?k40 ?a41 ?l41 ?c41 ?k41 ?a42 ?l42 ?c42 ?k42 ?a43 ?l43 ?c43 ?k43 ?a44 ?l44 ?c44 ?k44 ?a45 ?l45 ?c45 ?k45 ?a46 ?l46 ?c46 ?k46 ?a47 ?l47 ?c47 ?k47 ?a48 ?l48 ?c48 ?k48 ?EH ?E4 ?DY ?EA ?Dd ?Fq ?Dg ?Eh ?E5 ?EG ?DH ?DI ?C6 ?C7 ?Dj ?C5 ?DR ?DS ?DG ?GF ?Ft ?Ih ?HV ?JD ?GY ?Jl ?Ho ?JE ?GC ?Gy ?GD ?EI ?Hb ?Hc ?G8 ?G9 ?Gd ?IE ?Gc ?HX ?Fs ?Gb ?Ha ?HY ?HW ?GZ ?Ge ?C3 ?C4 ?Dz ?DA ?Dv ?Dw ?Do ?DZ ?Dn ?DN ?Dl ?Dm ?Dy ?DO ?DM ?Du ?C9 ?Kc ?Hu ?Kb ?JT ?Kf ?JG ?JU ?JF ?J9 ?Ka ?Ke ?Kg ?Ii ?Kh ?Kd ?Ht
    case a1 | a2 | a3 | a4 | a5 | a6 | a7 | a8 | a9 | a10 | a11 | a12 | a13 | a14 | a15 | a16 | a17 | a18 | a19 | a20 | a21 | a22 | a23 | a24 | a25 | a26 | a27 | a28 | a29 | a30 | a31 | a32 | a33 | a34 | a35 | a36 | a37 | a38 | a39 | a40 | a41 | a42 | a43 | a44 | a45 | a46 | a47 | a48=>change _ = _; k_is
    case l1 | l2 | l3 | l4 | l5 | l6 | l7 | l8 | l9 | l10 | l11 | l12 | l13 | l14 | l15 | l16 | l17 | l18 | l19 | l20 | l21 | l22 | l23 | l24 | l25 | l26 | l27 | l28 | l29 | l30 | l31 | l32 | l33 | l34 | l35 | l36 | l37 | l38 | l39 | l40 | l41 | l42 | l43 | l44 | l45 | l46 | l47 | l48=>change _ = _; k_is
    case c1 | c2 | c3 | c4 | c5 | c6 | c7 | c8 | c9 | c10 | c11 | c12 | c13 | c14 | c15 | c16 | c17 | c18 | c19 | c20 | c21 | c22 | c23 | c24 | c25 | c26 | c27 | c28 | c29 | c30 | c31 | c32 | c33 | c34 | c35 | c36 | c37 | c38 | c39 | c40 | c41 | c42 | c43 | c44 | c45 | c46 | c47 | c48 | k1 | k2 | k3 | k4 | k5 | k6 | k7 | k8 | k9 | k10 | k11 | k12 | k13 | k14 | k15 | k16 | k17 | k18 | k19 | k20 | k21 | k22 | k23 | k24 | k25 | k26 | k27 | k28 | k29 | k30 | k31 | k32 | k33 | k34 | k35 | k36 | k37 | k38 | k39 | k40 | k41 | k42 | k43 | k44 | k45 | k46 | k47 | k48=>k_is
    case EH | E4 | DY | EA | Dd | Fq | Dg | Eh | E5 | EG | DH | C6 | Dj | DR | DG | Ft | HV | GY | Ho | GC | EI | Hb | Hc | G8 | G9 | Gd | IE | Gc | HX | Fs | Gb | Ha | HY | HW | GZ | Kc | Hu | Kb | JT | Kf | JG | JU | JF | J9 | Ka | Ke | Kg | Ii | Kh | Kd | Ht=>k_is
    case DI | C7 | C5 | DS | GF | Ih | JD | Jl | JE | Gy=>first | rfl | decide +kernel
    case GD | Ge | C4 | Dz | DA | Dv | Dw | Do | DZ | Dn | DN | Dl | Dm | Dy | DO | DM | Du | C9=>first | rfl | kernel_rfl | decide +kernel
    case C3=>refine ⟨?_,?_,?_,?_,?_,?_,?_,?_⟩ <;> (first | rfl | kernel_rfl | decide +kernel)
