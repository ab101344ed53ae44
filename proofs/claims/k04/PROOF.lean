import PyProof.Rows.All
import Wide.All
import OpenK.AllK
import Wide.FinOn
import Lean
import PyProof.EqAt
import PyProof.EqKinds
import PyProof.TupleCall
import PyProof.NeKinds
import KE.KTab
import KE.KTops
import PyProof.FString5
import PyProof.ListRange
import KE.KRevIter
import PyProof.Rows.SumAny
import PyProof.Rows.SetFrom
import KE.KRevSl
import KE.KTryMore
import PyProof.ExcAttrAll.ValueError
import PyProof.Rows.CountFlat
import PySem.Challenge.RW_piecelay_k04_trees_refused
section
set_option Elab.async false
set_option linter.all false
set_option maxRecDepth 100000
/-! THE HAND LAYER, for ints, bools, texts, own classes, LISTS and tuples (index, slices, in, append, pop ..), calls, loops. Paste it whole ahead of your own text; what your proof does not reach may be deleted. -/
namespace L2
open PySem PySem.Spec PyProof.Rows

/-- a key: an int or a str -/
abbrev Key := Sum Int Str
def keyIs : Key → Value → Bool
  | .inl k, v => Value.isInt k v
  | .inr x, v => Value.isStrOf x v
def keyH (w : World) : Key → Int
  | .inl k => hashInt k
  | .inr x => hashStr w x
theorem keyIs_shape : ∀ {k : Key} {v : Value}, keyIs k v = true → (∃ i t, k = Sum.inl i ∧ v = Value.int i t) ∨ (∃ x t, k = Sum.inr x ∧ v = Value.str x t)
  | .inl i, v, h => by
    obtain ⟨t, e⟩ := Value.isInt_shape (k := i) (v := v) h
    exact .inl ⟨i, t, rfl, e⟩
  | .inr x, v, h => by
    obtain ⟨t, e⟩ := Value.isStrOf_shape (x := x) (v := v) h
    exact .inr ⟨x, t, rfl, e⟩
theorem key_ll (a b : Int) : decide ((Sum.inl a : Key) = Sum.inl b) = (a == b) := by
  by_cases e : a = b
  · subst e; simp
  · have h : ¬ (Sum.inl a : Key) = Sum.inl b := fun q => e (Sum.inl.inj q)
    rw [decide_eq_false h]
    exact (beq_eq_false_iff_ne.mpr e).symm
theorem key_rr (a b : Str) : decide ((Sum.inr a : Key) = Sum.inr b) = decide (a = b) := by
  by_cases e : a = b
  · subst e; simp
  · have h : ¬ (Sum.inr a : Key) = Sum.inr b := fun q => e (Sum.inr.inj q)
    rw [decide_eq_false h, decide_eq_false e]
theorem key_lr (a : Int) (b : Str) : decide ((Sum.inl a : Key) = Sum.inr b) = false := decide_eq_false (fun q => nomatch q)
theorem key_rl (a : Str) (b : Int) : decide ((Sum.inr a : Key) = Sum.inl b) = false := decide_eq_false (fun q => nomatch q)

def mixKind (prog : Program) (w : World) : PySem.KeyKind prog w Key where
  is := keyIs
  hash := keyH w
  inj := fun v a b ha hb => by
    rcases keyIs_shape ha with ⟨i, t, rfl, rfl⟩ | ⟨x, t, rfl, rfl⟩
    · rcases keyIs_shape hb with ⟨j, u, rfl, e⟩ | ⟨y, u, rfl, e⟩
      · injection e with e1 _; rw [e1]
      · exact nomatch e
    · rcases keyIs_shape hb with ⟨j, u, rfl, e⟩ | ⟨y, u, rfl, e⟩
      · exact nomatch e
      · injection e with e1 _; rw [e1]
  byValue := fun k v h => by
    rcases keyIs_shape h with ⟨i, t, rfl, rfl⟩ | ⟨x, t, rfl, rfl⟩ <;> rfl
  pyHash := fun hv h => by
    rcases keyIs_shape hv with ⟨i, t, rfl, rfl⟩ | ⟨x, t, rfl, rfl⟩
    · exact wpAny_pyHash_int h
    · exact wpAny_pyHash_str h
  eqBool := fun hu hv h => by
    rcases keyIs_shape hu with ⟨i, t, rfl, rfl⟩ | ⟨x, t, rfl, rfl⟩
    · rcases keyIs_shape hv with ⟨j, u, rfl, rfl⟩ | ⟨y, u, rfl, rfl⟩
      · rw [key_ll] at h; exact wpAny_eqBool_int h
      · rw [key_lr] at h; exact SeqAt.EqAt.int_str i t y u _ _ _ _ h
    · rcases keyIs_shape hv with ⟨j, u, rfl, rfl⟩ | ⟨y, u, rfl, rfl⟩
      · rw [key_rl] at h; exact SeqAt.EqAt.str_int x t j u _ _ _ _ h
      · rw [key_rr] at h; exact wpAny_eqBool_str h
  «strs» := fun k x t v h => by
    rcases keyIs_shape h with ⟨i, u, rfl, e⟩ | ⟨y, u, rfl, e⟩
    · exact nomatch e
    · injection e with e1 _
      subst e1
      cases v <;> rfl

end L2

namespace L2
open PySem PySem.Spec PyProof.Rows

/-- a value, without the heap -/
inductive V where
  | non | bl (b : Bool) | int (i : Int) | str (x : Str) | byt (b : Array UInt8) | flt (b : UInt64) | ref (a : Addr) | ty (n : String)
  deriving DecidableEq

def RelV : V → Value → Prop
  | .non, u => u = Value.none
  | .bl b, u => u = Value.bool b
  | .int i, u => ∃ t, u = Value.int i t
  | .str x, u => ∃ t, u = Value.str x t
  | .byt b, u => ∃ t, u = Value.bytes b t
  | .flt b, u => ∃ t, u = Value.float b t
  | .ref a, u => u = Value.ref a
  | .ty n, u => u = Value.type n

abbrev Vals : List V → List Value → Prop := Paired RelV
theorem Vals.length {xs : List V} {us : List Value} (r : Vals xs us) : xs.length = us.length := Paired.length r
theorem Vals.get : ∀ {xs : List V} {us : List Value} {i : Nat} {x : V}, Vals xs us → xs[i]? = some x → ∃ u, us[i]? = some u ∧ RelV x u
  | _, _, _, _, .nil, e => by simp at e
  | _, _, 0, _, .cons r _, e => by simp at e; subst e; exact ⟨_, rfl, r⟩
  | _, _, i + 1, x, .cons _ t, e => by
    obtain ⟨u, h1, h2⟩ := Vals.get (i := i) (x := x) t (by simpa using e)
    exact ⟨u, by simpa using h1, h2⟩
theorem Vals.set {x : V} {u : Value} (r : RelV x u) : ∀ {xs : List V} {us : List Value} (i : Nat), Vals xs us → Vals (xs.set i x) (us.set i u)
  | _, _, _, .nil => .nil
  | _, _, 0, .cons _ t => .cons r t
  | _, _, i + 1, .cons q t => .cons q (Vals.set r i t)
theorem Vals.append : ∀ {xs ys : List V} {us ws : List Value}, Vals xs us → Vals ys ws → Vals (xs ++ ys) (us ++ ws)
  | _, _, _, _, .nil, s => s
  | _, _, _, _, .cons r t, s => .cons r (Vals.append t s)
theorem Vals.take : ∀ {xs : List V} {us : List Value} (n : Nat), Vals xs us → Vals (xs.take n) (us.take n)
  | _, _, 0, _ => .nil
  | _, _, _ + 1, .nil => .nil
  | _, _, n + 1, .cons r t => .cons r (Vals.take n t)
theorem Vals.drop : ∀ {xs : List V} {us : List Value} (n : Nat), Vals xs us → Vals (xs.drop n) (us.drop n)
  | _, _, 0, r => r
  | _, _, _ + 1, .nil => .nil
  | _, _, n + 1, .cons _ t => Vals.drop n t

def RelO : Option V → Option Value → Prop
  | some v, some u => RelV v u
  | none, none => True
  | _, _ => False
def KV {κ : Type} : List (κ × V) → List (κ × Value) → Prop := Paired fun (p : κ × V) (q : κ × Value) => p.1 = q.1 ∧ RelV p.2 q.2

/-- a key of a dict (00_mix): an int or a text -/
def kV : Key → V
  | .inl i => .int i
  | .inr x => .str x

/-- what stands at a tracked address -/
inductive HO where
  /-- a list -/
  | lst (xs : List V)
  /-- a tuple (never changes) -/
  | tup (xs : List V)
  /-- a dict whose keys are ints and texts; one whose keys are tuples of ints and texts (the empty one is both) -/
  | dK (kvs : List (Key × V)) | dT (kvs : List (List Key × V))
  /-- a set of ints: its members, its size -/
  | set (S : Int → Bool) (n : Nat)
  /-- an instance of the class at C, its dict at dx, its attributes -/
  | ins (C dx : Addr) (fs : List (Str × V))
  /-- the dict of the instance at x -/
  | own (x : Addr)
  /-- the dict of an exception -/
  | xd (fs : List (Str × V))
  /-- a bound method, f of x -/
  | met (f x : Addr)
  /-- a range object lo, lo + 1, .. below hi -/
  | rng (lo hi : Int)
  /-- a thing that is known to the object (the script; a dict while a loop walks it): read, never written while it is so -/
  | frz (o : Obj) (u : HO)
  /-- a code object's table -/
  | tbl (ps : Array Value)
  /-- any other thing, by what is true of its one object (a def of one's own: SetO a S n := HO.ext fun h => ..) -/
  | ext (φ : Heap → Prop)

abbrev Hp := Addr → Option HO
def upd (H : Hp) (a : Addr) (o : HO) : Hp := fun b => if b = a then some o else H b
theorem upd_same {H : Hp} {a : Addr} {o : HO} : upd H a o a = some o := by unfold upd; rw [if_pos rfl]
theorem upd_ne {H : Hp} {a b : Addr} {o : HO} (h : b ≠ a) : upd H a o b = H b := by unfold upd; rw [if_neg h]
theorem ne_of_none {H : Hp} {a b : Addr} {o : HO} (h : H a = some o) (h' : H b = none) : a ≠ b := by
  intro e; subst e; rw [h] at h'; cases h'

section
variable (P : Program) (w : World)
def ObjOk (H : Hp) (h : Heap) (a : Addr) : HO → Prop
  | .lst xs => xs.length ≤ sizeLine ∧ ∃ (its : List Value) (n : Nat), Vals xs its ∧ h.get? a = some { cls := .type "list", data := .seq its.toArray n }
  | .tup xs => xs.length ≤ sizeLine ∧ ∃ its : List Value, Vals xs its ∧ IsTup h a its.toArray
  | .dK kvs => kvs.length ≤ sizeLine ∧ (a == sysModules) = false ∧ ∃ vs, KV kvs vs ∧ h.DictOf (mixKind P w) a vs
  | .dT kvs => kvs.length ≤ sizeLine ∧ (a == sysModules) = false ∧ ∃ xs : List (List Key × Addr × Value),
      Paired (fun (p : List Key × V) (q : List Key × Addr × Value) => p.1 = q.1 ∧ H q.2.1 = some (.tup (p.1.map kV)) ∧ RelV p.2 q.2.2) kvs xs ∧
      ∃ o es ep, h.get? a = some o ∧ o.ExactDict ∧ o.data = .dict es ep ∧ es.toList = xs.map (entryOfKey (tupleKind (mixKind P w))) ∧ (xs.map (·.1)).Nodup
  | .set S n => h.SetOf (intKind P w) a S n
  | .ins C dx fs => H dx = some (.own a) ∧ fs.length ≤ 1000 ∧ dx ≠ a ∧ h.get? a = some (PySem.W.instObj C dx) ∧
      ∃ mA, h.Ns1 dx mA ∧ (∀ f, RelO (fs.lookup f) (mA f)) ∧ PySem.Within mA (fs.map (·.1))
  | .own _ => ∃ o, h.get? a = some o
  | .xd fs => ∃ mA, h.Ns1 a mA ∧ ∀ f, RelO (fs.lookup f) (mA f)
  | .rng lo hi => ∃ t u v, h.get? a = some { cls := .type "range", data := .fields #[.int lo t, .int hi u, .int 1 v] }
  | .frz o u => h.get? a = some o ∧ ObjOk H h a u
  | .tbl ps => h.get? a = some { cls := .none, data := .fields ps }
  | .met f x => h.get? a = some (PySem.W.methodObj (.ref f) (.ref x))
  | .ext φ => φ h ∧ (∃ o, h.get? a = some o) ∧ ∀ h1 h2 : Heap, φ h1 → (∀ o, h1.get? a = some o → h2.get? a = some o) → φ h2
/-- the abstract heap is held -/
def HOk (H : Hp) (h : Heap) : Prop := ∀ a o, H a = some o → ObjOk P w H h a o
end

section
variable {P : Program} {w : World} {H H' : Hp} {h h' : Heap} {a : Addr} {o : HO}
theorem ObjOk.lt (x : ObjOk P w H h a o) : a < h.objs.size := by
  cases o with
  | lst xs => obtain ⟨_, _, _, _, e⟩ := x; exact Heap.lt_size e
  | tup xs => obtain ⟨_, _, _, p⟩ := x; exact p.lt
  | dK kvs => obtain ⟨_, _, _, _, o, _, _, e, _⟩ := x; exact Heap.lt_size e
  | dT kvs => obtain ⟨_, _, _, _, o, _, _, e, _⟩ := x; exact Heap.lt_size e
  | set S n => obtain ⟨o, _, _, _, e, _⟩ := x; exact Heap.lt_size e
  | ins C dx fs => obtain ⟨_, _, _, e, _⟩ := x; exact Heap.lt_size e
  | own y => obtain ⟨_, e⟩ := x; exact Heap.lt_size e
  | xd fs => obtain ⟨_, ⟨_, _, _, e, _⟩, _⟩ := x; exact Heap.lt_size e
  | rng lo hi => obtain ⟨_, _, _, e⟩ := x; exact Heap.lt_size e
  | frz ob u => obtain ⟨e, _⟩ := x; exact Heap.lt_size e
  | tbl ps => exact Heap.lt_size (show h.get? a = some _ from x)
  | met f y => exact Heap.lt_size (show h.get? a = some _ from x)
  | ext φ => obtain ⟨_, ⟨_, e⟩, _⟩ := x; exact Heap.lt_size e
theorem Paired.mapP {α β : Type} {F G : α → β → Prop} : ∀ {l₁ : List α} {l₂ : List β}, Paired F l₁ l₂ → (∀ a b, F a b → G a b) → Paired G l₁ l₂
  | _, _, .nil, _ => .nil
  | _, _, .cons r t, f => .cons (f _ _ r) (Paired.mapP t f)
/-- what an object's description leans on: its own object, its own dict, the tuples -/
theorem ObjOk.stay (x : ObjOk P w H h a o) (k : ∀ b u, (b = a ∨ H b = some (.own a)) → h.get? b = some u → h'.get? b = some u)
    (ho : ∀ b, H b = some (.own a) → H' b = some (.own a)) (ht : ∀ b xs, H b = some (.tup xs) → H' b = some (.tup xs)) : ObjOk P w H' h' a o := by
  induction o with
  | lst xs => obtain ⟨z, its, n, r, e⟩ := x; exact ⟨z, its, n, r, k _ _ (.inl rfl) e⟩
  | tup xs => obtain ⟨z, its, r, ob, e, c⟩ := x; exact ⟨z, its, r, ob, k _ _ (.inl rfl) e, c⟩
  | dK kvs => obtain ⟨z, y, vs, r, ob, es, ep, e, c⟩ := x; exact ⟨z, y, vs, r, ob, es, ep, k _ _ (.inl rfl) e, c⟩
  | dT kvs =>
    obtain ⟨z, y, xs, r, ob, es, ep, e, c⟩ := x
    exact ⟨z, y, xs, Paired.mapP r fun p q z => ⟨z.1, ht _ _ z.2.1, z.2.2⟩, ob, es, ep, k _ _ (.inl rfl) e, c⟩
  | set S n => obtain ⟨ob, es, ep, t, e, c⟩ := x; exact ⟨ob, es, ep, t, k _ _ (.inl rfl) e, c⟩
  | ins C dx fs =>
    obtain ⟨d, z, ne, e, mA, ⟨od, es, ep, e2, c⟩, r⟩ := x
    exact ⟨ho _ d, z, ne, k _ _ (.inl rfl) e, mA, ⟨od, es, ep, k _ _ (.inr d) e2, c⟩, r⟩
  | own y => obtain ⟨ob, e⟩ := x; exact ⟨ob, k _ _ (.inl rfl) e⟩
  | xd fs => obtain ⟨mA, ⟨od, es, ep, e, c⟩, r⟩ := x; exact ⟨mA, ⟨od, es, ep, k _ _ (.inl rfl) e, c⟩, r⟩
  | rng lo hi => obtain ⟨t, u, v, e⟩ := x; exact ⟨t, u, v, k _ _ (.inl rfl) e⟩
  | frz ob u ih => obtain ⟨e, q⟩ := x; exact ⟨k _ _ (.inl rfl) e, ih q⟩
  | tbl ps =>
    have e : h.get? a = some { cls := .none, data := .fields ps } := x
    show h'.get? a = some { cls := .none, data := .fields ps }
    exact k a _ (.inl rfl) e
  | met f y =>
    have e : h.get? a = some (PySem.W.methodObj (.ref f) (.ref y)) := x
    show h'.get? a = some (PySem.W.methodObj (.ref f) (.ref y))
    exact k a _ (.inl rfl) e
  | ext φ => obtain ⟨p, ⟨o, e⟩, st⟩ := x; exact ⟨st _ _ p fun o q => k _ _ (.inl rfl) q, ⟨o, k _ _ (.inl rfl) e⟩, st⟩
theorem HOk.lt (x : HOk P w H h) (e : H a = some o) : a < h.objs.size := (x a o e).lt
theorem HOk.fresh (x : HOk P w H h) (e : h.objs.size ≤ a) : H a = none := by
  cases q : H a with
  | none => rfl
  | some u => exact absurd (Nat.lt_of_lt_of_le (x.lt q) e) (Nat.lt_irrefl _)
/-- every object of the heap is kept -/
theorem HOk.kept (x : HOk P w H h) (k : ∀ b u, h.get? b = some u → h'.get? b = some u) : HOk P w H h' := fun a o e =>
  (x a o e).stay (fun b u _ q => k b u q) (fun _ q => q) fun _ _ q => q
/-- a new object is laid and tracked -/
theorem HOk.laid (x : HOk P w H h) (k : ∀ b u, h.get? b = some u → h'.get? b = some u) (hp : h.objs.size ≤ a) (new : ObjOk P w (upd H a o) h' a o) : HOk P w (upd H a o) h' := fun b u e => by
  have hn := x.fresh hp
  by_cases hb : b = a
  · subst hb; rw [upd_same] at e; cases e; exact new
  · rw [upd_ne hb] at e
    exact (x b u e).stay (fun c v _ q => k c v q) (fun c q => by rw [upd_ne (ne_of_none q hn)]; exact q) fun c xs q => by rw [upd_ne (ne_of_none q hn)]; exact q
end

/-- what may be read as u: it is u, or a known u -/
def Rd (H : Hp) (a : Addr) (u : HO) : Prop := H a = some u ∨ ∃ o, H a = some (.frz o u)
theorem Rd.ok {P : Program} {w : World} {H : Hp} {h : Heap} {a : Addr} {u : HO} (r : Rd H a u) (x : HOk P w H h) : ObjOk P w H h a u := by
  rcases r with r | ⟨o, r⟩
  · exact x a u r
  · obtain ⟨_, q⟩ := x a _ r
    exact q
/-- what may be written -/
def Mut : Option HO → Prop
  | some (.lst _) => True
  | some (.dK _) => True
  | some (.dT _) => True
  | some (.set _ _) => True
  | some (.ins _ _ _) => True
  | some (.ext _) => True
  | _ => False
section
variable {P : Program} {w : World} {H : Hp} {h h' : Heap} {x e : Addr} {o' : HO}
/-- the object at e is changed: x itself, or the dict of the instance x -/
theorem HOk.write (ok : HOk P w H h) (mu : Mut (H x)) (he : e = x ∨ H e = some (.own x)) (k : ∀ b u, b ≠ e → h.get? b = some u → h'.get? b = some u) (heo : ∃ u, h'.get? e = some u)
    (new : ObjOk P w (upd H x o') h' x o') : HOk P w (upd H x o') h' := fun b u q => by
  have nown : ∀ c y, H c = some (.own y) → c ≠ x := fun c y r z => by subst z; rw [r] at mu; exact mu
  have ntup : ∀ c xs, H c = some (.tup xs) → c ≠ x := fun c xs r z => by subst z; rw [r] at mu; exact mu
  by_cases hb : b = x
  · subst hb; rw [upd_same] at q; cases q; exact new
  · rw [upd_ne hb] at q
    by_cases hbe : b = e
    · have q' : H b = some (.own x) := by
        rcases he with z | z
        · exact absurd (hbe.trans z) hb
        · rw [hbe]; exact z
      rw [q] at q'; cases q'
      obtain ⟨v, hv⟩ := heo
      exact ⟨v, by rw [hbe]; exact hv⟩
    · refine (ok b u q).stay (fun c v hc r => k c v ?_ r) (fun c r => by rw [upd_ne (nown c b r)]; exact r) fun c xs r => by rw [upd_ne (ntup c xs r)]; exact r
      rcases hc with rfl | hc
      · exact hbe
      · rintro rfl
        rcases he with z | z
        · exact nown c b hc z
        · rw [hc] at z; cases z; exact hb rfl
end

/-! ### kept unless tracked; of the frames at fs (the callers') the slots may change (an exception that passes writes there); of the records at ex (iterators) nothing is said -/
structure Un (fs ex : List Addr) (H H' : Hp) (h h' : Heap) : Prop where
  keep : ∀ b o, h.get? b = some o → H b = none → b ∉ fs → b ∉ ex → h'.get? b = some o
  slot : ∀ b o, h.get? b = some o → H b = none → b ∈ fs → b ∉ ex → ∃ sl, h'.get? b = some { o with slots := sl }
  free : ∀ b o, h.get? b = some o → H b = none → b ∉ ex → H' b = none
  there : ∀ b o, h.get? b = some o → b ∉ ex → ∃ o', h'.get? b = some o'
  tups : ∀ b xs, H b = some (.tup xs) → H' b = some (.tup xs)
  frzs : ∀ b o u, H b = some (.frz o u) → H' b = some (.frz o u)
  tbls : ∀ b ps, H b = some (.tbl ps) → ∃ more, H' b = some (.tbl (ps ++ more))
section
variable {fs fs' ex ex' : List Addr} {H H1 H2 : Hp} {h h1 h2 h' : Heap} {a x e : Addr} {o : HO}
theorem Un.any (u : Un fs ex H H1 h h1) {b : Addr} {ob : Obj} (q : h.get? b = some ob) (n : H b = none) (hx : b ∉ ex) : ∃ sl, h1.get? b = some { ob with slots := sl } := by
  by_cases hb : b ∈ fs
  · exact u.slot b ob q n hb hx
  · exact ⟨ob.slots, u.keep b ob q n hb hx⟩
theorem Un.kept (k : ∀ b u, h.get? b = some u → h'.get? b = some u) : Un fs ex H H h h' :=
  ⟨fun b ob q _ _ _ => k b ob q, fun b ob q _ _ _ => ⟨ob.slots, k b ob q⟩, fun _ _ _ n _ => n, fun b ob q _ => ⟨ob, k b ob q⟩, fun _ _ q => q, fun _ _ _ q => q, fun _ ps q => ⟨#[], by rw [q]; simp⟩⟩
theorem Un.refl : Un fs ex H H h h := Un.kept fun _ _ q => q
theorem Un.laid (k : ∀ b u, h.get? b = some u → h'.get? b = some u) (hp : h.objs.size ≤ a) (hn : H a = none) : Un fs ex H (upd H a o) h h' where
  keep := fun b u q _ _ _ => k b u q
  slot := fun b u q _ _ _ => ⟨u.slots, k b u q⟩
  free := fun b u q n _ => by rw [upd_ne (Nat.ne_of_lt (Nat.lt_of_lt_of_le (Heap.lt_size q) hp))]; exact n
  there := fun b u q _ => ⟨u, k b u q⟩
  tups := fun b xs q => by rw [upd_ne (ne_of_none q hn)]; exact q
  frzs := fun b u xs q => by rw [upd_ne (ne_of_none q hn)]; exact q
  tbls := fun b ps q => ⟨#[], by rw [upd_ne (ne_of_none q hn), q]; simp⟩
theorem Un.write (mu : Mut (H x)) (he : e = x ∨ H e = some (.own x)) (k : ∀ b u, b ≠ e → h.get? b = some u → h'.get? b = some u) (heo : ∃ u, h'.get? e = some u) : Un fs ex H (upd H x o) h h' := by
  have hx : ∀ b, H b = none → b ≠ x := fun b n z => by subst z; rw [n] at mu; exact mu
  have hb : ∀ b, H b = none → b ≠ e := fun b n z => by
    subst z
    rcases he with r | r
    · exact hx b n r
    · rw [n] at r; cases r
  have hm : ∀ b u, H b = some u → ¬ Mut (some u) → b ≠ x := fun b u q nm z => by subst z; rw [q] at mu; exact nm mu
  refine ⟨fun b u q n _ _ => k b u (hb b n) q, fun b u q n _ _ => ⟨u.slots, k b u (hb b n) q⟩, fun b u q n _ => by rw [upd_ne (hx b n)]; exact n, fun b u q _ => ?_,
    fun b xs q => by rw [upd_ne (hm b _ q fun z => z)]; exact q, fun b u xs q => by rw [upd_ne (hm b _ q fun z => z)]; exact q, fun b ps q => ⟨#[], by rw [upd_ne (hm b _ q fun z => z), q]; simp⟩⟩
  by_cases hbe : b = e
  · subst hbe; exact heo
  · exact ⟨u, k b u hbe q⟩
end

/-! ### the heap without what is tracked -/
def trk (h : Heap) (H : Hp) : List Addr := (List.range h.objs.size).filter fun a => (H a).isSome
def hidT (h : Heap) (H : Hp) : Heap := PySem.W.hideAll h (trk h H)
theorem hidT_size (h : Heap) (H : Hp) : (hidT h H).objs.size = h.objs.size := PySem.W.hideAll_size _ _
theorem hidT_get {h : Heap} {H : Hp} {b : Addr} {o : Obj} (e : h.get? b = some o) (n : H b = none) : (hidT h H).get? b = some o :=
  PySem.W.hideAll_get _ e fun hm => by
    have q : (H b).isSome = true := (List.mem_filter.mp hm).2
    rw [n] at q; simp at q
theorem of_hidT {h : Heap} {H : Hp} {b : Addr} {o : Obj} (e : (hidT h H).get? b = some o) : h.get? b = some o ∧ H b = none := by
  have e' : h.get? b = some o := PySem.W.of_hideAll (trk h H) e
  refine ⟨e', ?_⟩
  cases q : H b with
  | none => rfl
  | some x =>
    have hm : b ∈ trk h H := List.mem_filter.mpr ⟨List.mem_range.mpr (Heap.lt_size e'), by simp [q]⟩
    have z : (hidT h H).get? b = none := PySem.W.hideAll_none (trk h H) hm
    rw [z] at e; cases e

/-! ### OpenK's ledger, filled with every new object but one -/
end L2

namespace L2
open PySem PySem.Spec PyProof.Rows

/-- the module's facts, over the base: the heap at the law's entry without what is tracked there -/
structure Mod (K : PySem.W.Frag) (mg : Str → Option Value) (base : Heap) : Prop where
  kin : K.In base
  glob : base.Ns mainGlobals mg
  blt : ∃ mb, base.Ns builtinsNs mb ∧ ∀ x : Str, x ≠ "__name__" → mb x = bootBuiltins x
  nolimit : base.NoLimit

/-- the context: a def's body (or a comprehension's block) running. base: fixed through the whole law; s₀, H₀: the entry; outer: the frames whose slots others may change (a def's callers); stack: all frames that run;
   ex: iterators that were made ahead of the entry and are walked here (a comprehension's); fn: the names whose cells were made at the entry (a def: all; a comprehension's block: its own); calm: not within an except suite; pn: pins that every state bears; xe: what is wanted of an exception that leaves the code -/
structure Cx where
  prog : Program
  w : World
  K : PySem.W.Frag
  mg : Str → Option Value
  base : Heap
  A : Around
  N : List Str
  s₀ : Shared
  H₀ : Hp
  env : Env
  outer : List Env
  stack : List Env
  ex : List Addr
  fn : Str → Bool
  calm : Bool
  pn : List (Addr × Obj)
  xe : Value → Shared → Prop
/-- the callers' frames -/
def frs (l : List Env) : List Addr := l.filterMap (·.frame)
abbrev Cx.fs (X : Cx) : List Addr := frs X.outer

def Vis (sc : Scope) (x : Str) : Prop := sc.names.lookup x = some .local ∨ sc.names.lookup x = some .cell ∨ sc.names.lookup x = some .free
def Loc (sc : Scope) (x : Str) : Prop := sc.names.lookup x = some .local ∨ sc.names.lookup x = some .cell
def Look (env : Env) (h : Heap) (m : Str → Option Value) (x : Str) (u : Value) : Prop :=
  (env.kindOf x = some .local ∧ m x = some u) ∨ ((env.kindOf x = some .cell ∨ env.kindOf x = some .free) ∧ ∃ c, env.cells.lookup x = some c ∧ h.IsCell c (some u))

structure Cx.Ok (X : Cx) : Prop where
  mod : Mod X.K X.mg X.base
  kind : X.env.scope.kind = .function
  glob : X.env.globals = mainGlobals
  blt : X.env.builtins = builtinsNs
  above : X.s₀.heap.objs.size ≤ X.env.locals
  inj : ∀ x y c, X.env.cells.lookup x = some c → X.env.cells.lookup y = some c → x = y
  has : ∀ x, (X.env.kindOf x = some .cell ∨ X.env.kindOf x = some .free) → ∃ c, X.env.cells.lookup x = some c
  cab : ∀ x c, X.fn x = true → X.env.cells.lookup x = some c → X.s₀.heap.objs.size ≤ c
  hd : X.calm = true → X.A.handled = none
  frames : X.A.frames = some X.stack
  stk : X.stack = X.outer ∨ (X.stack = X.env :: X.outer ∧ X.env.frame = some X.env.locals)
  exf : ∀ b ∈ X.ex, b ≠ X.env.locals ∧ ∀ x c, X.env.cells.lookup x = some c → c ≠ b
  bs : ∀ b o, X.base.get? b = some o → X.s₀.heap.get? b = some o ∧ X.H₀ b = none
  bsz : X.base.objs.size ≤ X.s₀.heap.objs.size
  noex : ∀ b o, X.base.get? b = some o → b ∉ X.ex
  exfs : ∀ b ∈ X.ex, b ∉ X.fs
  funs : X.s₀.heap.FunFrames X.base X.outer
  frf : ∀ b ∈ X.fs, X.H₀ b = none

structure Inv (X : Cx) (pins : List (Addr × Obj)) (σ : List (Option V)) (H : Hp) (s : Shared) : Prop where
  ok : X.Ok
  os : s.os = X.s₀.os
  bare : AllBare s.gens
  base : Un X.fs X.ex X.H₀ H X.s₀.heap s.heap
  loc : ∃ m, s.heap.Ns X.env.locals m ∧ ∀ (i : Nat) (x : Str) (v : V), X.N[i]? = some x → σ[i]? = some (some v) → Vis X.env.scope x → ∃ u, RelV v u ∧ Look X.env s.heap m x u
  cell : ∀ x c, X.env.cells.lookup x = some c → ∃ v, s.heap.IsCell c v
  free : H X.env.locals = none
  freeC : ∀ x c, X.env.cells.lookup x = some c → H c = none
  pin : ∀ p ∈ X.pn ++ pins, s.heap.get? p.1 = some p.2 ∧ H p.1 = none ∧ p.1 ≠ X.env.locals ∧ p.1 ∉ X.fs ∧ ∀ v, p.2.data ≠ .cell v
  hok : HOk X.prog X.w H s.heap
  len : σ.length = X.N.length

section
variable {X : Cx} {pins : List (Addr × Obj)} {σ : List (Option V)} {H H' : Hp} {s : Shared} {h' : Heap}

theorem Cx.Ok.nofr (ok : X.Ok) {b : Addr} {o : Obj} (e : X.base.get? b = some o) : b ∉ X.fs := fun hb => by
  have := (ok.funs.mem hb).1
  rw [e] at this; cases this
theorem Inv.bs (I : Inv X pins σ H s) : ∀ b o, X.base.get? b = some o → s.heap.get? b = some o ∧ H b = none := fun b o e =>
  ⟨I.base.keep b o (I.ok.bs b o e).1 (I.ok.bs b o e).2 (I.ok.nofr e) (I.ok.noex b o e), I.base.free b o (I.ok.bs b o e).1 (I.ok.bs b o e).2 (I.ok.noex b o e)⟩
theorem Inv.bk (I : Inv X pins σ H s) : ∀ b o, X.base.get? b = some o → s.heap.get? b = some o := fun b o e => (I.bs b o e).1
theorem Inv.mod (I : Inv X pins σ H s) : Mod X.K X.mg X.base := I.ok.mod
theorem Inv.kIn (I : Inv X pins σ H s) : X.K.In s.heap := I.ok.mod.kin.keeps I.bk
theorem Inv.lt (I : Inv X pins σ H s) : X.env.locals < s.heap.objs.size := let ⟨_, hn, _⟩ := I.loc; hn.lt
theorem Inv.sz (I : Inv X pins σ H s) : X.s₀.heap.objs.size ≤ s.heap.objs.size := Nat.le_trans I.ok.above (Nat.le_of_lt I.lt)
theorem Inv.nofs (I : Inv X pins σ H s) {a : Addr} (h : s.heap.objs.size ≤ a) : a ∉ X.fs := fun hb => by
  obtain ⟨_, o, ho, _⟩ := I.ok.funs.mem hb
  exact absurd (Nat.lt_of_lt_of_le (Heap.lt_size ho) (Nat.le_trans I.sz h)) (Nat.lt_irrefl _)
theorem Inv.cne (I : Inv X pins σ H s) : ∀ x c, X.env.cells.lookup x = some c → c ≠ X.env.locals := fun x c e z => by
  obtain ⟨v, o, ho, hd⟩ := I.cell x c e
  obtain ⟨m, ⟨o', es, ep, ho', hd', _⟩, _⟩ := I.loc
  rw [z, ho'] at ho; cases ho; rw [hd'] at hd; cases hd
theorem Inv.funs (I : Inv X pins σ H s) : s.heap.FunFrames X.base X.outer := by
  have all : ∀ (l : List Env), (∀ b ∈ frs l, b ∈ X.fs) → X.s₀.heap.FunFrames X.base l → s.heap.FunFrames X.base l := by
    intro l
    induction l with
    | nil => intro _ _; trivial
    | cons env r ih =>
      intro hs hl
      obtain ⟨hk, ⟨L, o, hf, hn, ho, hd⟩, hr⟩ := hl
      have hL : L ∈ X.fs := hs L (by unfold frs; rw [List.filterMap_cons, hf]; exact List.mem_cons_self)
      obtain ⟨sl, e⟩ := I.base.slot L o ho (I.ok.frf L hL) hL fun z => I.ok.exfs L z hL
      exact ⟨hk, ⟨L, _, hf, hn, e, hd⟩, ih (fun b hb => hs b (by unfold frs; rw [List.filterMap_cons, hf]; exact List.mem_cons_of_mem _ hb)) hr⟩
  exact all X.outer (fun _ hb => hb) I.ok.funs

/-- the frames that run, for a call -/
theorem Inv.stack (I : Inv X pins σ H s) : s.heap.FunFrames X.base X.stack := by
  rcases I.ok.stk with e | ⟨e, hf⟩
  · rw [e]; exact I.funs
  · rw [e]
    obtain ⟨m, hn, _⟩ := I.loc
    refine .cons (by rw [I.ok.kind]; decide) hf hn ?_ I.funs
    exact Heap.get?_none_of_le (Nat.le_trans I.ok.bsz I.ok.above)
theorem Inv.stkSub (I : Inv X pins σ H s) : ∀ b ∈ frs X.stack, b ∈ X.env.locals :: X.fs := fun b hb => by
  rcases I.ok.stk with e | ⟨e, hf⟩
  · rw [e] at hb; exact List.mem_cons_of_mem _ hb
  · rw [e] at hb
    unfold frs at hb
    rw [List.filterMap_cons, hf] at hb
    exact hb
theorem Inv.stkFree (I : Inv X pins σ H s) : ∀ b ∈ frs X.stack, H b = none := fun b hb => by
  rcases List.mem_cons.mp (I.stkSub b hb) with e | hb
  · rw [e]; exact I.free
  · obtain ⟨_, o, ho, _⟩ := I.ok.funs.mem hb
    exact I.base.free b o ho (I.ok.frf b hb) fun z => I.ok.exfs b z hb

/-- THE STEP: the untracked objects but the frame and the records at ch are kept (the callers' frames up to slots), the frame's map is kept, the new abstract heap is held -/
theorem Inv.step {g' : Array GenState} {t' : Nat} {d' : Drawn} {ch : List Addr} (I : Inv X pins σ H s)
    (hch : ∀ b ∈ ch, (b ∈ X.ex ∨ X.s₀.heap.objs.size ≤ b) ∧ b ≠ X.env.locals ∧ (∀ x c, X.env.cells.lookup x = some c → c ≠ b) ∧ ∀ p ∈ X.pn ++ pins, p.1 ≠ b)
    (keep : ∀ b o, b ≠ X.env.locals → b ∉ X.fs → b ∉ ch → s.heap.get? b = some o → H b = none → h'.get? b = some o)
    (slot : ∀ b o, b ≠ X.env.locals → b ∈ X.fs → b ∉ ch → s.heap.get? b = some o → H b = none → ∃ sl, h'.get? b = some { o with slots := sl }) (free : ∀ b o, b ∉ ch → s.heap.get? b = some o → H b = none → H' b = none)
    (there : ∀ b o, b ∉ ch → s.heap.get? b = some o → ∃ o', h'.get? b = some o')
    (tups : ∀ b xs, H b = some (.tup xs) → H' b = some (.tup xs)) (frzs : ∀ b o u, H b = some (.frz o u) → H' b = some (.frz o u)) (tbls : ∀ b ps, H b = some (.tbl ps) → ∃ more, H' b = some (.tbl (ps ++ more)))
    (ns : ∀ m, s.heap.Ns X.env.locals m → h'.Ns X.env.locals m) (hok : HOk X.prog X.w H' h') (hg : AllBare g') :
    Inv X pins σ H' { s with heap := h', gens := g', drawn := d', toks := t' } := by
  have neL : ∀ b o, X.s₀.heap.get? b = some o → b ≠ X.env.locals := fun b o e => Nat.ne_of_lt (Nat.lt_of_lt_of_le (Heap.lt_size e) I.ok.above)
  have neC : ∀ b o, X.s₀.heap.get? b = some o → b ∉ X.ex → b ∉ ch := fun b o e hx hb => by
    rcases (hch b hb).1 with z | z
    · exact hx z
    · exact absurd (Nat.lt_of_lt_of_le (Heap.lt_size e) z) (Nat.lt_irrefl _)
  have cellK : ∀ x c, X.env.cells.lookup x = some c → ∀ v, s.heap.IsCell c v → h'.IsCell c v := fun x c e v ⟨o, ho, hd⟩ => by
    have nch : c ∉ ch := fun z => (hch c z).2.2.1 x c e rfl
    by_cases hc : c ∈ X.fs
    · obtain ⟨sl, q⟩ := slot c o (I.cne x c e) hc nch ho (I.freeC x c e)
      exact ⟨_, q, hd⟩
    · exact ⟨o, keep c o (I.cne x c e) hc nch ho (I.freeC x c e), hd⟩
  refine ⟨I.ok, I.os, hg, ⟨fun b o e n hb hx => ?_, fun b o e n hb hx => ?_, fun b o e n hx => ?_, fun b o e hx => ?_, fun b xs e => tups b xs (I.base.tups b xs e), fun b o xs e => frzs b o xs (I.base.frzs b o xs e), fun b ps e => ?_⟩, ?_, fun x c e => ?_, ?_, fun x c e => ?_, fun p hp => ?_, hok, I.len⟩
  · exact keep b o (neL b o e) hb (neC b o e hx) (I.base.keep b o e n hb hx) (I.base.free b o e n hx)
  · obtain ⟨sl, e1⟩ := I.base.slot b o e n hb hx
    obtain ⟨sl', e2⟩ := slot b _ (neL b o e) hb (neC b o e hx) e1 (I.base.free b o e n hx)
    exact ⟨sl', e2⟩
  · obtain ⟨o', e1⟩ := I.base.there b o e hx
    exact free b o' (neC b o e hx) e1 (I.base.free b o e n hx)
  · obtain ⟨o', e1⟩ := I.base.there b o e hx
    exact there b o' (neC b o e hx) e1
  · obtain ⟨m1, e1⟩ := I.base.tbls b ps e
    obtain ⟨m2, e2⟩ := tbls b _ e1
    exact ⟨m1 ++ m2, by rw [e2, Array.append_assoc]⟩
  · obtain ⟨m, hn, hl⟩ := I.loc
    refine ⟨m, ns m hn, fun i x v e1 e2 e3 => ?_⟩
    obtain ⟨u, r, l⟩ := hl i x v e1 e2 e3
    refine ⟨u, r, ?_⟩
    rcases l with l | ⟨k, c, e, z⟩
    · exact .inl l
    · exact .inr ⟨k, c, e, cellK x c e _ z⟩
  · obtain ⟨v, z⟩ := I.cell x c e
    exact ⟨v, cellK x c e v z⟩
  · obtain ⟨m, ⟨o, _, _, ho, _⟩, _⟩ := I.loc
    exact free _ o (fun z => (hch _ z).2.1 rfl) ho I.free
  · obtain ⟨v, o, ho, hd⟩ := I.cell x c e
    exact free c o (fun z => (hch c z).2.2.1 x c e rfl) ho (I.freeC x c e)
  · obtain ⟨e, n, ne, nf, d⟩ := I.pin p hp
    have nch : p.1 ∉ ch := fun z => (hch p.1 z).2.2.2 p hp rfl
    exact ⟨keep p.1 p.2 ne nf nch e n, free p.1 p.2 nch e n, ne, nf, d⟩
/-- .. where the frame's own object is kept too -/
theorem Inv.un {t' : Nat} (I : Inv X pins σ H s) (u : Un X.fs [] H H' s.heap h') (hok : HOk X.prog X.w H' h') : Inv X pins σ H' { s with heap := h', toks := t' } := by
  obtain ⟨m, ⟨o, es, ep, ho, r⟩, _⟩ := id I.loc
  obtain ⟨sl, hL⟩ := u.any ho I.free (by simp)
  exact I.step (g' := s.gens) (d' := s.drawn) (ch := []) (fun _ z => nomatch z) (fun b o _ hb _ e n => u.keep b o e n hb (by simp)) (fun b o _ hb _ e n => u.slot b o e n hb (by simp)) (fun b o _ e n => u.free b o e n (by simp)) (fun b o _ e => u.there b o e (by simp)) u.tups u.frzs u.tbls (fun m' hm => by
    obtain ⟨o', es', ep', ho', r'⟩ := hm
    rw [ho] at ho'; cases ho'
    exact ⟨_, es', ep', hL, r'⟩) hok I.bare
/-- behind a call (or a comprehension's block): the slots of this frame may have changed too, the records at ch may have turned -/
theorem Inv.call {g' : Array GenState} {t' : Nat} {d' : Drawn} {ch : List Addr} (I : Inv X pins σ H s) (u : Un (frs X.stack) ch H H' s.heap h') (hok : HOk X.prog X.w H' h') (hg : AllBare g')
    (hch : ∀ b ∈ ch, (b ∈ X.ex ∨ X.s₀.heap.objs.size ≤ b) ∧ b ≠ X.env.locals ∧ (∀ x c, X.env.cells.lookup x = some c → c ≠ b) ∧ ∀ p ∈ X.pn ++ pins, p.1 ≠ b) :
    Inv X pins σ H' { s with heap := h', gens := g', drawn := d', toks := t' } := by
  obtain ⟨m, ⟨o, es, ep, ho, r⟩, _⟩ := id I.loc
  obtain ⟨sl, hL⟩ := u.any ho I.free fun z => (hch _ z).2.1 rfl
  exact I.step (ch := ch) hch (fun b o hL hb hc e n => u.keep b o e n (fun z => (List.mem_cons.mp (I.stkSub b z)).elim hL hb) hc) (fun b o _ _ hc e n => u.any e n hc) (fun b o hc e n => u.free b o e n hc) (fun b o hc e => u.there b o e hc) u.tups u.frzs u.tbls (fun m' hm => by
    obtain ⟨o', es', ep', ho', r'⟩ := hm
    rw [ho] at ho'; cases ho'
    exact ⟨_, es', ep', hL, r'⟩) hok hg
/-- an untracked record of ours (an iterator) has turned -/
theorem Inv.turned {t' : Nat} {it : Addr} (I : Inv X pins σ H s) (k : ∀ b o, b ≠ it → s.heap.get? b = some o → h'.get? b = some o) (hn : H it = none) (hL : it ≠ X.env.locals)
    (h1 : it ∈ X.ex ∨ X.s₀.heap.objs.size ≤ it) (h2 : ∀ x c, X.env.cells.lookup x = some c → c ≠ it) (h3 : ∀ p ∈ X.pn ++ pins, p.1 ≠ it) : Inv X pins σ H { s with heap := h', toks := t' } := by
  have nit : ∀ b u, H b = some u → b ≠ it := fun b u e z => by rw [z, hn] at e; cases e
  refine I.step (g' := s.gens) (d' := s.drawn) (ch := [it]) (fun b hb => ?_) (fun b o _ _ hc e _ => k b o (fun z => hc (by simp [z])) e) (fun b o _ _ hc e _ => ⟨o.slots, k b o (fun z => hc (by simp [z])) e⟩) (fun _ _ _ _ n => n)
    (fun b o hc e => ⟨o, k b o (fun z => hc (by simp [z])) e⟩) (fun _ _ e => e) (fun _ _ _ e => e) (fun b ps e => ⟨#[], by rw [e]; simp⟩) (fun m hm => ?_) (fun b u e => ?_) I.bare
  · have e : b = it := by simpa using hb
    subst e
    exact ⟨h1, hL, h2, h3⟩
  · obtain ⟨o, es, ep, ho, r⟩ := hm
    exact ⟨o, es, ep, k _ o (Ne.symm hL) ho, r⟩
  · refine (I.hok b u e).stay (fun c v hc q => k c v ?_ q) (fun _ q => q) fun _ _ q => q
    rcases hc with z | z
    · rw [z]; exact nit b u e
    · exact nit c _ z
theorem Inv.tok (I : Inv X pins σ H s) (t : Nat) : Inv X pins σ H { s with toks := t } := I.un (h' := s.heap) (t' := t) Un.refl I.hok
/-- all objects kept -/
theorem Inv.kept {t' : Nat} (I : Inv X pins σ H s) (k : ∀ b u, s.heap.get? b = some u → h'.get? b = some u) : Inv X pins σ H { s with heap := h', toks := t' } := I.un (Un.kept k) (I.hok.kept k)
/-- a new object laid and tracked -/
theorem Inv.laid {a : Addr} {o : HO} {t' : Nat} (I : Inv X pins σ H s) (k : ∀ b u, s.heap.get? b = some u → h'.get? b = some u) (hp : s.heap.objs.size ≤ a) (new : ObjOk X.prog X.w (upd H a o) h' a o) :
    Inv X pins σ (upd H a o) { s with heap := h', toks := t' } := I.un (Un.laid k hp (I.hok.fresh hp)) (I.hok.laid k hp new)
/-- an object written -/
theorem Inv.write {x e : Addr} {o : HO} {t' : Nat} (I : Inv X pins σ H s) (mu : Mut (H x)) (he : e = x ∨ H e = some (.own x)) (k : ∀ b u, b ≠ e → s.heap.get? b = some u → h'.get? b = some u) (heo : ∃ u, h'.get? e = some u)
    (new : ObjOk X.prog X.w (upd H x o) h' x o) : Inv X pins σ (upd H x o) { s with heap := h', toks := t' } := I.un (Un.write mu he k heo) (I.hok.write mu he k heo new)
theorem Inv.pins_of {pins' : List (Addr × Obj)} (I : Inv X pins σ H s) (h : ∀ p ∈ pins', s.heap.get? p.1 = some p.2 ∧ H p.1 = none ∧ p.1 ≠ X.env.locals ∧ p.1 ∉ X.fs ∧ ∀ v, p.2.data ≠ .cell v) : Inv X pins' σ H s :=
  ⟨I.ok, I.os, I.bare, I.base, I.loc, I.cell, I.free, I.freeC, fun p hp => (List.mem_append.mp hp).elim (fun z => I.pin p (List.mem_append_left _ z)) (h p), I.hok, I.len⟩

theorem nodup_ix {N : List Str} (hN : N.Nodup) {i j : Nat} {x : Str} (a : N[i]? = some x) (b : N[j]? = some x) : i = j := by
  obtain ⟨h1, e1⟩ := List.getElem?_eq_some_iff.mp a
  obtain ⟨h2, e2⟩ := List.getElem?_eq_some_iff.mp b
  exact (List.getElem_inj hN).mp (e1.trans e2.symm)

/-- a name is stored; what changed -/
theorem store_ok2 {M : Model} {A : Around} {E : Value → Shared → Prop} {i : Nat} {x : Str} {v : V} {u : Value} {Q : Unit → Shared → Prop} (I : Inv X pins σ H s) (hN : X.N.Nodup) (hi : X.N[i]? = some x) (hx : Loc X.env.scope x) (r : RelV v u)
    (h : ∀ s', Inv X pins (σ.set i (some v)) H s' → (∃ a, Heap.SameBut a s.heap s'.heap ∧ (a = X.env.locals ∨ X.env.cells.lookup x = some a)) → Q () s') (hf : X.fn x = true ∨ X.env.scope.names.lookup x = some .local := by first | exact .inl rfl | exact .inr rfl | assumption) : wpAny M A (storeName X.env x u) Q E s := by
  obtain ⟨m, hn, hl⟩ := id I.loc
  have hcls : (X.env.scope.kind == .class || (X.env.scope.kind == .module && X.env.locals != X.env.globals)) = false := by rw [I.ok.kind]; rfl
  have hiσ : i < σ.length := by rw [I.len]; exact (List.getElem?_eq_some_iff.mp hi).1
  have cne := I.cne
  have tracked : ∀ {a : Addr} {h' : Heap}, (∃ o, s.heap.get? a = some o ∧ H a = none) → Heap.SameBut a s.heap h' → HOk X.prog X.w H h' := fun {a h'} ha hs b ob e => by
    obtain ⟨_, _, hfree⟩ := ha
    refine (I.hok b ob e).stay (fun c w' hc q => (hs.2 c ?_).trans q) (fun _ q => q) fun _ _ q => q
    rintro rfl
    rcases hc with rfl | hc
    · rw [hfree] at e; cases e
    · rw [hfree] at hc; cases hc
  rcases hx with hk | hk
  · refine wpAny_storeName_local hk hn (fun h' hn' hs => ?_) hcls
    obtain ⟨oL, _, _, hoL, _⟩ := id hn
    refine h _ ⟨I.ok, I.os, I.bare, ⟨fun b o e n hb hx => ?_, fun b o e n hb hx => ?_, I.base.free, fun b o e hx => ?_, I.base.tups, I.base.frzs, I.base.tbls⟩, ⟨_, hn', fun j y v' e1 e2 e3 => ?_⟩, fun y c e => ?_, I.free, I.freeC, fun p hp => ?_, tracked ⟨oL, hoL, I.free⟩ hs, by simpa using I.len⟩ ⟨_, hs, .inl rfl⟩
    · exact (hs.2 b (Nat.ne_of_lt (Nat.lt_of_lt_of_le (Heap.lt_size e) I.ok.above))).trans (I.base.keep b o e n hb hx)
    · obtain ⟨sl, e1⟩ := I.base.slot b o e n hb hx
      exact ⟨sl, (hs.2 b (Nat.ne_of_lt (Nat.lt_of_lt_of_le (Heap.lt_size e) I.ok.above))).trans e1⟩
    · obtain ⟨o', e1⟩ := I.base.there b o e hx
      exact ⟨o', (hs.2 b (Nat.ne_of_lt (Nat.lt_of_lt_of_le (Heap.lt_size e) I.ok.above))).trans e1⟩
    · by_cases hj : j = i
      · subst hj
        rw [hi] at e1; cases e1
        rw [List.getElem?_set_self hiσ] at e2
        cases e2
        exact ⟨u, r, .inl ⟨hk, by simp⟩⟩
      · rw [List.getElem?_set_ne (Ne.symm hj)] at e2
        obtain ⟨u', r', q⟩ := hl j y v' e1 e2 e3
        refine ⟨u', r', ?_⟩
        rcases q with ⟨k, e⟩ | ⟨k, c, e, z⟩
        · refine .inl ⟨k, ?_⟩
          have : y ≠ x := fun e => hj (nodup_ix hN e1 (e ▸ hi))
          simp [this, e]
        · exact .inr ⟨k, c, e, z.sameBut hs (cne y c e)⟩
    · obtain ⟨w', z⟩ := I.cell y c e
      exact ⟨w', z.sameBut hs (cne y c e)⟩
    · obtain ⟨e, n, ne, nf, d⟩ := I.pin p hp
      exact ⟨(hs.2 p.1 ne).trans e, n, ne, nf, d⟩
  · have hfn : X.fn x = true := by
      rcases hf with z | z
      · exact z
      · rw [z] at hk; cases hk
    obtain ⟨c, hc⟩ := I.ok.has x (.inl hk)
    obtain ⟨w', z⟩ := I.cell x c hc
    refine wpAny_storeName_cell I.ok.kind hk hc z (fun h' hc' hs => ?_)
    obtain ⟨oc, hoc, hocd⟩ := id z
    refine h { s with heap := h' } ⟨I.ok, I.os, I.bare, ⟨fun b o e n hb hx => ?_, fun b o e n hb hx => ?_, I.base.free, fun b o e hx => ?_, I.base.tups, I.base.frzs, I.base.tbls⟩, ⟨m, hn.sameBut hs (Ne.symm (cne x c hc)), fun j y v' e1 e2 e3 => ?_⟩, fun y c' e => ?_, I.free, I.freeC, fun p hp => ?_, tracked ⟨oc, hoc, I.freeC x c hc⟩ hs, by simpa using I.len⟩ ⟨c, hs, .inr hc⟩
    · exact (hs.2 b (Nat.ne_of_lt (Nat.lt_of_lt_of_le (Heap.lt_size e) (I.ok.cab x c hfn hc)))).trans (I.base.keep b o e n hb hx)
    · obtain ⟨sl, e1⟩ := I.base.slot b o e n hb hx
      exact ⟨sl, (hs.2 b (Nat.ne_of_lt (Nat.lt_of_lt_of_le (Heap.lt_size e) (I.ok.cab x c hfn hc)))).trans e1⟩
    · obtain ⟨o', e1⟩ := I.base.there b o e hx
      exact ⟨o', (hs.2 b (Nat.ne_of_lt (Nat.lt_of_lt_of_le (Heap.lt_size e) (I.ok.cab x c hfn hc)))).trans e1⟩
    · by_cases hj : j = i
      · subst hj
        rw [hi] at e1; cases e1
        rw [List.getElem?_set_self hiσ] at e2
        cases e2
        exact ⟨u, r, .inr ⟨.inl hk, c, hc, hc'⟩⟩
      · rw [List.getElem?_set_ne (Ne.symm hj)] at e2
        obtain ⟨u', r', q⟩ := hl j y v' e1 e2 e3
        refine ⟨u', r', ?_⟩
        rcases q with q | ⟨k, c', e, z'⟩
        · exact .inl q
        · refine .inr ⟨k, c', e, z'.sameBut hs ?_⟩
          rintro rfl
          exact hj (nodup_ix hN e1 (I.ok.inj _ _ _ e hc ▸ hi))
    · by_cases hcc : c' = c
      · subst hcc; exact ⟨_, hc'⟩
      · obtain ⟨w2, z2⟩ := I.cell y c' e
        exact ⟨w2, z2.sameBut hs hcc⟩
    · obtain ⟨e, n, ne, nf, d⟩ := I.pin p hp
      refine ⟨(hs.2 p.1 ?_).trans e, n, ne, nf, d⟩
      intro q
      rw [q, hoc] at e
      have q' : oc = p.2 := Option.some.inj e
      exact d w' (by rw [← q']; exact hocd)
theorem store_ok {M : Model} {A : Around} {E : Value → Shared → Prop} {i : Nat} {x : Str} {v : V} {u : Value} {Q : Unit → Shared → Prop} (I : Inv X pins σ H s) (hN : X.N.Nodup) (hi : X.N[i]? = some x) (hx : Loc X.env.scope x) (r : RelV v u)
    (h : ∀ s', Inv X pins (σ.set i (some v)) H s' → Q () s') (hf : X.fn x = true ∨ X.env.scope.names.lookup x = some .local := by first | exact .inl rfl | exact .inr rfl | assumption) : wpAny M A (storeName X.env x u) Q E s :=
  store_ok2 I hN hi hx r (fun s' I' _ => h s' I') hf
/-- behind a call or a block, the state as it is -/
theorem Inv.call' {s' : Shared} {ch : List Addr} (I : Inv X pins σ H s) (ho : s'.os = s.os) (u : Un (frs X.stack) ch H H' s.heap s'.heap) (hok : HOk X.prog X.w H' s'.heap) (hg : AllBare s'.gens)
    (hch : ∀ b ∈ ch, (b ∈ X.ex ∨ X.s₀.heap.objs.size ≤ b) ∧ b ≠ X.env.locals ∧ (∀ x c, X.env.cells.lookup x = some c → c ≠ b) ∧ ∀ p ∈ X.pn ++ pins, p.1 ≠ b) : Inv X pins σ H' s' := by
  obtain ⟨h', g', d', t', o'⟩ := s'
  have e : o' = s.os := ho
  subst e
  exact I.call (g' := g') (t' := t') (d' := d') u hok hg hch
end

/-! ### the judgements -/
/-- an exception: its class, its own dict's address (where it has one), the abstract heap behind it -/
abbrev XK := Value → Option Addr → Hp → Prop
abbrev St := List (Option V)
abbrev VK := V → Hp → Prop
/-- an expression's reading; a test's; an argument list's -/
abbrev TE := St → Hp → VK → Prop
abbrev TT := St → Hp → (Bool → Hp → Prop) → Prop
abbrev TA := St → Hp → (List V → Hp → Prop) → Prop
/-- what is wanted behind a statement -/
structure Ends where
  nx : St → Hp → Prop
  rt : VK
  bk : St → Hp → Prop := fun _ _ => False
  ct : St → Hp → Prop := fun _ _ => False
abbrev TS := Ends → St → Hp → Prop

def EP (X : Cx) (pins : List (Addr × Obj)) (σ : St) (Q : VK) (u : Value) (s' : Shared) : Prop := ∃ v H', Inv X pins σ H' s' ∧ RelV v u ∧ Q v H'
def TP (X : Cx) (pins : List (Addr × Obj)) (σ : St) (Q : Bool → Hp → Prop) (b : Bool) (s' : Shared) : Prop := ∃ H', Inv X pins σ H' s' ∧ Q b H'
def AP (X : Cx) (pins : List (Addr × Obj)) (σ : St) (Q : List V → Hp → Prop) (us : List Value) (s' : Shared) : Prop := ∃ vs H', Inv X pins σ H' s' ∧ Vals vs us ∧ Q vs H'
def SP (X : Cx) (pins : List (Addr × Obj)) (D : Ends) (f : Flow) (s' : Shared) : Prop :=
  match f with
  | .next => ∃ σ' H', Inv X pins σ' H' s' ∧ D.nx σ' H'
  | .brk => ∃ σ' H', Inv X pins σ' H' s' ∧ D.bk σ' H'
  | .cont => ∃ σ' H', Inv X pins σ' H' s' ∧ D.ct σ' H'
  | .ret u => ∃ v σ' H', Inv X pins σ' H' s' ∧ RelV v u ∧ D.rt v H'

def PE (X : Cx) (e : Expr) (t : TE) : Prop :=
  ∀ (pins : List (Addr × Obj)) (s : Shared) (σ : St) (H : Hp) (Q : VK), Inv X pins σ H s → t σ H Q → wpAny (model X.prog X.w) X.A (eval e X.env) (EP X pins σ Q) X.xe s
def PT (X : Cx) (e : Expr) (t : TT) : Prop :=
  ∀ (pins : List (Addr × Obj)) (s : Shared) (σ : St) (H : Hp) (Q : Bool → Hp → Prop), Inv X pins σ H s → t σ H Q → wpAny (model X.prog X.w) X.A (isTrue e X.env (eval e X.env)) (TP X pins σ Q) X.xe s
/-- a test whatever its 'whole' is (and, or) -/
def PW (X : Cx) (e : Expr) (t : TT) : Prop :=
  ∀ (whole : Sem Value) (pins : List (Addr × Obj)) (s : Shared) (σ : St) (H : Hp) (Q : Bool → Hp → Prop), Inv X pins σ H s → t σ H Q → wpAny (model X.prog X.w) X.A (isTrue e X.env whole) (TP X pins σ Q) X.xe s
theorem PW.pt {X : Cx} {e : Expr} {t : TT} (h : PW X e t) : PT X e t := h _
/-- an argument list (no star), from the left -/
def PA (X : Cx) (es : List Expr) (t : TA) : Prop :=
  ∀ (pos : Pos) (pins : List (Addr × Obj)) (s : Shared) (σ : St) (H : Hp) (Q : List V → Hp → Prop), Inv X pins σ H s → t σ H Q → wpAny (model X.prog X.w) X.A (spliced (backTo pos (starEach es X.env))) (AP X pins σ Q) X.xe s
def PS (X : Cx) (st : Stmt) (t : TS) : Prop :=
  ∀ (pins : List (Addr × Obj)) (s : Shared) (σ : St) (H : Hp) (D : Ends), Inv X pins σ H s → t D σ H → wpAny (model X.prog X.w) X.A (exec st X.env) (SP X pins D) X.xe s
def PSs (X : Cx) (st : List Stmt) (t : TS) : Prop :=
  ∀ (pins : List (Addr × Obj)) (s : Shared) (σ : St) (H : Hp) (D : Ends), Inv X pins σ H s → t D σ H → wpAny (model X.prog X.w) X.A (execs st X.env) (SP X pins D) X.xe s
/-- weaken the end -/
theorem thn {α : Type} {t : Sem α} {Q Q' : α → Shared → Prop} {M : Model} {A : Around} {E : Value → Shared → Prop} {s : Shared} (h : wpAny M A t Q E s) (hQ : ∀ a s, Q a s → Q' a s) : wpAny M A t Q' E s := wpAny_mono h hQ fun _ _ x => x
end L2

namespace L2
open PySem PySem.Spec PyProof.Rows
section
variable {X : Cx}

/-! ### names and constants -/
def tVar (i : Nat) : TE := fun σ H Q => ∃ v, σ[i]? = some (some v) ∧ Q v H
def tC (v : V) : TE := fun _ H Q => Q v H
theorem pe_var {i : Nat} {x : Str} {pos : Pos} (hN : X.N[i]? = some x) (hv : Vis X.env.scope x) (hd : (x == ("__debug__" : Str)) = false := by decide) (hcd : (x == ("__classdict__" : Str)) = false := by decide) : PE X (.Name x pos) (tVar i) := by
  intro pins s σ H Q I h
  obtain ⟨v, e, h⟩ := h
  obtain ⟨m, hn, hl⟩ := I.loc
  obtain ⟨u, r, l⟩ := hl i x v hN e hv
  have fin : EP X pins σ Q u s := ⟨v, H, I, r, h⟩
  rcases l with ⟨hk, hm⟩ | ⟨hk, c, hc, hcell⟩
  · exact wpAny_Name (wpAny_loadName_local I.ok.kind hk hn hm fin) hd
  · rcases hk with hk | hk
    · exact wpAny_Name (wpAny_loadName_cell I.ok.kind hk hc hcell fin) hd
    · exact wpAny_Name (wpAny_loadName_free I.ok.kind hk hc hcell fin hcd) hd
theorem pe_int {i j pos} : PE X (.Constant (.int i) j pos) (tC (.int i)) := fun _ _ _ H _ I h => wpAny_Constant_int ⟨.int i, H, I.tok _, ⟨_, rfl⟩, h⟩
theorem pe_bl {b j pos} : PE X (.Constant (.bool b) j pos) (tC (.bl b)) := fun _ _ _ H _ I h => Constant_bool ⟨.bl b, H, I, rfl, h⟩
theorem pe_non {j pos} : PE X (.Constant .none j pos) (tC .non) := fun _ _ _ H _ I h => Constant_none ⟨.non, H, I, rfl, h⟩
theorem pe_str {x j pos} : PE X (.Constant (.str x) j pos) (tC (.str x)) := fun _ _ _ H _ I h => Calls.Constant_str ⟨.str x, H, I.tok _, ⟨_, rfl⟩, h⟩

/-- a global name of the def -/
def Gl (X : Cx) (x : Str) : Prop := X.env.kindOf x = some .globalImplicit
theorem ld_glob {E : Value → Shared → Prop} {pins : List (Addr × Obj)} {s : Shared} {σ : St} {H : Hp} {x : Str} {u : Value} {pos : Pos} {Q : Value → Shared → Prop} (I : Inv X pins σ H s) (hg : Gl X x) (hm : X.mg x = some u) (h : Q u s)
    (hd : (x == ("__debug__" : Str)) = false := by decide) : wpAny (model X.prog X.w) X.A (eval (.Name x pos) X.env) Q E s :=
  Calls.Name_function_global I.ok.kind hg (Calls.loadGlobal_global (by rw [I.ok.glob]; exact I.mod.glob.keeps I.bk) hm h) hd
theorem ld_blt {E : Value → Shared → Prop} {pins : List (Addr × Obj)} {s : Shared} {σ : St} {H : Hp} {x : Str} {u : Value} {pos : Pos} {Q : Value → Shared → Prop} (I : Inv X pins σ H s) (hg : Gl X x) (hm : X.mg x = none) (hv : bootBuiltins x = some u) (h : Q u s)
    (hn : x ≠ "__name__" := by decide) (hd : (x == ("__debug__" : Str)) = false := by decide) : wpAny (model X.prog X.w) X.A (eval (.Name x pos) X.env) Q E s := by
  obtain ⟨mb, h1, h2⟩ := I.mod.blt
  exact Calls.Name_function_global I.ok.kind hg (Calls.loadGlobal_builtin (by rw [I.ok.glob]; exact I.mod.glob.keeps I.bk) hm (by rw [I.ok.blt]; exact h1.keeps I.bk) ((h2 x hn).trans hv) h) hd
/-- a module's constant, a class, a function, as a value -/
theorem pe_glob {x : Str} {v : V} {u : Value} {pos : Pos} (hg : Gl X x) (hm : X.mg x = some u) (r : RelV v u) (hd : (x == ("__debug__" : Str)) = false := by decide) : PE X (.Name x pos) (tC v) :=
  fun _ _ _ H _ I h => ld_glob I hg hm ⟨v, H, I, r, h⟩ hd
theorem pe_bltn {x : Str} {v : V} {u : Value} {pos : Pos} (hg : Gl X x) (hm : X.mg x = none) (hv : bootBuiltins x = some u) (r : RelV v u) (hn : x ≠ "__name__" := by decide) (hd : (x == ("__debug__" : Str)) = false := by decide) : PE X (.Name x pos) (tC v) :=
  fun _ _ _ H _ I h => ld_blt I hg hm hv ⟨v, H, I, r, h⟩ hn hd

/-! ### arithmetic -/
variable {a b : Expr} {ta tb : TE} {pos : Pos}

/-! ### comparisons -/

/-! ### and, or, not -/
variable {tA tB' : TT} {rest : List Expr}
def tAnd (t u : TT) : TT := fun σ H Q => t σ H fun c H1 => if c = true then u σ H1 Q else Q false H1
def tOr (t u : TT) : TT := fun σ H Q => t σ H fun c H1 => if c = true then Q true H1 else u σ H1 Q
def tNot (t : TT) : TT := fun σ H Q => t σ H fun c H1 => Q (!c) H1
theorem pw_and1 (ha : PT X a tA) : PW X (.BoolOp .And [a] pos) tA := by
  intro wh pins s σ H Q I h
  refine isTrue_and (thn (ha pins s σ H Q I h) fun c s1 e => ?_)
  cases c with
  | true => exact isTrue_and_nil e
  | false => exact e
theorem pw_or1 (ha : PT X a tA) : PW X (.BoolOp .Or [a] pos) tA := by
  intro wh pins s σ H Q I h
  refine isTrue_or (thn (ha pins s σ H Q I h) fun c s1 e => ?_)
  cases c with
  | false => exact isTrue_or_nil e
  | true => exact e
theorem pw_and (ha : PT X a tA) (hb : PW X (.BoolOp .And (b :: rest) pos) tB') : PW X (.BoolOp .And (a :: b :: rest) pos) (tAnd tA tB') := by
  intro wh pins s σ H Q I h
  refine isTrue_and (thn (ha pins s σ H _ I h) fun c s1 ⟨H1, I1, q1⟩ => ?_)
  cases c with
  | true => exact hb wh pins s1 σ H1 Q I1 q1
  | false => exact ⟨H1, I1, q1⟩
theorem pw_or (ha : PT X a tA) (hb : PW X (.BoolOp .Or (b :: rest) pos) tB') : PW X (.BoolOp .Or (a :: b :: rest) pos) (tOr tA tB') := by
  intro wh pins s σ H Q I h
  refine isTrue_or (thn (ha pins s σ H _ I h) fun c s1 ⟨H1, I1, q1⟩ => ?_)
  cases c with
  | true => exact ⟨H1, I1, q1⟩
  | false => exact hb wh pins s1 σ H1 Q I1 q1
theorem pt_not (ha : PT X a tA) : PT X (.UnaryOp .Not a pos) (tNot tA) := by
  intro pins s σ H Q I h
  exact isTrue_not (ha pins s σ H (fun c H1 => Q (!c) H1) I h)
/-- .. as values (bools) -/
def tAndV (ta tb : TE) : TE := fun σ H Q => ta σ H fun x H1 => ∃ c, x = .bl c ∧ if c = true then tb σ H1 Q else Q (.bl false) H1
def tNotV (ta : TE) : TE := fun σ H Q => ta σ H fun x H1 => ∃ c, x = .bl c ∧ Q (.bl (!c)) H1
theorem pe_one {op} {t : TE} (h : PE X a t) : PE X (.BoolOp op [a] pos) t := fun pins s σ H Q I hw => BoolOp_one (h pins s σ H Q I hw)
theorem pe_and (ha : PE X a ta) (hb : PE X (.BoolOp .And (b :: rest) pos) tb) : PE X (.BoolOp .And (a :: b :: rest) pos) (tAndV ta tb) := by
  intro pins s σ H Q I h
  refine BoolOp_and (thn (ha pins s σ H _ I h) fun v s1 ⟨x, H1, I1, r1, q1⟩ => ?_)
  obtain ⟨c, rfl, q1⟩ := q1
  cases r1
  refine wpAny_truthy_bool ?_
  cases c with
  | true => exact hb pins s1 σ H1 Q I1 q1
  | false => exact ⟨.bl false, H1, I1, rfl, q1⟩
theorem pe_not (ha : PE X a ta) : PE X (.UnaryOp .Not a pos) (tNotV ta) := by
  intro pins s σ H Q I h
  refine UnaryOp_ (thn (ha pins s σ H _ I h) fun v s1 ⟨x, H1, I1, r1, q1⟩ => ?_)
  obtain ⟨c, rfl, q1⟩ := q1
  cases r1
  exact not_of (wpAny_truthy_bool ⟨.bl (!c), H1, I1, rfl, q1⟩)
/-- a if t else b -/
def tIf (t : TT) (ta tb : TE) : TE := fun σ H Q => t σ H fun c H1 => if c = true then ta σ H1 Q else tb σ H1 Q
theorem pe_ifExp {c : Expr} (hc : PT X c tA) (ha : PE X a ta) (hb : PE X b tb) : PE X (.IfExp c a b pos) (tIf tA ta tb) := by
  intro pins s σ H Q I h
  refine wpAny_IfExp (thn (hc pins s σ H _ I h) fun d s1 ⟨H1, I1, q1⟩ => ?_)
  cases d with
  | true => exact ha pins s1 σ H1 Q I1 q1
  | false => exact hb pins s1 σ H1 Q I1 q1
end
end L2

namespace L2
open PySem PySem.Spec PyProof.Rows

/-! ### a list, a tuple that is read: tracked, frozen, or an object of the module -/
def SqL (K : PySem.W.Frag) (H : Hp) (a : Addr) (xs : List V) : Prop :=
  Rd H a (.lst xs) ∨
    ∃ (o : Obj) (its : Array Value) (n : Nat), K.lookup a = some o ∧ o.cls = .type "list" ∧ o.dict = none ∧ o.data = .seq its n ∧ its.size ≤ sizeLine ∧ Vals xs its.toList
def SqT (K : PySem.W.Frag) (H : Hp) (a : Addr) (xs : List V) : Prop :=
  Rd H a (.tup xs) ∨
    ∃ (o : Obj) (its : Array Value) (n : Nat), K.lookup a = some o ∧ o.cls = .type "tuple" ∧ o.data = .seq its n ∧ its.size ≤ sizeLine ∧ Vals xs its.toList
def absV : Value → Option V
  | .none => some .non
  | .bool b => some (.bl b)
  | .int i _ => some (.int i)
  | .str x _ => some (.str x)
  | .bytes b _ => some (.byt b)
  | .float b _ => some (.flt b)
  | .ref a => some (.ref a)
  | .type n => some (.ty n)
  | _ => none
theorem RelV.abs {x : V} {u : Value} (r : RelV x u) : absV u = some x := by
  cases x with
  | non => cases r; rfl
  | bl _ => cases r; rfl
  | int _ => obtain ⟨t, rfl⟩ := r; rfl
  | str _ => obtain ⟨t, rfl⟩ := r; rfl
  | byt _ => obtain ⟨t, rfl⟩ := r; rfl
  | flt _ => obtain ⟨t, rfl⟩ := r; rfl
  | ref _ => cases r; rfl
  | ty _ => cases r; rfl
theorem RelV.inj {x y : V} {u : Value} (r : RelV x u) (q : RelV y u) : x = y := Option.some.inj (r.abs.symm.trans q.abs)
theorem Vals.inj : ∀ {xs ys : List V} {us : List Value}, Vals xs us → Vals ys us → xs = ys
  | _, _, _, .nil, .nil => rfl
  | _, _, _, .cons r t, .cons r' t' => by rw [r.inj r', Vals.inj t t']
section
variable {X : Cx} {pins : List (Addr × Obj)} {σ : St} {H : Hp} {s : Shared} {a : Addr} {xs ys : List V}
theorem SqL.of {K : PySem.W.Frag} (h : H a = some (.lst xs)) : SqL K H a xs := .inl (.inl h)
theorem SqT.of {K : PySem.W.Frag} (h : H a = some (.tup xs)) : SqT K H a xs := .inl (.inl h)
theorem Inv.list (I : Inv X pins σ H s) (h : SqL X.K H a xs) : ∃ its : List Value, Vals xs its ∧ PlainL s.heap a its.toArray ∧ xs.length ≤ sizeLine := by
  rcases h with h | ⟨o, its, n, hk, hc, hd, hs, hz, r⟩
  · obtain ⟨z, its, n, r, e⟩ := h.ok I.hok
    exact ⟨its, r, ⟨_, n, e, rfl, rfl, rfl⟩, z⟩
  · refine ⟨its.toList, r, ⟨o, n, I.kIn a o hk, hc, hd, by simpa using hs⟩, ?_⟩
    have e := r.length
    simp only [Array.length_toList] at e
    omega
theorem Inv.tuple (I : Inv X pins σ H s) (h : SqT X.K H a xs) : ∃ its : List Value, Vals xs its ∧ IsTup s.heap a its.toArray ∧ xs.length ≤ sizeLine := by
  rcases h with h | ⟨o, its, n, hk, hc, hs, hz, r⟩
  · obtain ⟨z, its, r, p⟩ := h.ok I.hok
    exact ⟨its, r, p, z⟩
  · refine ⟨its.toList, r, ⟨o, I.kIn a o hk, hc, n, by simpa using hs⟩, ?_⟩
    have e := r.length
    simp only [Array.length_toList] at e
    omega
theorem Inv.tuple_inj (I : Inv X pins σ H s) (h : SqT X.K H a xs) (h' : SqT X.K H a ys) : xs = ys := by
  obtain ⟨its, r, ⟨o, e, _, n, d⟩, _⟩ := I.tuple h
  obtain ⟨its', r', ⟨o', e', _, n', d'⟩, _⟩ := I.tuple h'
  rw [e] at e'; cases e'
  rw [d] at d'
  injection d' with d1 _
  have : its = its' := by simpa using congrArg Array.toList d1
  subst this
  exact r.inj r'
end

/-! ### another wish about exceptions -/
abbrev Cx.wish (X : Cx) (E : Value → Shared → Prop) : Cx := { X with xe := E }
/-- no exception leaves -/
abbrev Cx.nox (X : Cx) : Cx := X.wish fun _ _ => False
theorem Cx.Ok.wish {X : Cx} (ok : X.Ok) (E : Value → Shared → Prop) : (X.wish E).Ok :=
  ⟨ok.mod, ok.kind, ok.glob, ok.blt, ok.above, ok.inj, ok.has, ok.cab, ok.hd, ok.frames, ok.stk, ok.exf, ok.bs, ok.bsz, ok.noex, ok.exfs, ok.funs, ok.frf⟩
theorem Cx.Ok.unwish {X : Cx} {E : Value → Shared → Prop} (ok : (X.wish E).Ok) : X.Ok :=
  ⟨ok.mod, ok.kind, ok.glob, ok.blt, ok.above, ok.inj, ok.has, ok.cab, ok.hd, ok.frames, ok.stk, ok.exf, ok.bs, ok.bsz, ok.noex, ok.exfs, ok.funs, ok.frf⟩
section
variable {X : Cx} {pins : List (Addr × Obj)} {σ : St} {H : Hp} {s : Shared} {E : Value → Shared → Prop}
theorem Inv.wish (I : Inv X pins σ H s) (E : Value → Shared → Prop) : Inv (X.wish E) pins σ H s := ⟨I.ok.wish E, I.os, I.bare, I.base, I.loc, I.cell, I.free, I.freeC, I.pin, I.hok, I.len⟩
theorem Inv.unwish (I : Inv (X.wish E) pins σ H s) : Inv X pins σ H s := ⟨I.ok.unwish, I.os, I.bare, I.base, I.loc, I.cell, I.free, I.freeC, I.pin, I.hok, I.len⟩
theorem SP.unwish {D : Ends} {f : Flow} {s' : Shared} (h : SP (X.wish E) pins D f s') : SP X pins D f s' := by
  cases f with
  | next => obtain ⟨σ', H', I, q⟩ := h; exact ⟨σ', H', I.unwish, q⟩
  | brk => obtain ⟨σ', H', I, q⟩ := h; exact ⟨σ', H', I.unwish, q⟩
  | cont => obtain ⟨σ', H', I, q⟩ := h; exact ⟨σ', H', I.unwish, q⟩
  | ret u => obtain ⟨v, σ', H', I, r, q⟩ := h; exact ⟨v, σ', H', I.unwish, r, q⟩
theorem PSs.nox {st : List Stmt} {t : TS} (h : PSs X.nox st t) : PSs X st t := fun pins s σ H D I hw =>
  wpAny_mono (h pins s σ H D (I.wish _) hw) (fun _ _ q => q.unwish) fun _ _ z => False.elim z
end

/-! ### blocks and small statements -/
section
variable {X : Cx} {st : Stmt} {rest : List Stmt} {t u : TS} {e : Expr} {te : TE} {pos : Pos}
def tNext : TS := fun D σ H => D.nx σ H
def tSeq (t u : TS) : TS := fun D σ H => t { D with nx := u D } σ H
theorem pss_nil : PSs X [] tNext := fun _ _ σ H _ I h => wpAny_execs_nil ⟨σ, H, I, h⟩
theorem pss_cons (h1 : PS X st t) (h2 : PSs X rest u) : PSs X (st :: rest) (tSeq t u) := by
  intro pins s σ H D I h
  refine wpAny_execs_cons (thn (h1 pins s σ H { D with nx := u D } I h) fun f s1 q => ?_)
  cases f with
  | next =>
    obtain ⟨σ', H', I', q⟩ := q
    exact h2 pins s1 σ' H' D I' q
  | ret v => exact q
  | brk => exact q
  | cont => exact q
theorem pss_one (h1 : PS X st t) : PSs X [st] t := by
  intro pins s σ H D I h
  refine wpAny_execs_cons (thn (h1 pins s σ H D I h) fun f s1 q => ?_)
  cases f with
  | next => exact wpAny_execs_nil q
  | ret v => exact q
  | brk => exact q
  | cont => exact q
/-- in a def's body nothing is shown -/
theorem Inv.quiet {pins : List (Addr × Obj)} {σ : St} {H : Hp} {s : Shared} (I : Inv X pins σ H s) : interactive X.env = false := by simp [interactive, I.ok.kind]
/-- an expression whose value is dropped -/
def tDrop (te : TE) : TS := fun D σ H => te σ H fun _ H1 => D.nx σ H1
theorem ps_expr (he : PE X e te) (hs : swapsWith e none pos.line X.env = pure false := by rfl) : PS X (.Expr e pos) (tDrop te) := by
  intro pins s σ H D I h
  exact wpAny_Expr_any (thn (he pins s σ H _ I h) fun v s1 ⟨x, H1, I1, r1, q1⟩ => ⟨σ, H1, I1, q1⟩) I.quiet hs
def tRet (te : TE) : TS := fun D σ H => te σ H D.rt
theorem ps_ret (he : PE X e te) : PS X (.Return (some e) pos) (tRet te) := by
  intro pins s σ H D I h
  exact wpAny_Return_some (thn (he pins s σ H _ I h) fun v s1 ⟨x, H1, I1, r1, q1⟩ => ⟨x, σ, H1, I1, r1, q1⟩)
def tIfS (c : TT) (t u : TS) : TS := fun D σ H => c σ H fun b H1 => if b = true then t D σ H1 else u D σ H1
theorem ps_if {c : Expr} {a b : List Stmt} {tc : TT} (hc : PT X c tc) (ha : PSs X a t) (hb : PSs X b u) : PS X (.If c a b pos) (tIfS tc t u) := by
  intro pins s σ H D I h
  refine wpAny_If (thn (hc pins s σ H _ I h) fun d s1 ⟨H1, I1, q1⟩ => ?_)
  cases d with
  | true => exact ha pins s1 σ H1 D I1 q1
  | false => exact hb pins s1 σ H1 D I1 q1
end

/-! ### targets -/
abbrev TG := V → St → Hp → (St → Hp → Prop) → Prop
abbrev TGs := List V → St → Hp → (St → Hp → Prop) → Prop
def PG (X : Cx) (target : Expr) (t : TG) : Prop :=
  ∀ (pins : List (Addr × Obj)) (s : Shared) (σ : St) (H : Hp) (v : V) (u : Value) (Q : St → Hp → Prop), Inv X pins σ H s → RelV v u → t v σ H Q →
    wpAny (model X.prog X.w) X.A (assign target X.env u) (fun _ s' => ∃ σ' H', Inv X pins σ' H' s' ∧ Q σ' H') X.xe s
/-- several targets, one after another -/
def PGs (X : Cx) (ts : List Expr) (t : TGs) : Prop :=
  ∀ (pins : List (Addr × Obj)) (s : Shared) (σ : St) (H : Hp) (vs : List V) (us : List Value) (Q : St → Hp → Prop), Inv X pins σ H s → Vals vs us → t vs σ H Q →
    wpAny (model X.prog X.w) X.A (assignInOrder ((assignEach ts X.env).map (·.2)) us) (fun _ s' => ∃ σ' H', Inv X pins σ' H' s' ∧ Q σ' H') X.xe s
/-- o[i] = v, by values -/
abbrev TSet := V → V → V → Hp → (Hp → Prop) → Prop
def PSet (X : Cx) (t : TSet) : Prop :=
  ∀ (pins : List (Addr × Obj)) (s : Shared) (σ : St) (H : Hp) (o i v : V) (ov iv u : Value) (Q : Hp → Prop), Inv X pins σ H s → RelV o ov → RelV i iv → RelV v u → t o i v H Q →
    wpAny (model X.prog X.w) X.A (setItem ov iv u) (fun _ s' => ∃ H', Inv X pins σ H' s' ∧ Q H') X.xe s
/-- a op= b, by values -/
abbrev TIp := V → V → Hp → VK → Prop
def PIp (X : Cx) (op : Operator) (t : TIp) : Prop :=
  ∀ (pins : List (Addr × Obj)) (s : Shared) (σ : St) (H : Hp) (x y : V) (v u : Value) (Q : VK), Inv X pins σ H s → RelV x v → RelV y u → t x y H Q →
    wpAny (model X.prog X.w) X.A (inplaceOp op v u) (EP X pins σ Q) X.xe s
section
variable {X : Cx} {pos : Pos}
def gName (i : Nat) : TG := fun v σ H Q => Q (σ.set i (some v)) H
theorem pg_name {i : Nat} {x : Str} (hN : X.N.Nodup) (hi : X.N[i]? = some x) (hx : Loc X.env.scope x) (hf : X.fn x = true ∨ X.env.scope.names.lookup x = some .local := by first | exact .inl rfl | exact .inr rfl | assumption) : PG X (.Name x pos) (gName i) := by
  intro pins s σ H v u Q I r h
  exact wpAny_assign_Name (store_ok I hN hi hx r (fun s' I' => ⟨_, H, I', h⟩) hf)
def gNil : TGs := fun vs σ H Q => vs = [] ∧ Q σ H
def gCons (t : TG) (u : TGs) : TGs := fun vs σ H Q => ∃ v r, vs = v :: r ∧ t v σ H fun σ' H' => u r σ' H' Q
theorem pgs_nil : PGs X [] gNil := by
  intro pins s σ H vs us Q I r h
  obtain ⟨e, h⟩ := h
  subst e
  cases r
  exact assignInOrder_nil ⟨σ, H, I, h⟩
theorem pgs_cons {e : Expr} {es : List Expr} {t : TG} {u : TGs} (h1 : PG X e t) (h2 : PGs X es u)
    (hs : (assignEach (e :: es) X.env).map (·.2) = assign e X.env :: (assignEach es X.env).map (·.2) := by rfl) : PGs X (e :: es) (gCons t u) := by
  intro pins s σ H vs us Q I r h
  obtain ⟨v, vr, e1, h⟩ := h
  subst e1
  cases r with
  | cons r rr =>
    rw [hs]
    refine assignInOrder_cons (thn (h1 pins s σ H _ _ _ I r h) fun _ s1 ⟨σ1, H1, I1, q1⟩ => ?_)
    exact h2 pins s1 σ1 H1 _ _ Q I1 rr q1
/-- (a, b, ..) = a tuple of that length -/
def gTup (K : PySem.W.Frag) (n : Nat) (t : TGs) : TG := fun v σ H Q => ∃ a xs, v = .ref a ∧ SqT K H a xs ∧ xs.length = n ∧ t xs σ H Q
theorem pg_tup {es : List Expr} {k : Nat} {t : TGs} {n : Nat} (hc : X.calm = true) (h : PGs X es t)
    (hn : (assignEach es X.env).length = n := by rfl) (hst : (assignEach es X.env).findIdx? (·.1) = none := by rfl) : PG X (.Tuple es k pos) (gTup X.K n t) := by
  intro pins s σ H v u Q I r hw
  obtain ⟨a, xs, e1, hq, hl, hw⟩ := hw
  subst e1
  cases r
  obtain ⟨its, rv, ht, hz⟩ := I.tuple hq
  refine assign_Tuple_tuple (I.ok.hd hc) ht (by simp [hn, ← hl, rv.length]) hst fun h' hx => ?_
  have I1 : Inv X pins σ H { s with heap := h' } := I.kept (t' := s.toks) fun b o e => hx b o (Nat.ne_of_lt (Heap.lt_size e)) e
  exact h pins _ σ H xs _ Q I1 (by simpa using rv) hw
/-- o[i] = .. -/
def gSub (to ti : TE) (t : TSet) : TG := fun v σ H Q => to σ H fun o H1 => ti σ H1 fun i H2 => t o i v H2 fun H3 => Q σ H3
theorem pg_sub {o i : Expr} {to ti : TE} {t : TSet} (ho : PE X o to) (hi : PE X i ti) (hs : PSet X t)
    (ha : ∀ v, assign (.Subscript o i pos) X.env v = (do
      let ov ← holding [v] (eval o X.env)
      let iv ← holding [v, ov] (eval i X.env)
      standAt pos
      holding [v, ov, iv] (setItem ov iv v)
      release [v, ov, iv] []) := by intro _; rfl) : PG X (.Subscript o i pos) (gSub to ti t) := by
  intro pins s σ H v u Q I r h
  rw [ha]
  refine wpAny_bind (wpAny_holding (thn (ho pins s σ H _ I h) fun ov s1 ⟨x, H1, I1, r1, q1⟩ => ?_))
  refine wpAny_bind (wpAny_holding (thn (hi pins s1 σ H1 _ I1 q1) fun iv s2 ⟨y, H2, I2, r2, q2⟩ => ?_))
  refine wpAny_bind (wpAny_standAt (wpAny_bind (wpAny_holding (thn (hs pins s2 σ H2 x y v ov iv u _ I2 r1 r2 r q2) fun _ s3 ⟨H3, I3, q3⟩ => ?_))))
  exact wpAny_release ⟨σ, H3, I3, q3⟩
/-- target = value -/
def tAsg (te : TE) (g : TG) : TS := fun D σ H => te σ H fun x H1 => g x σ H1 D.nx
theorem ps_asg {tg e : Expr} {te : TE} {g : TG} (he : PE X e te) (hg : PG X tg g) (hs : swapsWithSole [tg] e pos.line X.env = pure false := by rfl) (hw : swappedStores [tg] e X.env = pure none := by rfl)
    (h1 : (assignEach [tg] X.env).map (·.2) = [assign tg X.env] := by rfl) : PS X (.Assign [tg] e pos) (tAsg te g) := by
  intro pins s σ H D I h
  refine wpAny_Assign_stores (thn (he pins s σ H _ I h) fun v s1 ⟨x, H1, I1, r1, q1⟩ => ?_) hs hw
  rw [h1]
  exact thn (hg pins s1 σ H1 x v _ I1 r1 q1) fun _ s2 q => q
/-- name = value -/
theorem ps_set {i : Nat} {x : Str} {e : Expr} {te : TE} {pos' : Pos} (hN : X.N.Nodup) (hi : X.N[i]? = some x) (hx : Loc X.env.scope x) (he : PE X e te) (hs : swapsWith e (some (.Name x pos')) pos.line X.env = pure false := by rfl) (hf : X.fn x = true ∨ X.env.scope.names.lookup x = some .local := by first | exact .inl rfl | exact .inr rfl | assumption) :
    PS X (.Assign [.Name x pos'] e pos) (tAsg te (gName i)) := by
  intro pins s σ H D I h
  refine wpAny_Assign_Name (thn (he pins s σ H _ I h) fun v s1 ⟨y, H1, I1, r1, q1⟩ => ?_) hs
  exact store_ok I1 hN hi hx r1 (fun s2 I2 => ⟨_, H1, I2, q1⟩) hf
/-- a, b = x, y with plain local names: stored from the right; the pair itself is not tracked (the opening rows as in PyProof/Rows/TupAssign.lean:23) -/
def tPar (i j : Nat) (ta : TA) : TS := fun D σ H => ta σ H fun vs H1 => ∃ v w, vs = [v, w] ∧ D.nx ((σ.set i (some v)).set j (some w)) H1
theorem ps_par {i j : Nat} {x y : Str} {a b : Expr} {ta : TA} {px py pt : Pos} {kt k2 pt2} (hc : X.calm = true) (hN : X.N.Nodup) (hi : X.N[i]? = some x) (hj : X.N[j]? = some y) (hij : i ≠ j)
    (hx : X.env.scope.names.lookup x = some .local) (hy : X.env.scope.names.lookup y = some .local) (ha : PA X [a, b] ta)
    (hw : swappedStores [.Tuple [.Name x px, .Name y py] kt pt] (.Tuple [a, b] k2 pt2) X.env = pure (some [x, y]))
    (hs : swapsWithSole [.Tuple [.Name x px, .Name y py] kt pt] (.Tuple [a, b] k2 pt2) pos.line X.env = pure false := by rfl) :
    PS X (.Assign [.Tuple [.Name x px, .Name y py] kt pt] (.Tuple [a, b] k2 pt2) pos) (tPar i j ta) := by
  intro pins s σ H D I h
  rw [exec_Assign_arm]
  refine wpAny_bind (wpAny_standAt ?_)
  rw [hs]
  refine wpAny_bind (wpAny_pure ?_)
  rw [if_neg (by decide)]
  refine wpAny_bind (Tuple_ (thn (ha _ pins s σ H _ I h) fun us s1 ⟨vs, H1, I1, r1, q1⟩ => ?_))
  obtain ⟨v, w, e1, q1⟩ := q1
  subst e1
  obtain ⟨u1, u2, rfl, rv, rw'⟩ : ∃ u1 u2, us = [u1, u2] ∧ RelV v u1 ∧ RelV w u2 := by
    cases r1 with
    | cons p q =>
      cases q with
      | cons p' q' =>
        cases q'
        exact ⟨_, _, rfl, p, p'⟩
  refine wpAny_newObj_type ?_ (by show 2 ≤ sizeLine; decide)
  have I2 : Inv X pins σ H1 { s1 with heap := s1.heap.push { cls := .type "tuple", data := .seq [u1, u2].toArray } } := I1.kept (t' := s1.toks) fun b o e => Heap.get?_push_of_some _ e
  rw [hw]
  refine wpAny_bind (wpAny_pure ?_)
  show wpAny (model X.prog X.w) X.A (do rule "assign.swapped-stores"; let items ← unpackItems (.ref s1.heap.objs.size) 2 none; assignInOrder [fun v => bindName X.env y v, fun v => bindName X.env x v] items.reverse; pure Flow.next) _ _ _
  refine wpAny_bind (wpAny_rule (wpAny_bind (unpackItems_tuple (items := #[u1, u2]) (I.ok.hd hc) (IsTup.new s1.heap _) fun h' hx' => ?_)))
  have I3 := I2.kept (h' := h') (t' := s1.toks) fun b o e => hx' b o (Nat.ne_of_lt (Heap.lt_size e)) e
  show wpAny _ _ (assignInOrder [fun v => bindName X.env y v, fun v => bindName X.env x v] [u2, u1] >>= fun _ => pure Flow.next) _ _ _
  refine wpAny_bind (assignInOrder_cons (wpAny_bindName (store_ok I3 hN hj (.inl hy) rw' (fun s2 I4 => ?_) (.inr hy))))
  refine assignInOrder_cons (wpAny_bindName (store_ok I4 hN hi (.inl hx) rv (fun s3 I5 => assignInOrder_nil (wpAny_pure ?_)) (.inr hx)))
  rw [List.set_comm _ _ (Ne.symm hij)] at I5
  exact ⟨_, H1, I5, q1⟩
/-- name op= e -/
def tAug (i : Nat) (te : TE) (ti : TIp) : TS := fun D σ H => ∃ x, σ[i]? = some (some x) ∧ te σ H fun y H1 => ti x y H1 fun z H2 => D.nx (σ.set i (some z)) H2
theorem ps_aug {i : Nat} {x : Str} {e : Expr} {te : TE} {op : Operator} {ti : TIp} {pos' : Pos} (hN : X.N.Nodup) (hi : X.N[i]? = some x) (hx : Loc X.env.scope x) (he : PE X e te) (ho : PIp X op ti) (hf : X.fn x = true ∨ X.env.scope.names.lookup x = some .local := by first | exact .inl rfl | exact .inr rfl | assumption) :
    PS X (.AugAssign (.Name x pos') op e pos) (tAug i te ti) := by
  intro pins s σ H D I h
  obtain ⟨v, e1, h⟩ := h
  obtain ⟨m, hn, hl⟩ := I.loc
  have vis : Vis X.env.scope x := by rcases hx with k | k; exact .inl k; exact .inr (.inl k)
  obtain ⟨u, r, l⟩ := hl i x v hi e1 vis
  refine wpAny_AugAssign_Name ?_
  have go : wpAny (model X.prog X.w) X.A (eval e X.env) (fun w s₂ => wpAny (model X.prog X.w) X.A (inplaceOp op u w) (fun r s₃ => wpAny (model X.prog X.w) X.A (storeName X.env x r) (fun _ => SP X pins D .next) X.xe s₃) X.xe s₂) X.xe s := by
    refine thn (he pins s σ H _ I h) fun w s1 ⟨y, H1, I1, r1, q1⟩ => ?_
    refine thn (ho pins s1 σ H1 v y u w _ I1 r r1 q1) fun z s2 ⟨zv, H2, I2, r2, q2⟩ => ?_
    exact store_ok I2 hN hi hx r2 (fun s3 I3 => ⟨_, H2, I3, q2⟩) hf
  rcases l with ⟨hk, hm⟩ | ⟨hk, c, hc, hcell⟩
  · exact wpAny_loadName_local I.ok.kind hk hn hm go
  · rcases hk with hk | hk
    · exact wpAny_loadName_cell I.ok.kind hk hc hcell go
    · rcases hx with k | k
      · have : X.env.scope.names.lookup x = some .free := hk
        rw [k] at this; cases this
      · have : X.env.scope.names.lookup x = some .free := hk
        rw [k] at this; cases this
/-- o[i] op= e -/
def tAugS (to ti te : TE) (tget : V → V → Hp → VK → Prop) (tip : TIp) (tset : TSet) : TS := fun D σ H => to σ H fun o H1 => ti σ H1 fun i H2 => tget o i H2 fun x H3 => te σ H3 fun y H4 => tip x y H4 fun z H5 => tset o i z H5 fun H6 => D.nx σ H6
/-- o[i], by values -/
def PGet (X : Cx) (t : V → V → Hp → VK → Prop) : Prop :=
  ∀ (pins : List (Addr × Obj)) (s : Shared) (σ : St) (H : Hp) (o i : V) (ov iv : Value) (Q : VK), Inv X pins σ H s → RelV o ov → RelV i iv → t o i H Q →
    wpAny (model X.prog X.w) X.A (getItem ov iv) (EP X pins σ Q) X.xe s
theorem ps_augS {o i e : Expr} {to ti te : TE} {tget : V → V → Hp → VK → Prop} {tip : TIp} {tset : TSet} {op : Operator} {tpos : Pos} (ho : PE X o to) (hi : PE X i ti) (hg : PGet X tget) (he : PE X e te) (hp : PIp X op tip) (hs : PSet X tset)
    (ha : ∀ ov iv new, augStore i ov iv new = (do holding [new, ov, iv] (setItem ov iv new); release [new, ov, iv] []; pure .next) := by intros; rfl) : PS X (.AugAssign (.Subscript o i tpos) op e pos) (tAugS to ti te tget tip tset) := by
  intro pins s σ H D I h
  refine wpAny_AugAssign_SubscriptAny (thn (ho pins s σ H _ I h) fun ov s1 ⟨x1, H1, I1, r1, q1⟩ => ?_) ha
  refine thn (hi pins s1 σ H1 _ I1 q1) fun iv s2 ⟨x2, H2, I2, r2, q2⟩ => ?_
  refine thn (hg pins s2 σ H2 x1 x2 ov iv _ I2 r1 r2 q2) fun old s3 ⟨x3, H3, I3, r3, q3⟩ => ?_
  refine thn (he pins s3 σ H3 _ I3 q3) fun v s4 ⟨x4, H4, I4, r4, q4⟩ => ?_
  refine thn (hp pins s4 σ H4 x3 x4 old v _ I4 r3 r4 q4) fun new s5 ⟨x5, H5, I5, r5, q5⟩ => ?_
  exact thn (hs pins s5 σ H5 x1 x2 x5 ov iv new _ I5 r1 r2 r5 q5) fun _ s6 ⟨H6, I6, q6⟩ => ⟨σ, H6, I6, q6⟩
/-- ints -/
def ipI (f : Int → Int → Int) : TIp := fun x y H Q => ∃ i j, x = .int i ∧ y = .int j ∧ Q (.int (f i j)) H
theorem ip_add : PIp X .Add (ipI fun i j => i + j) := by
  intro pins s σ H x y v u Q I r1 r2 h
  obtain ⟨i, j, e1, e2, q⟩ := h
  subst e1; subst e2
  obtain ⟨t, rfl⟩ := r1
  obtain ⟨t', rfl⟩ := r2
  exact iadd_int ⟨.int _, H, I.tok _, ⟨_, rfl⟩, q⟩
theorem ip_sub : PIp X .Sub (ipI fun i j => i - j) := by
  intro pins s σ H x y v u Q I r1 r2 h
  obtain ⟨i, j, e1, e2, q⟩ := h
  subst e1; subst e2
  obtain ⟨t, rfl⟩ := r1
  obtain ⟨t', rfl⟩ := r2
  exact isub_int ⟨.int _, H, I.tok _, ⟨_, rfl⟩, q⟩
end

/-! ### while -/
section
variable {X : Cx} {pos : Pos}
/-- the invariant W with its measure -/
def tWhile (c : TT) (tb : TS) : TS := fun D σ H => ∃ W : Nat → St → Hp → Prop, (∃ m, W m σ H) ∧ ∀ m σ H, W m σ H →
  c σ H fun b H1 => if b = true then ∃ N : St → Hp → Prop, (∀ σ' H', N σ' H' → ∃ m', m' < m ∧ W m' σ' H') ∧ tb { D with nx := N, ct := N, bk := D.nx } σ H1 else D.nx σ H1
theorem ps_while {c : Expr} {body : List Stmt} {tc : TT} {tb : TS} (hp : PassesOwn (model X.prog X.w) X.A X.env X.xe) (hc : PT X c tc) (hb : PSs X body tb) : PS X (.While c body [] pos) (tWhile tc tb) := by
  intro pins s σ H D I h
  obtain ⟨W, ⟨m0, w0⟩, turn⟩ := h
  refine wpAny_While (codeAny_whileLoop (fun n s' => ∃ σ' H', Inv X pins σ' H' s' ∧ W n σ' H') ?_ m0 ⟨σ, H, I, w0⟩)
  rintro n s1 ⟨σ1, H1, I1, w1⟩
  refine wpAny_passesOwn hp (thn (hc pins s1 σ1 H1 _ I1 (turn n σ1 H1 w1)) fun b s2 ⟨H2, I2, q2⟩ => ?_)
  cases b with
  | true =>
    obtain ⟨N, hN, q2⟩ := q2
    rw [if_pos rfl]
    refine wpAny_passesOwn hp (thn (hb pins s2 σ1 H2 _ I2 q2) fun f s3 q3 => ?_)
    cases f with
    | next =>
      obtain ⟨σ3, H3, I3, n3⟩ := q3
      obtain ⟨m', hm, w3⟩ := hN σ3 H3 n3
      exact ⟨m', hm, σ3, H3, I3, w3⟩
    | cont =>
      obtain ⟨σ3, H3, I3, n3⟩ := q3
      obtain ⟨m', hm, w3⟩ := hN σ3 H3 n3
      exact ⟨m', hm, σ3, H3, I3, w3⟩
    | brk => exact q3
    | ret v => exact q3
  | false =>
    rw [if_neg Bool.false_ne_true]
    exact wpAny_execs_nil ⟨σ1, H2, I2, q2⟩
end

/-! ### what a loop or a comprehension walks -/
/-- at turn i: it yields x (the heap may grow), or it stops -/
structure It where
  go : Nat → Hp → Prop
  yld : Nat → Hp → V → Hp → Prop
  stop : Nat → Hp → Prop
/-- the iterator's own objects may turn: they are not the frame's, not pinned, younger than the entry (or a comprehension's own) -/
def FpOk (X : Cx) (pins : List (Addr × Obj)) (H : Hp) (b : Addr) : Prop :=
  H b = none ∧ b ≠ X.env.locals ∧ b ∉ X.fs ∧ (b ∈ X.ex ∨ X.s₀.heap.objs.size ≤ b) ∧ (∀ x c, X.env.cells.lookup x = some c → c ≠ b) ∧ ∀ p ∈ X.pn ++ pins, p.1 ≠ b
theorem Inv.fpOk {X : Cx} {pins : List (Addr × Obj)} {σ : St} {H H' : Hp} {s : Shared} {b : Addr} (I : Inv X pins σ H s) (hb : s.heap.objs.size ≤ b) (hn : H' b = none) : FpOk X pins H' b := by
  refine ⟨hn, Nat.ne_of_gt (Nat.lt_of_lt_of_le I.lt hb), I.nofs hb, .inr (Nat.le_trans I.sz hb), fun x c e z => ?_, fun p hp z => ?_⟩
  · obtain ⟨v, q⟩ := I.cell x c e
    exact absurd (Nat.lt_of_lt_of_le q.lt (by rw [z]; exact hb)) (Nat.lt_irrefl _)
  · exact absurd (Nat.lt_of_lt_of_le (Heap.lt_size (I.pin p hp).1) (by rw [z]; exact hb)) (Nat.lt_irrefl _)
structure Turn (P : Program) (w : World) (K : PySem.W.Frag) (tg : Expr) (J : It) (fp : List Addr) (it : Addr) (tn : Nat → Heap → Prop) : Prop where
  mem : it ∈ fp
  obj : ∀ i h, tn i h → ∀ b ∈ fp, ∃ o, h.get? b = some o ∧ ∀ v, o.data ≠ .cell v
  keep : ∀ i h h', tn i h → (∀ b ∈ fp, ∀ o, h.get? b = some o → h'.get? b = some o) → tn i h'
  item : ∀ (X : Cx), X.prog = P → X.w = w → X.K = K → X.calm = true → ∀ (i : Nat) (pins : List (Addr × Obj)) (s : Shared) (σ : St) (H : Hp) (E : Value → Shared → Prop), Inv X pins σ H s → (∀ b ∈ fp, FpOk X pins H b) → tn i s.heap → J.go i H →
    wpAny (model P w) X.A (pyNext (.ref it)) (fun r s1 => ∃ u, r = some u ∧
      wpAny (model P w) X.A (letOwnedTupleGo tg (.ref it) u) (fun _ s2 => ∃ x H', Inv X pins σ H' s2 ∧ RelV x u ∧ J.yld i H x H' ∧ tn (i + 1) s2.heap ∧ ∀ b ∈ fp, H' b = none) E s1) E s
  done : ∀ (X : Cx), X.prog = P → X.w = w → X.K = K → X.calm = true → ∀ (i : Nat) (pins : List (Addr × Obj)) (s : Shared) (σ : St) (H : Hp) (E : Value → Shared → Prop), Inv X pins σ H s → (∀ b ∈ fp, FpOk X pins H b) → tn i s.heap → J.stop i H →
    wpAny (model P w) X.A (pyNext (.ref it)) (fun r s1 => r = none ∧ Inv X pins σ H s1) E s
  self : ∀ (A : Around) (i : Nat) (s : Shared) (Q : Value → Shared → Prop) (E : Value → Shared → Prop), tn i s.heap → Q (.ref it) s → wpAny (model P w) A (pyIter (.ref it)) Q E s
abbrev TI := St → Hp → (It → Hp → Prop) → Prop
/-- an iterator has come -/
def PIE (X : Cx) (pins : List (Addr × Obj)) (σ : St) (tg : Expr) (R : It → Hp → Prop) (itv : Value) (s2 : Shared) : Prop :=
  ∃ (it : Addr) (fp : List Addr) (tn : Nat → Heap → Prop) (J : It) (H' : Hp), itv = .ref it ∧ Inv X pins σ H' s2 ∧ Turn X.prog X.w X.K tg J fp it tn ∧ tn 0 s2.heap ∧ (∀ b ∈ fp, FpOk X pins H' b) ∧ R J H'
def PI (X : Cx) (tg iter : Expr) (wi : TI) : Prop :=
  ∀ (pins : List (Addr × Obj)) (s : Shared) (σ : St) (H : Hp) (R : It → Hp → Prop), Inv X pins σ H s → wi σ H R →
    wpAny (model X.prog X.w) X.A (eval iter X.env) (fun v s1 => wpAny (model X.prog X.w) X.A (pyIter v) (PIE X pins σ tg R) X.xe s1) X.xe s

/-- the step ahead of the store is nothing for an iterator that keeps no tuple -/
theorem go_of {M : Model} {A : Around} {E : Value → Shared → Prop} {s : Shared} {tg : Expr} {it : Addr} {u : Value} {o : Obj} {n : String} {vs : Array Value} {Q : Unit → Shared → Prop} (ho : s.heap.get? it = some o) (hc : o.cls = .type n) (hd : o.data = .fields vs)
    (hn : ["enumerate", "zip", "dict_itemiterator", "dict_reverseitemiterator", "odict_iterator", "itertools.zip_longest", "itertools.pairwise"].contains n = false) (hQ : Q () s) : wpAny M A (letOwnedTupleGo tg (.ref it) u) Q E s := by
  unfold letOwnedTupleGo
  cases tg <;> first
    | exact wpAny_pure hQ
    | (cases u <;> first
        | exact wpAny_pure hQ
        | (refine wpAny_bind (wpAny_load ho ?_)
           rw [hc, hd]
           show wpAny M A (if (["enumerate", "zip", "dict_itemiterator", "dict_reverseitemiterator", "odict_iterator", "itertools.zip_longest", "itertools.pairwise"].contains n && vs[0]? == some (rawInt _)) = true then _ else _) Q E s
           rw [if_neg (by intro h; rw [hn, Bool.false_and] at h; cases h)]
           exact wpAny_pure hQ))

def Itt (K : PySem.W.Frag) (a : Addr) : It :=
  ⟨fun i H => ∃ xs x, SqT K H a xs ∧ xs[i]? = some x, fun i H x H' => H' = H ∧ ∀ xs, SqT K H a xs → xs[i]? = some x, fun i H => ∃ xs, SqT K H a xs ∧ xs.length ≤ i⟩
/-- lo, lo + 1, .. (n of them) -/
def Itr (lo : Int) (n : Nat) : It := ⟨fun i _ => i < n, fun i H x H' => H' = H ∧ x = .int (lo + i), fun i _ => n ≤ i⟩
theorem turn_tuple {P : Program} {w : World} {K : PySem.W.Frag} {tg : Expr} (a it : Addr) : Turn P w K tg (Itt K a) [it] it (fun i h => h.IsTupleIter it a i) where
  mem := by simp
  obj := fun i h st b hb => by
    have e : b = it := by simpa using hb
    subst e
    obtain ⟨o, e, c, d⟩ := st
    exact ⟨o, e, fun v z => by rw [d] at z; cases z⟩
  keep := fun i h h' st k => st.at fun o e => k it (by simp) o e
  item := by
    intro X hP hw hK hc i pins s σ H E I hf st hg
    subst hP hw hK
    obtain ⟨xs, x, hq, hx⟩ := hg
    obtain ⟨its, rv, p, hz⟩ := I.tuple hq
    obtain ⟨u, hu, ru⟩ := rv.get hx
    obtain ⟨f0, f1, f2, f3, f4, f5⟩ := hf it (by simp)
    refine wpAny_pyNext_tuple_item st (show s.heap.IsTuple a its.toArray from p) (x := u) (by simpa using hu) fun h' st' sb => ?_
    have I1 : Inv X pins σ H { s with heap := h' } := I.turned (t' := s.toks) (fun b o hb e => (sb.2 b hb).trans e) f0 f1 f3 f4 f5
    obtain ⟨o, e, c, d⟩ := id st'
    exact ⟨u, rfl, go_of (s := { s with heap := h' }) e c d (by decide) ⟨x, H, I1, ru, ⟨rfl, fun ys hy => by rw [I.tuple_inj hy hq]; exact hx⟩, st', fun b hb => (hf b hb).1⟩⟩
  done := by
    intro X hP hw hK hc i pins s σ H E I hf st hg
    subst hP hw hK
    obtain ⟨xs, hq, hx⟩ := hg
    obtain ⟨its, rv, p, hz⟩ := I.tuple hq
    obtain ⟨f0, f1, f2, f3, f4, f5⟩ := hf it (by simp)
    have hl := rv.length
    exact wpAny_pyNext_tuple_end (I.ok.hd hc) st (show s.heap.IsTuple a its.toArray from p) (by simp; omega) fun h' eb => ⟨rfl, I.turned (t' := s.toks) (fun b o hb e => eb b o hb e) f0 f1 f3 f4 f5⟩
  self := fun _ _ _ _ _ st h => wpAny_pyIter_tupleiter st h
theorem turn_range {P : Program} {w : World} {K : PySem.W.Frag} {tg : Expr} (it : Addr) (lo : Int) (n : Nat) : Turn P w K tg (Itr lo n) [it] it (fun i h => IsRangeIter h it (lo + (i : Nat) * 1) ((n : Int) - (i : Nat)) 1) where
  mem := by simp
  obj := fun i h st b hb => by
    have e : b = it := by simpa using hb
    subst e
    exact ⟨_, st, fun v z => by
      have z' : Data.fields _ = Data.cell v := z
      cases z'⟩
  keep := fun i h h' st k => k it (by simp) _ st
  item := by
    intro X hP hw hK hc i pins s σ H E I hf st hg
    subst hP hw hK
    obtain ⟨f0, f1, f2, f3, f4, f5⟩ := hf it (by simp)
    have W := Walks.range (prog := X.prog) (w := X.w) (I.ok.hd hc) it lo 1 n
    refine W.item i s _ _ hg st fun v h' tk hv st' kk => ?_
    obtain ⟨t, rfl⟩ := hv
    have I1 : Inv X pins σ H { s with heap := h', toks := tk } := I.turned (fun b o hb e => kk b o (by simpa using hb) e) f0 f1 f3 f4 f5
    refine ⟨_, rfl, go_of (s := { s with heap := h', toks := tk }) (n := "range_iterator") st' rfl rfl (by decide) ⟨.int (lo + i), H, I1, ⟨t, ?_⟩, ⟨rfl, rfl⟩, st', fun b hb => (hf b hb).1⟩⟩
    rw [Int.mul_one]
  done := by
    intro X hP hw hK hc i pins s σ H E I hf st hg
    subst hP hw hK
    obtain ⟨f0, f1, f2, f3, f4, f5⟩ := hf it (by simp)
    exact wpAny_pyNext_range_end (I.ok.hd hc) st (by have : n ≤ i := hg; omega) fun h' eb => ⟨rfl, I.turned (t' := s.toks) (fun b o hb e => eb b o hb e) f0 f1 f3 f4 f5⟩
  self := fun _ _ _ _ _ st h => wpAny_pyIter_rangeiter st h
end L2

namespace L2
open PySem PySem.Spec PyProof.Rows
section
variable {X : Cx} {tg : Expr}
def iTup (K : PySem.W.Frag) (tl : TE) : TI := fun σ H R => tl σ H fun x H1 => ∃ a, x = .ref a ∧ (∃ xs, SqT K H1 a xs) ∧ R (Itt K a) H1
theorem pi_tup {l : Expr} {tl : TE} (hl : PE X l tl) : PI X tg l (iTup X.K tl) := by
  intro pins s σ H R I h
  refine thn (hl pins s σ H _ I h) fun v s1 ⟨x, H1, I1, r1, q1⟩ => ?_
  obtain ⟨a, e, ⟨xs, hq⟩, q⟩ := q1
  subst e
  cases r1
  obtain ⟨its, rv, p, hz⟩ := I1.tuple hq
  refine wpAny_pyIter_tuple (show s1.heap.IsTuple a its.toArray from p) ?_
  refine ⟨s1.heap.objs.size, [s1.heap.objs.size], _, _, H1, rfl, I1.kept (t' := s1.toks) fun b o e => Heap.get?_push_of_some _ e, turn_tuple a _, ⟨_, Heap.get?_push_size _ rfl, rfl, rfl⟩, fun b hb => ?_, q⟩
  have e : b = s1.heap.objs.size := by simpa using hb
  subst e
  exact I1.fpOk (Nat.le_refl _) (I1.hok.fresh (Nat.le_refl _))
/-- a range object just made, walked -/
theorem range_it {pins : List (Addr × Obj)} {σ : St} {H : Hp} {s : Shared} {R : It → Hp → Prop} {E : Value → Shared → Prop} {lo hi : Int} {t u v : Tok} {tk : Nat} (I : Inv X pins σ H s) (h1 : -(2 ^ 62) ≤ lo) (h2 : lo < 2 ^ 62) (h3 : -(2 ^ 62) ≤ hi) (h4 : hi < 2 ^ 62)
    (q : R (Itr lo (hi - lo).toNat) H) : wpAny (model X.prog X.w) X.A (pyIter (.ref s.heap.objs.size)) (PIE X pins σ tg R) E { s with heap := s.heap.push { cls := .type "range", data := .fields #[.int lo t, .int hi u, .int 1 v] }, toks := tk } := by
  refine wpAny_pyIter_range (IsRange.new ..) (small_one h1 h2 h3 h4) ?_
  have I1 : Inv X pins σ H { s with heap := s.heap.push { cls := .type "range", data := .fields #[.int lo t, .int hi u, .int 1 v] }, toks := tk } := I.kept fun b o e => Heap.get?_push_of_some _ e
  refine ⟨(s.heap.push { cls := .type "range", data := .fields #[.int lo t, .int hi u, .int 1 v] }).objs.size, [(s.heap.push { cls := .type "range", data := .fields #[.int lo t, .int hi u, .int 1 v] }).objs.size], _, _, H, rfl,
    I1.kept (t' := tk) fun b o e => Heap.get?_push_of_some _ e, turn_range _ lo (hi - lo).toNat, ?_, fun b hb => ?_, q⟩
  · have e1 : lo + ((0 : Nat) : Int) * 1 = lo := by simp
    have e2 : (((hi - lo).toNat : Nat) : Int) - ((0 : Nat) : Int) = Builtin.Range.rangeSize lo hi 1 := by rw [rangeSize_one]; split <;> omega
    show IsRangeIter _ _ (lo + ((0 : Nat) : Int) * 1) ((((hi - lo).toNat : Nat) : Int) - ((0 : Nat) : Int)) 1
    rw [e1, e2]
    exact Heap.get?_push_size _ rfl
  · have e : b = (s.heap.push { cls := .type "range", data := .fields #[.int lo t, .int hi u, .int 1 v] }).objs.size := by simpa using hb
    subst e
    exact I1.fpOk (Nat.le_refl _) (I1.hok.fresh (Nat.le_refl _))
def iRng1 (ta : TA) : TI := fun σ H R => ta σ H fun vs H1 => ∃ j : Int, vs = [.int j] ∧ -(2 ^ 62) ≤ j ∧ j < 2 ^ 62 ∧ R (Itr 0 j.toNat) H1
theorem pi_range1 {a : Expr} {ta : TA} {p pos : Pos} (hg : Gl X "range") (hm : X.mg "range" = none) (ha : PA X [a] ta) (hs : starEach [a] X.env = [(false, eval a X.env)] := by rfl) : PI X tg (.Call (.Name "range" p) [a] [] pos) (iRng1 ta) := by
  intro pins s σ H R I h
  refine Call_ (ld_blt I hg hm boot_range (PyProof.Rows.callWith_type1 (thn (ha pos pins s σ H _ I h) fun us s1 ⟨vs, H1, I1, r1, q1⟩ => ?_) hs rfl))
  obtain ⟨j, e, q1, q2, q⟩ := q1
  subst e
  cases r1 with
  | cons r rr =>
    cases rr
    obtain ⟨t, rfl⟩ := r
    exact call_range_1 (range_it I1 (by omega) (by omega) q1 q2 (by simpa using q))

/-! ### for -/
/-- W: the invariant by the turn and a measure; N: what the body is to reach -/
def tFor (wi : TI) (g : TG) (tb : TS) : TS := fun D σ H => wi σ H fun J H1 => ∃ W : Nat → Nat → St → Hp → Prop, (∃ m, W 0 m σ H1) ∧ ∀ i m σ H, W i m σ H →
  (J.stop i H ∧ D.nx σ H) ∨ (J.go i H ∧ ∃ N : St → Hp → Prop, (∀ σ' H', N σ' H' → ∃ m', m' < m ∧ W (i + 1) m' σ' H') ∧ ∀ x H', J.yld i H x H' → g x σ H' fun σ2 H2 => tb { D with nx := N, ct := N, bk := D.nx } σ2 H2)
/-- the records at fp as they stand -/
def pinsAt (fp : List Addr) (h : Heap) : List (Addr × Obj) := fp.filterMap fun b => (h.get? b).map fun o => (b, o)
theorem mem_pinsAt {fp : List Addr} {h : Heap} {b : Addr} {o : Obj} (hb : b ∈ fp) (e : h.get? b = some o) : (b, o) ∈ pinsAt fp h := List.mem_filterMap.mpr ⟨b, hb, by rw [e]; rfl⟩
theorem of_pinsAt {fp : List Addr} {h : Heap} {p : Addr × Obj} (hp : p ∈ pinsAt fp h) : p.1 ∈ fp ∧ h.get? p.1 = some p.2 := by
  obtain ⟨b, hb, e⟩ := List.mem_filterMap.mp hp
  cases q : h.get? b with
  | none => rw [q] at e; cases e
  | some o =>
    rw [q] at e
    have e' : (b, o) = p := Option.some.inj e
    subst e'
    exact ⟨hb, q⟩
theorem Inv.pinned {pins : List (Addr × Obj)} {σ : St} {H : Hp} {s : Shared} {fp : List Addr} (I : Inv X pins σ H s) (hf : ∀ b ∈ fp, FpOk X pins H b) (ho : ∀ b ∈ fp, ∃ o, s.heap.get? b = some o ∧ ∀ v, o.data ≠ .cell v) : Inv X (pins ++ pinsAt fp s.heap) σ H s :=
  I.pins_of fun p hp => (List.mem_append.mp hp).elim (fun z => I.pin p (List.mem_append_right _ z)) fun z => by
    obtain ⟨hb, e⟩ := of_pinsAt z
    obtain ⟨f0, f1, f2, _⟩ := hf p.1 hb
    obtain ⟨o, e', d⟩ := ho p.1 hb
    rw [e] at e'; cases e'
    exact ⟨e, f0, f1, f2, d⟩
theorem Inv.unpinned {pins pl : List (Addr × Obj)} {σ : St} {H : Hp} {s : Shared} (I : Inv X (pins ++ pl) σ H s) : Inv X pins σ H s := I.pins_of fun p hp => I.pin p (List.mem_append_right _ (List.mem_append_left _ hp))
theorem ps_for {iter : Expr} {body : List Stmt} {wi : TI} {g : TG} {tb : TS} {pos : Pos} (hp : PassesOwn (model X.prog X.w) X.A X.env X.xe) (hc : X.calm = true) (hi : PI X tg iter wi) (hg : PG X tg g) (hb : PSs X body tb)
    (hs : ∀ x, foldedSetIterable iter X.env x = pure x := by intro _; rfl) : PS X (.For tg iter body [] pos) (tFor wi g tb) := by
  intro pins s σ H D I h
  refine wpAny_For (thn (hi pins s σ H _ I h) fun v s1 h1 => thn h1 fun itv s2 h2 => ?_) hs
  obtain ⟨it, fp, tn, J, H2, e, I2, T, st2, f2, W, ⟨m0, w0⟩, turn⟩ := h2
  subst e
  -- what stays true of the iterator's objects through the loop
  have stat : ∀ {H' : Hp}, (∀ b ∈ fp, H' b = none) → ∀ b ∈ fp, FpOk X pins H' b := fun hn b hb => ⟨hn b hb, (f2 b hb).2⟩
  refine codeAny_forLoop_any (fun n s' => ∃ i σ' H', Inv X pins σ' H' s' ∧ tn i s'.heap ∧ (∀ b ∈ fp, H' b = none) ∧ W i n σ' H') ?_ m0 ⟨0, σ, H2, I2, st2, fun b hb => (f2 b hb).1, w0⟩
  rintro n s3 ⟨i, σ3, H3, I3, st3, fr3, w3⟩
  rcases turn i n σ3 H3 w3 with ⟨stop, qn⟩ | ⟨go, N, hN, step⟩
  · refine wpAny_passesOwn hp (thn (T.done X rfl rfl rfl hc i pins s3 σ3 H3 X.xe I3 (stat fr3) st3 stop) fun r s4 ⟨hr, I4⟩ => ?_)
    subst hr
    exact wpAny_execs_nil ⟨σ3, H3, I4, qn⟩
  · refine wpAny_passesOwn hp (thn (T.item X rfl rfl rfl hc i pins s3 σ3 H3 X.xe I3 (stat fr3) st3 go) fun r s4 ⟨u, hr, h4⟩ => ?_)
    subst hr
    refine wpAny_passesOwn hp (thn h4 fun _ s5 ⟨x, H5, I5, r5, y5, st5, fr5⟩ => ?_)
    have I5' := I5.pinned (stat fr5) (T.obj _ _ st5)
    refine wpAny_passesOwn hp (thn (hg _ s5 σ3 H5 x u _ I5' r5 (step x H5 y5)) fun _ s6 ⟨σ6, H6, I6, q6⟩ => ?_)
    refine wpAny_passesOwn hp (thn (hb _ s6 σ6 H6 _ I6 q6) fun f s7 q7 => ?_)
    have again : ∀ {σ7 : St} {H7 : Hp}, Inv X (pins ++ pinsAt fp s5.heap) σ7 H7 s7 → N σ7 H7 → ∃ m, m < n ∧ ∃ i σ' H', Inv X pins σ' H' s7 ∧ tn i s7.heap ∧ (∀ b ∈ fp, H' b = none) ∧ W i m σ' H' := fun {σ7 H7} I7 n7 => by
      obtain ⟨m', hm, w7⟩ := hN σ7 H7 n7
      refine ⟨m', hm, i + 1, σ7, H7, I7.unpinned, T.keep _ _ _ st5 fun b hb o e => (I7.pin (b, o) (List.mem_append_right _ (List.mem_append_right _ (mem_pinsAt hb e)))).1, fun b hb => ?_, w7⟩
      obtain ⟨o, e, d⟩ := T.obj _ _ st5 b hb
      exact (I7.pin (b, o) (List.mem_append_right _ (List.mem_append_right _ (mem_pinsAt hb e)))).2.1
    cases f with
    | next => obtain ⟨σ7, H7, I7, n7⟩ := q7; exact again I7 n7
    | cont => obtain ⟨σ7, H7, I7, n7⟩ := q7; exact again I7 n7
    | brk => obtain ⟨σ7, H7, I7, q7⟩ := q7; exact ⟨σ7, H7, I7.unpinned, q7⟩
    | ret v => obtain ⟨x7, σ7, H7, I7, r7, q7⟩ := q7; exact ⟨x7, σ7, H7, I7.unpinned, r7, q7⟩
end

/-! ### the forms one uses -/
theorem for_range {lo : Int} {n : Nat} {g : TG} {tb : TS} {D : Ends} {σ : St} {H : Hp} (Pv : Nat → St → Hp → Prop) (h0 : Pv 0 σ H)
    (hs : ∀ i σ H, i < n → Pv i σ H → g (.int (lo + i)) σ H fun σ2 H2 => tb { D with nx := Pv (i + 1), ct := Pv (i + 1), bk := D.nx } σ2 H2) (hd : ∀ σ H, Pv n σ H → D.nx σ H) :
    ∃ W : Nat → Nat → St → Hp → Prop, (∃ m, W 0 m σ H) ∧ ∀ i m σ H, W i m σ H →
      ((Itr lo n).stop i H ∧ D.nx σ H) ∨ ((Itr lo n).go i H ∧ ∃ N : St → Hp → Prop, (∀ σ' H', N σ' H' → ∃ m', m' < m ∧ W (i + 1) m' σ' H') ∧ ∀ x H', (Itr lo n).yld i H x H' → g x σ H' fun σ2 H2 => tb { D with nx := N, ct := N, bk := D.nx } σ2 H2) := by
  refine ⟨fun i m σ H => m = n - i ∧ i ≤ n ∧ Pv i σ H, ⟨n, by simp, Nat.zero_le _, h0⟩, ?_⟩
  rintro i m σ H ⟨rfl, hi, p⟩
  by_cases hlt : i < n
  · refine .inr ⟨hlt, Pv (i + 1), fun σ' H' p' => ⟨n - (i + 1), by omega, rfl, hlt, p'⟩, fun x H' y => ?_⟩
    obtain ⟨e, y⟩ := y
    subst e y
    exact hs i σ _ hlt p
  · have e : i = n := by omega
    subst e
    exact .inl ⟨Nat.le_refl _, hd σ H p⟩
/-- while, by a word and a measure of the state -/
theorem while_by {c : TT} {tb : TS} {D : Ends} {σ : St} {H : Hp} (Pv : St → Hp → Prop) (μ : St → Hp → Nat) (h0 : Pv σ H)
    (hs : ∀ σ H, Pv σ H → c σ H fun b H1 => if b = true then tb { D with nx := fun σ' H' => Pv σ' H' ∧ μ σ' H' < μ σ H, ct := fun σ' H' => Pv σ' H' ∧ μ σ' H' < μ σ H, bk := D.nx } σ H1 else D.nx σ H1)
    (mono : ∀ σ H Q Q', (∀ b H1, Q b H1 → Q' b H1) → c σ H Q → c σ H Q') : tWhile c tb D σ H := by
  refine ⟨fun m σ H => m = μ σ H ∧ Pv σ H, ⟨_, rfl, h0⟩, ?_⟩
  rintro m σ H ⟨rfl, p⟩
  refine mono σ H _ _ (fun b H1 q => ?_) (hs σ H p)
  cases b with
  | true => exact ⟨_, fun σ' H' ⟨p', l⟩ => ⟨_, l, rfl, p'⟩, q⟩
  | false => exact q
end L2

namespace L2
open PySem PySem.Spec PyProof.Rows

abbrev R2 := V → V → Hp → VK → Prop
/-- a two-place operation on values: f is binaryOp op, inplaceOp op or compareOp op -/
def OpR (X : Cx) (f : Value → Value → Sem Value) (r : R2) : Prop :=
  ∀ (pins : List (Addr × Obj)) (s : Shared) (σ : St) (H : Hp) (x y : V) (v u : Value) (Q : VK), Inv X pins σ H s → RelV x v → RelV y u → r x y H Q →
    wpAny (model X.prog X.w) X.A (f v u) (EP X pins σ Q) X.xe s
/-- a one-place operation -/
def UnR (X : Cx) (f : Value → Sem Value) (r : V → Hp → VK → Prop) : Prop :=
  ∀ (pins : List (Addr × Obj)) (s : Shared) (σ : St) (H : Hp) (x : V) (v : Value) (Q : VK), Inv X pins σ H s → RelV x v → r x H Q →
    wpAny (model X.prog X.w) X.A (f v) (EP X pins σ Q) X.xe s
/-- a call of a value that is known (a builtin, a type) with values -/
def CallR (X : Cx) (f : Value) (r : List V → Hp → VK → Prop) : Prop :=
  ∀ (pins : List (Addr × Obj)) (s : Shared) (σ : St) (H : Hp) (xs : List V) (us : List Value) (Q : VK), Inv X pins σ H s → Vals xs us → r xs H Q →
    wpAny (model X.prog X.w) X.A (call f us) (EP X pins σ Q) X.xe s
/-- a value's truth -/
def TruR (X : Cx) (r : V → Hp → (Bool → Hp → Prop) → Prop) : Prop :=
  ∀ (pins : List (Addr × Obj)) (s : Shared) (σ : St) (H : Hp) (x : V) (v : Value) (Q : Bool → Hp → Prop), Inv X pins σ H s → RelV x v → r x H Q →
    wpAny (model X.prog X.w) X.A (truthy v) (TP X pins σ Q) X.xe s

def tOp (r : R2) (ta tb : TE) : TE := fun σ H Q => ta σ H fun x H1 => tb σ H1 fun y H2 => r x y H2 Q
def tUn (r : V → Hp → VK → Prop) (ta : TE) : TE := fun σ H Q => ta σ H fun x H1 => r x H1 Q
/-- ints in, under C, and a value out -/
def rI (C : Int → Int → Prop) (g : Int → Int → V) : R2 := fun x y H Q => ∃ i j, x = .int i ∧ y = .int j ∧ C i j ∧ Q (g i j) H
def rI0 (g : Int → Int → V) : R2 := fun x y H Q => ∃ i j, x = .int i ∧ y = .int j ∧ Q (g i j) H
def rU (g : Int → V) : V → Hp → VK → Prop := fun x H Q => ∃ i, x = .int i ∧ Q (g i) H

section
variable {X : Cx} {a b c : Expr} {ta tb tc : TE} {pos : Pos}

theorem binT (ha : PE X a ta) (hb : PE X b tb) {pins : List (Addr × Obj)} {s : Shared} {σ : St} {H : Hp} {R : V → V → Hp → Prop} (I : Inv X pins σ H s)
    (h : ta σ H fun x H1 => tb σ H1 fun y H2 => R x y H2) {Q : Value → Shared → Prop} {f : Value → Value → Sem Value}
    (hf : ∀ v u s2 x y H2, Inv X pins σ H2 s2 → RelV x v → RelV y u → R x y H2 → wpAny (model X.prog X.w) X.A (f v u) Q X.xe s2) :
    wpAny (model X.prog X.w) X.A (eval a X.env) (fun v s₁ => wpAny (model X.prog X.w) X.A (eval b X.env) (fun u s₂ => wpAny (model X.prog X.w) X.A (f v u) Q X.xe s₂) X.xe s₁) X.xe s := by
  refine thn (ha pins s σ H _ I h) fun v s1 ⟨x, H1, I1, r1, q1⟩ => ?_
  refine thn (hb pins s1 σ H1 _ I1 q1) fun u s2 ⟨y, H2, I2, r2, q2⟩ => ?_
  exact hf v u s2 x y H2 I2 r1 r2 q2

theorem pe_op {op : Operator} {r : R2} (ho : OpR X (binaryOp op) r) (ha : PE X a ta) (hb : PE X b tb) : PE X (.BinOp a op b pos) (tOp r ta tb) := by
  intro pins s σ H Q I h
  exact wpAny_BinOp (binT ha hb I h fun v u s2 x y H2 I2 rx ry q => ho pins s2 σ H2 x y v u Q I2 rx ry q)
theorem pe_un {op : UnaryOp} {r : V → Hp → VK → Prop} (ho : UnR X (unaryOp op) r) (ha : PE X a ta) : PE X (.UnaryOp op a pos) (tUn r ta) := by
  intro pins s σ H Q I h
  exact UnaryOp_ (thn (ha pins s σ H _ I h) fun v s1 ⟨x, H1, I1, r1, q1⟩ => ho pins s1 σ H1 x v Q I1 r1 q1)

/-! ### ints -/
theorem opI {f : Value → Value → Sem Value} {C : Int → Int → Prop} {g : Int → Int → Int}
    (rule : ∀ (i j : Int) (t u : Tok) (s : Shared) (Q : Value → Shared → Prop) (E : Value → Shared → Prop), C i j → Q (.int (g i j) s.toks) { s with toks := s.toks + 1 } → wpAny (model X.prog X.w) X.A (f (.int i t) (.int j u)) Q E s) :
    OpR X f (rI C fun i j => .int (g i j)) := by
  intro pins s σ H x y v u Q I rx ry h
  obtain ⟨i, j, rfl, rfl, hc, q⟩ := h
  obtain ⟨t, rfl⟩ := rx
  obtain ⟨t', rfl⟩ := ry
  exact rule i j t t' s _ _ hc ⟨.int (g i j), H, I.tok _, ⟨_, rfl⟩, q⟩
theorem opI0 {f : Value → Value → Sem Value} {g : Int → Int → Int}
    (rule : ∀ (i j : Int) (t u : Tok) (s : Shared) (Q : Value → Shared → Prop) (E : Value → Shared → Prop), Q (.int (g i j) s.toks) { s with toks := s.toks + 1 } → wpAny (model X.prog X.w) X.A (f (.int i t) (.int j u)) Q E s) :
    OpR X f (rI0 fun i j => .int (g i j)) := by
  intro pins s σ H x y v u Q I rx ry h
  obtain ⟨i, j, rfl, rfl, q⟩ := h
  obtain ⟨t, rfl⟩ := rx
  obtain ⟨t', rfl⟩ := ry
  exact rule i j t t' s _ _ ⟨.int (g i j), H, I.tok _, ⟨_, rfl⟩, q⟩
theorem opB0 {f : Value → Value → Sem Value} {g : Int → Int → Bool}
    (rule : ∀ (i j : Int) (t u : Tok) (s : Shared) (Q : Value → Shared → Prop) (E : Value → Shared → Prop), Q (.bool (g i j)) s → wpAny (model X.prog X.w) X.A (f (.int i t) (.int j u)) Q E s) :
    OpR X f (rI0 fun i j => .bl (g i j)) := by
  intro pins s σ H x y v u Q I rx ry h
  obtain ⟨i, j, rfl, rfl, q⟩ := h
  obtain ⟨t, rfl⟩ := rx
  obtain ⟨t', rfl⟩ := ry
  exact rule i j t t' s _ _ ⟨.bl (g i j), H, I, rfl, q⟩

def CDiv (i j : Int) : Prop := 0 < j ∧ j < 1073741824
def CPow (i j : Int) : Prop := 0 ≤ j ∧ j ≤ 1000000 ∧ i.natAbs < 2 ^ 64
def CMul (i j : Int) : Prop := (-(2 ^ 64) < i ∧ i < 2 ^ 64) ∨ (-(2 ^ 64) < j ∧ j < 2 ^ 64)
theorem CMul.ok {i j : Int} (h : CMul i j) : IntMulOk i j := by
  rcases h with ⟨h1, h2⟩ | ⟨h1, h2⟩
  · exact .of_left (intBits_le_64 h1 h2)
  · exact .of_right (intBits_le_64 h1 h2)

theorem op_add : OpR X (binaryOp .Add) (rI0 fun i j => .int (i + j)) := opI0 fun _ _ _ _ _ _ _ q => add_int q
theorem op_sub : OpR X (binaryOp .Sub) (rI0 fun i j => .int (i - j)) := opI0 fun _ _ _ _ _ _ _ q => sub_int q
theorem op_mul : OpR X (binaryOp .Mult) (rI CMul fun i j => .int (i * j)) := opI fun _ _ _ _ _ _ _ hc q => mul_int q hc.ok
/-- // by a positive divisor -/
theorem op_fdiv : OpR X (binaryOp .FloorDiv) (rI CDiv fun i j => .int (i / j)) := opI fun i j _ _ _ _ _ hc q => by
  have h1 : (0 : Int) < j := hc.1
  have h2 : j < 1073741824 := hc.2
  exact floordiv_int (by omega) (by rw [Int.fdiv_eq_ediv_of_nonneg i (by omega)]; exact q) (.inl (PyProof.noPylong_small (by omega)))
/-- % by a positive divisor of any size -/
theorem op_mod : OpR X (binaryOp .Mod) (rI (fun _ j => 0 < j) fun i j => .int (i % j)) := opI fun i j _ _ _ _ _ hc q => by
  have h1 : (0 : Int) < j := hc
  exact mod_int' (by omega) (by rw [Int.fmod_eq_emod_of_nonneg i (by omega)]; exact q)
theorem op_pow : OpR X (binaryOp .Pow) (rI CPow fun i j => .int (i ^ j.toNat)) := opI fun _ _ _ _ _ _ _ hc q => pow_int_small hc.1 hc.2.1 hc.2.2 q

theorem unI {f : Value → Sem Value} {g : Int → Int}
    (rule : ∀ (i : Int) (t : Tok) (s : Shared) (Q : Value → Shared → Prop) (E : Value → Shared → Prop), Q (.int (g i) s.toks) { s with toks := s.toks + 1 } → wpAny (model X.prog X.w) X.A (f (.int i t)) Q E s) :
    UnR X f (rU fun i => .int (g i)) := by
  intro pins s σ H x v Q I rx h
  obtain ⟨i, rfl, q⟩ := h
  obtain ⟨t, rfl⟩ := rx
  exact rule i t s _ _ ⟨.int (g i), H, I.tok _, ⟨_, rfl⟩, q⟩
theorem un_neg : UnR X (unaryOp .USub) (rU fun i => .int (-i)) := unI fun _ _ _ _ _ q => neg_int q

/-! ### bools among ints: n += (a < b) -/
end

/-! ### comparisons -/
/-- the scalars that == tells apart as data does -/
def scal : V → V → Bool
  | .non, .non => true | .non, .int _ => true | .int _, .non => true | .non, .bl _ => true | .bl _, .non => true | .non, .str _ => true | .str _, .non => true
  | .int _, .int _ => true | .bl _, .bl _ => true | .str _, .str _ => true | .byt _, .byt _ => true
  | .int _, .str _ => true | .str _, .int _ => true | .bl _, .str _ => true | .str _, .bl _ => true
  | _, _ => false
def rEq : R2 := fun x y H Q => scal x y = true ∧ Q (.bl (decide (x = y))) H
def rNe : R2 := fun x y H Q => scal x y = true ∧ Q (.bl (!decide (x = y))) H

theorem dec_int {i j : Int} : decide (V.int i = V.int j) = (i == j) := by
  rw [Bool.eq_iff_iff]
  simp
theorem dec_bl {i j : Bool} : decide (V.bl i = V.bl j) = (i == j) := by
  rw [Bool.eq_iff_iff]
  simp
theorem dec_str {i j : Str} : decide (V.str i = V.str j) = (i == j) := by
  rw [Bool.eq_iff_iff]
  simp
theorem dec_byt {i j : Array UInt8} : decide (V.byt i = V.byt j) = (i.toList == j.toList) := by
  rw [Bool.eq_iff_iff]
  cases i
  cases j
  simp

section
variable {X : Cx} {a b c : Expr} {ta tb tc : TE} {pos : Pos}
theorem fin_bl {pins : List (Addr × Obj)} {σ : St} {H : Hp} {s : Shared} {Q : VK} {k k' : Bool} (I : Inv X pins σ H s) (q : Q (.bl k) H) (e : k = k') : EP X pins σ Q (.bool k') s := by
  subst e
  exact ⟨.bl k, H, I, rfl, q⟩
theorem op_eq : OpR X (compareOp .Eq) rEq := by
  intro pins s σ H x y v u Q I rx ry h
  obtain ⟨hs, q⟩ := h
  cases x with
  | non =>
    cases rx
    cases y with
    | non => cases ry; exact PySem.EqNone.eq_none_none (fin_bl I q (by simp))
    | bl j => cases ry; exact PySem.EqNone.eq_none_bool (fin_bl I q (by simp))
    | int j => obtain ⟨t', rfl⟩ := ry; exact PySem.EqNone.eq_none_int (fin_bl I q (by simp))
    | str j => obtain ⟨t', rfl⟩ := ry; exact PySem.EqNone.eq_none_str (fin_bl I q (by simp))
    | _ => exact absurd (show false = true from hs) Bool.false_ne_true
  | bl i =>
    cases rx
    cases y with
    | non => cases ry; exact PySem.EqNone.eq_bool_none (fin_bl I q (by simp))
    | bl j => cases ry; exact eq_bool (fin_bl I q dec_bl)
    | str j => obtain ⟨t', rfl⟩ := ry; exact PySem.EqMixed.eq_bool_str (fin_bl I q (by simp))
    | _ => exact absurd (show false = true from hs) Bool.false_ne_true
  | int i =>
    obtain ⟨t, rfl⟩ := rx
    cases y with
    | non => cases ry; exact PySem.EqNone.eq_int_none (fin_bl I q (by simp))
    | int j => obtain ⟨t', rfl⟩ := ry; exact eq_int (fin_bl I q dec_int)
    | str j => obtain ⟨t', rfl⟩ := ry; exact PySem.EqMixed.eq_int_str (fin_bl I q (by simp))
    | _ => exact absurd (show false = true from hs) Bool.false_ne_true
  | str i =>
    obtain ⟨t, rfl⟩ := rx
    cases y with
    | non => cases ry; exact PySem.EqNone.eq_str_none (fin_bl I q (by simp))
    | bl j => cases ry; exact PySem.EqMixed.eq_str_bool (fin_bl I q (by simp))
    | int j => obtain ⟨t', rfl⟩ := ry; exact PySem.EqMixed.eq_str_int (fin_bl I q (by simp))
    | str j => obtain ⟨t', rfl⟩ := ry; exact eq_str (fin_bl I q dec_str)
    | _ => exact absurd (show false = true from hs) Bool.false_ne_true
  | byt i =>
    obtain ⟨t, rfl⟩ := rx
    cases y with
    | byt j => obtain ⟨t', rfl⟩ := ry; exact PySem.W.eq_bytes (fin_bl I q dec_byt)
    | _ => exact absurd (show false = true from hs) Bool.false_ne_true
  | _ => cases y <;> exact absurd (show false = true from hs) Bool.false_ne_true
theorem op_ne : OpR X (compareOp .NotEq) rNe := by
  intro pins s σ H x y v u Q I rx ry h
  obtain ⟨hs, q⟩ := h
  cases x with
  | non =>
    cases rx
    cases y with
    | non => cases ry; exact PySem.EqNone.ne_none_none (fin_bl I q (by simp))
    | bl j => cases ry; exact PySem.EqNone.ne_none_bool (fin_bl I q (by simp))
    | int j => obtain ⟨t', rfl⟩ := ry; exact PySem.EqNone.ne_none_int (fin_bl I q (by simp))
    | str j => obtain ⟨t', rfl⟩ := ry; exact PySem.EqNone.ne_none_str (fin_bl I q (by simp))
    | _ => exact absurd (show false = true from hs) Bool.false_ne_true
  | bl i =>
    cases rx
    cases y with
    | non => cases ry; exact PySem.EqNone.ne_bool_none (fin_bl I q (by simp))
    | bl j => cases ry; exact ne_bool (fin_bl I q (congrArg not dec_bl))
    | str j => obtain ⟨t', rfl⟩ := ry; exact PySem.EqMixed.ne_bool_str (fin_bl I q (by simp))
    | _ => exact absurd (show false = true from hs) Bool.false_ne_true
  | int i =>
    obtain ⟨t, rfl⟩ := rx
    cases y with
    | non => cases ry; exact PySem.EqNone.ne_int_none (fin_bl I q (by simp))
    | int j => obtain ⟨t', rfl⟩ := ry; exact ne_int (fin_bl I q (congrArg not dec_int))
    | str j => obtain ⟨t', rfl⟩ := ry; exact PySem.EqMixed.ne_int_str (fin_bl I q (by simp))
    | _ => exact absurd (show false = true from hs) Bool.false_ne_true
  | str i =>
    obtain ⟨t, rfl⟩ := rx
    cases y with
    | non => cases ry; exact PySem.EqNone.ne_str_none (fin_bl I q (by simp))
    | bl j => cases ry; exact PySem.EqMixed.ne_str_bool (fin_bl I q (by simp))
    | int j => obtain ⟨t', rfl⟩ := ry; exact PySem.EqMixed.ne_str_int (fin_bl I q (by simp))
    | str j => obtain ⟨t', rfl⟩ := ry; exact ne_str (fin_bl I q (congrArg not dec_str))
    | _ => exact absurd (show false = true from hs) Bool.false_ne_true
  | byt i =>
    obtain ⟨t, rfl⟩ := rx
    cases y with
    | byt j => obtain ⟨t', rfl⟩ := ry; exact PySem.W.ne_bytes (fin_bl I q (congrArg not dec_byt))
    | _ => exact absurd (show false = true from hs) Bool.false_ne_true
  | _ => cases y <;> exact absurd (show false = true from hs) Bool.false_ne_true

theorem op_lt : OpR X (compareOp .Lt) (rI0 fun i j => .bl (decide (i < j))) := opB0 fun _ _ _ _ _ _ _ q => lt_int q
theorem op_le : OpR X (compareOp .LtE) (rI0 fun i j => .bl (decide (i ≤ j))) := opB0 fun _ _ _ _ _ _ _ q => le_int q
theorem op_gt : OpR X (compareOp .Gt) (rI0 fun i j => .bl (decide (j < i))) := opB0 fun _ _ _ _ _ _ _ q => gt_int q
theorem op_ge : OpR X (compareOp .GtE) (rI0 fun i j => .bl (decide (j ≤ i))) := opB0 fun _ _ _ _ _ _ _ q => ge_int q

theorem nomark (b : Expr) {op : CmpOp} (h : op ≠ .In := by decide) (h2 : op ≠ .NotIn := by decide) : behindInMarks op b = false := by
  have e1 : (op == CmpOp.In) = false := by cases op <;> first | rfl | exact absurd rfl h
  have e2 : (op == CmpOp.NotIn) = false := by cases op <;> first | rfl | exact absurd rfl h2
  cases b <;> simp [behindInMarks, e1, e2]
/-- a comparison as a value; hm: nomark b, or (for in, not in) by with_unfolding_all rfl -/
theorem pe_cmpR {op : CmpOp} {r : R2} (ho : OpR X (compareOp op) r) (ha : PE X a ta) (hb : PE X b tb) (hm : behindInMarks op b = false) : PE X (.Compare a [op] [b] pos) (tOp r ta tb) := by
  intro pins s σ H Q I h
  exact wpAny_Compare1 (binT ha hb I h fun v u s2 x y H2 I2 rx ry q => ho pins s2 σ H2 x y v u Q I2 rx ry q) hm
/-- a reading of a value as a test -/
def tTest (t : TE) : TT := fun σ H Q => t σ H fun x H' => ∃ k, x = .bl k ∧ Q k H'
theorem pt_cmpR {op : CmpOp} {r : R2} (ho : OpR X (compareOp op) r) (ha : PE X a ta) (hb : PE X b tb) (hm : behindInMarks op b = false) : PT X (.Compare a [op] [b] pos) (tTest (tOp r ta tb)) := by
  intro pins s σ H Q I h
  refine wpAny_isTrue_Compare1 (thn (ha pins s σ H _ I h) fun v s1 ⟨x, H1, I1, r1, q1⟩ => thn (hb pins s1 σ H1 _ I1 q1) fun u s2 ⟨y, H2, I2, r2, q2⟩ =>
    thn (ho pins s2 σ H2 x y v u _ I2 r1 r2 q2) fun c s3 ⟨z, H3, I3, r3, k, e, q3⟩ => ?_) hm
  subst e
  cases r3
  exact wpAny_truthy_bool ⟨H3, I3, q3⟩
/-- a op1 b op2 c -/
def tChain (r r' : R2) (ta tb tc : TE) : TE := fun σ H Q => ta σ H fun x H1 => tb σ H1 fun y H2 => r x y H2 fun z H3 => ∃ k, z = .bl k ∧
  (if k = true then tc σ H3 fun w' H4 => r' y w' H4 Q else Q (.bl false) H3)
theorem pe_chain {op op' : CmpOp} {r r' : R2} (ho : OpR X (compareOp op) r) (ho' : OpR X (compareOp op') r') (ha : PE X a ta) (hb : PE X b tb) (hc : PE X c tc)
    (hm : lastMarks [op, op'] [b, c] = false := by with_unfolding_all rfl) : PE X (.Compare a [op, op'] [b, c] pos) (tChain r r' ta tb tc) := by
  intro pins s σ H Q I h
  refine Compare_chain (thn (ha pins s σ H _ I h) fun v s1 ⟨x, H1, I1, r1, q1⟩ => chain_link (thn (hb pins s1 σ H1 _ I1 q1) fun u s2 ⟨y, H2, I2, r2, q2⟩ =>
    thn (ho pins s2 σ H2 x y v u _ I2 r1 r2 q2) fun d s3 ⟨z, H3, I3, r3, k, e, q3⟩ => ?_)) hm
  subst e
  cases r3
  refine wpAny_truthy_bool ?_
  cases k with
  | false => exact ite_ff ⟨.bl false, H3, I3, rfl, q3⟩
  | true => exact ite_tt (chain_last (thn (hc pins s3 σ H3 _ I3 q3) fun w' s4 ⟨z', H4, I4, r4, q4⟩ => ho' pins s4 σ H4 y z' u w' Q I4 r2 r4 q4))

/-! ### truth -/
/-- a value's truth by the abstract heap -/
def TruV (K : PySem.W.Frag) (x : V) (H : Hp) (k : Bool) : Prop :=
  match x with
  | .non => k = false
  | .bl b => k = b
  | .int i => k = (i != 0)
  | .str y => y.length ≤ sizeLine ∧ k = ((y.length : Int) != 0)
  | .byt y => y.size ≤ sizeLine ∧ k = ((y.size : Int) != 0)
  | .ref p => (∃ xs, SqL K H p xs ∧ k = !xs.isEmpty) ∨ (∃ xs, SqT K H p xs ∧ k = !xs.isEmpty) ∨ ∃ kvs, H p = some (.dK kvs) ∧ k = !kvs.isEmpty
  | _ => False
theorem isEmpty_kv {κ : Type} {kvs : List (κ × V)} {vs : List (κ × Value)} (r : KV kvs vs) : (!vs.isEmpty) = !kvs.isEmpty := by
  cases r <;> rfl
theorem isEmpty_of {xs : List V} {its : List Value} (r : Vals xs its) : (!its.toArray.isEmpty) = !xs.isEmpty := by
  cases r <;> simp
theorem line63 : (sizeLine : Nat) < 2 ^ 63 := by rw [sizeLine_eq]; decide
theorem tru_ok : TruR X (fun x H Q => ∃ k, TruV X.K x H k ∧ Q k H) := by
  intro pins s σ H x v Q I rx h
  obtain ⟨k, e, q⟩ := h
  have hl := line63
  have hs : sizeLine = 16777216 := sizeLine_eq
  cases x with
  | non =>
    cases rx
    have e' : k = false := e
    subst e'
    exact truthy_none ⟨H, I, q⟩
  | bl b =>
    cases rx
    have e' : k = b := e
    subst e'
    exact wpAny_truthy_bool ⟨H, I, q⟩
  | int i =>
    obtain ⟨t, rfl⟩ := rx
    have e' : k = (i != 0) := e
    subst e'
    exact PySem.P.truthy_int ⟨H, I, q⟩
  | str y =>
    obtain ⟨t, rfl⟩ := rx
    obtain ⟨hy, e'⟩ : y.length ≤ sizeLine ∧ k = ((y.length : Int) != 0) := e
    subst e'
    exact PySem.P.truthy_str (by omega) ⟨H, I.tok _, q⟩
  | byt y =>
    obtain ⟨t, rfl⟩ := rx
    obtain ⟨hy, e'⟩ : y.size ≤ sizeLine ∧ k = ((y.size : Int) != 0) := e
    subst e'
    exact PySem.W.truthy_bytes (by omega) ⟨H, I.tok _, q⟩
  | ref p =>
    cases rx
    have e' : (∃ xs, SqL X.K H p xs ∧ k = !xs.isEmpty) ∨ (∃ xs, SqT X.K H p xs ∧ k = !xs.isEmpty) ∨ ∃ kvs, H p = some (.dK kvs) ∧ k = !kvs.isEmpty := e
    rcases e' with ⟨xs, hx, e'⟩ | ⟨xs, hx, e'⟩ | ⟨kvs, hx, e'⟩
    · subst e'
      obtain ⟨its, r, pl, hz⟩ := I.list hx
      have hlen := r.length
      exact wpAny_truthy_list pl.isList (by simp only [List.size_toArray]; omega) ⟨H, I.tok _, by rw [isEmpty_of r]; exact q⟩
    · subst e'
      obtain ⟨its, r, pl, hz⟩ := I.tuple hx
      have hlen := r.length
      exact truthy_tuple pl (by simp only [List.size_toArray]; omega) ⟨H, I.tok _, by rw [isEmpty_of r]; exact q⟩
    · subst e'
      obtain ⟨hz, hS, vs, r, m⟩ : kvs.length ≤ sizeLine ∧ (p == sysModules) = false ∧ ∃ vs, KV kvs vs ∧ s.heap.DictOf (mixKind X.prog X.w) p vs := I.hok p _ hx
      have hlen : kvs.length = vs.length := Paired.length r
      exact wpAny_truthy_dict hS m (by omega) ⟨H, I.tok _, by rw [isEmpty_kv r]; exact q⟩
  | _ => exact (show False from e).elim
/-- any expression whose test is its value's truth (a name, a call, a subscript, a field ..: he by fun _ => rfl) -/
theorem pt_truth (ha : PE X a ta) (he : ∀ whole, isTrue a X.env whole = (do let v ← whole; standAt a.pos; holding [v] (truthy v))) :
    PT X a (fun σ H Q => ta σ H fun x H' => ∃ k, TruV X.K x H' k ∧ Q k H') := by
  intro pins s σ H Q I h
  exact isTrue_plain (thn (ha pins s σ H _ I h) fun v s1 ⟨x, H1, I1, r1, q1⟩ => tru_ok pins s1 σ H1 x v Q I1 r1 q1) (he _)

/-! ### strs and bytes -/

/-! ### scalar builtins, by CallR -/
theorem vals1 {x : V} {us : List Value} (r : Vals [x] us) : ∃ u, us = [u] ∧ RelV x u := by
  cases r with
  | cons r1 r2 => cases r2; exact ⟨_, rfl, r1⟩
theorem vals2 {x y : V} {us : List Value} (r : Vals [x, y] us) : ∃ u w', us = [u, w'] ∧ RelV x u ∧ RelV y w' := by
  cases r with
  | cons r1 r2 =>
    cases r2 with
    | cons r3 r4 => cases r4; exact ⟨_, _, rfl, r1, r3⟩
end
end L2

namespace L2
open PySem PySem.Spec PyProof.Rows

/-! ### an instance, its attributes a map -/

section
variable {prog : Program} {w : World} {A : Around} {E : Value → Shared → Prop} {s : Shared} {K : PySem.W.Frag} {x dx C f : Addr} {mA : Str → Option Value} {name : Str} {v : Value}

end

/-! ### the attributes as a list of pairs -/

section
variable {P : Program} {w : World} {H H' : Hp} {h h' : Heap} {a C dx : Addr} {fs fs' : List (Str × V)}
end

/-! ### what of the text a class must have -/

section
variable {X : Cx} {pins : List (Addr × Obj)} {σ : St} {H : Hp} {s : Shared} {a C dx : Addr} {fs : List (Str × V)} {f : Str} {v : V} {A : Around} {E : Value → Shared → Prop}

end

/-! ### readings and rules -/

section
variable {X : Cx} {o e value : Expr} {f : Str} {pos pos' tpos : Pos} {ta tv : TE}

end

/-! ### isinstance -/
section
variable {X : Cx} {pins : List (Addr × Obj)} {σ : St} {H : Hp} {s : Shared} {A : Around} {E : Value → Shared → Prop} {Q : Value → Shared → Prop} {c : Value} {b : Bool}
end
end L2

namespace L2
open PySem PySem.Spec PyProof.Rows

/-! ### room -/
structure Room (k : Nat) (A : Around) : Prop where
  hd : A.handled = none
  dp : A.depth + 3 * k + 5 < recursionLimit
  un : A.units + 16 * k + 200 < cLine
theorem Room.mono {j k : Nat} {A : Around} (r : Room k A) (h : j ≤ k) : Room j A := ⟨r.hd, by have := r.dp; omega, by have := r.un; omega⟩
theorem Room.deeper {k : Nat} {A : Around} (r : Room (k + 1) A) (env : Env) : Room k (A.deeper env) :=
  ⟨r.hd, by have := r.dp; show A.depth + 1 + 3 * k + 5 < _; omega, by have := r.un; show A.units + 3 + 16 * k + 200 < _; omega⟩
theorem Room.depth {k : Nat} {A : Around} (r : Room k A) : A.depth < recursionLimit := by have := r.dp; omega

/-! ### argument lists and displays -/
def tNil : TA := fun _ H Q => Q [] H
def tCons (ta : TE) (tr : TA) : TA := fun σ H Q => ta σ H fun x H1 => tr σ H1 fun xs H2 => Q (x :: xs) H2
section
variable {X : Cx} {e : Expr} {es : List Expr} {te : TE} {t : TA} {pos : Pos}
theorem pa_nil : PA X [] tNil := fun _ _ _ _ H Q I h => Calls.spliced_nil ⟨[], H, I, .nil, h⟩
theorem pa_cons (ha : PE X e te) (hr : PA X es t) (hs : starEach (e :: es) X.env = (false, eval e X.env) :: starEach es X.env := by rfl) : PA X (e :: es) (tCons te t) := by
  intro pos pins s σ H Q I h
  rw [hs]
  show wpAny _ _ (spliced ((false, eval e X.env) :: backTo pos (starEach es X.env))) _ _ s
  refine Calls.spliced_cons (thn (ha pins s σ H _ I h) fun u s1 ⟨x, H1, I1, r1, q1⟩ => ?_)
  exact thn (hr pos pins s1 σ H1 _ I1 q1) fun us s2 ⟨xs, H2, I2, r2, q2⟩ => ⟨x :: xs, H2, I2, .cons r1 r2, q2⟩

/-- a tuple, a list of written items -/
def tTup (t : TA) : TE := fun σ H Q => t σ H fun xs H1 => xs.length ≤ sizeLine ∧ ∀ p, H1 p = none → Q (.ref p) (upd H1 p (.tup xs))
def tLst (t : TA) : TE := fun σ H Q => t σ H fun xs H1 => xs.length ≤ sizeLine ∧ ∀ p, H1 p = none → Q (.ref p) (upd H1 p (.lst xs))
theorem pe_tup {x1} (h : PA X es t) : PE X (.Tuple es x1 pos) (tTup t) := by
  intro pins s σ H Q I hq
  refine wpAny_Tuple_spliced (thn (h pos pins s σ H _ I hq) fun us s1 ⟨xs, H1, I1, r, z, q⟩ => ⟨by rw [← r.length]; exact z, ?_⟩)
  have hf : H1 s1.heap.objs.size = none := I1.hok.fresh (Nat.le_refl _)
  refine ⟨.ref s1.heap.objs.size, upd H1 s1.heap.objs.size (.tup xs), I1.laid (t' := s1.toks) (fun b u e => Heap.get?_push_of_some _ e) (Nat.le_refl _) ?_, rfl, q _ hf⟩
  exact ⟨z, us, r, ⟨_, Heap.get?_push_size _ rfl, rfl, _, rfl⟩⟩
theorem pe_lst (h : PA X es t) : PE X (.List es pos) (tLst t) := by
  intro pins s σ H Q I hq
  refine wpAny_List_spliced (thn (h pos pins s σ H _ I hq) fun us s1 ⟨xs, H1, I1, r, z, q⟩ => ⟨by rw [← r.length]; exact z, ?_⟩)
  have hf : H1 s1.heap.objs.size = none := I1.hok.fresh (Nat.le_refl _)
  refine ⟨.ref s1.heap.objs.size, upd H1 s1.heap.objs.size (.lst xs), I1.laid (t' := s1.toks) (fun b u e => Heap.get?_push_of_some _ e) (Nat.le_refl _) ?_, rfl, q _ hf⟩
  exact ⟨z, us, 0, r, Heap.get?_push_size _ rfl⟩
end

/-! ### what a def promises -/
/-- a def's promise: the bound arguments in the parameters' order, the heap, the wanted end, the wanted exception -/
abbrev Sp := List V → Hp → VK → XK → Prop
/-- how an exception lies behind a call (file 08 gives it): the callers' frames, abstract heap and state ahead of the call, the wish, the exception, the state -/
abbrev CXT := List Env → Hp → Shared → XK → Value → Shared → Prop

/-- the state at a call -/
structure Env0 (P : Program) (w : World) (K : PySem.W.Frag) (mg : Str → Option Value) (base : Heap) (A : Around) (outer : List Env) (s : Shared) (H : Hp) : Prop where
  frames : A.frames = some outer
  mod : Mod K mg base
  bs : ∀ b o, base.get? b = some o → s.heap.get? b = some o ∧ H b = none
  bsz : base.objs.size ≤ s.heap.objs.size
  funs : s.heap.FunFrames base outer
  frf : ∀ b ∈ frs outer, H b = none
  hok : HOk P w H s.heap
  bare : AllBare s.gens
/-- a call's end -/
def CE (outer : List Env) (P : Program) (w : World) (H : Hp) (s : Shared) (Q : VK) (u : Value) (s' : Shared) : Prop :=
  ∃ v H', s'.os = s.os ∧ AllBare s'.gens ∧ Un (frs outer) [] H H' s.heap s'.heap ∧ HOk P w H' s'.heap ∧ RelV v u ∧ Q v H'
def CR (CX : CXT) (outer : List Env) (P : Program) (w : World) (H : Hp) (s : Shared) (Q : VK) (E : XK) (r : Result) (s' : Shared) : Prop :=
  match r with
  | .ok (.ret u) => CE outer P w H s Q u s'
  | .ok _ => False
  | .error e => CX outer H s E e s'
structure FnOk (P : Program) (w : World) (K : PySem.W.Frag) (mg : Str → Option Value) (base : Heap) (CX : CXT) (k : Nat) (f : Addr) (fd : FuncData) (ps : List Str) (sp : Sp) : Prop where
  len : ∀ vs H Q E, sp vs H Q E → vs.length = ps.length
  run : ∀ (A : Around) (outer : List Env) (s : Shared) (H : Hp) (args : Args) (us : List Value) (vs : List V) (Q : VK) (E : XK), Room k A → Env0 P w K mg base A outer s H → BindsTo s fd args (ps.zip us) → Vals vs us → sp vs H Q E →
    codeAny (model P w) A (.call (.ref f) args) (CR CX outer P w H s Q E) s
theorem FnOk.mono {P : Program} {w : World} {K : PySem.W.Frag} {mg : Str → Option Value} {base : Heap} {CX : CXT} {j k : Nat} {f : Addr} {fd : FuncData} {ps : List Str} {sp : Sp} (F : FnOk P w K mg base CX j f fd ps sp) (h : j ≤ k) :
    FnOk P w K mg base CX k f fd ps sp := ⟨F.len, fun A outer s H args us vs Q E hr => F.run A outer s H args us vs Q E (hr.mono h)⟩

section
variable {X : Cx} {pins : List (Addr × Obj)} {σ : St} {H : Hp} {s s' : Shared}
/-- from a body: what a callee wants -/
theorem Inv.env0 (I : Inv X pins σ H s) : Env0 X.prog X.w X.K X.mg X.base X.A X.stack s H :=
  ⟨I.ok.frames, I.ok.mod, I.bs, Nat.le_trans I.ok.bsz I.sz, I.stack, I.stkFree, I.hok, I.bare⟩
/-- behind a call -/
theorem Inv.after {Q : VK} {u : Value} (I : Inv X pins σ H s) (h : CE X.stack X.prog X.w H s Q u s') : EP X pins σ Q u s' := by
  obtain ⟨v, H', os, bare, un, hok, r, q⟩ := h
  obtain ⟨hh, g, d, t, os'⟩ := s'
  obtain rfl : os' = s.os := os
  exact ⟨v, H', I.call (h' := hh) (g' := g) (d' := d) (t' := t) (ch := []) un hok bare (fun b z => absurd z (by simp)), r, q⟩
end

/-! ### calls -/
/-- f(..): the written arguments, then the defaults dvs; E: what is wanted of an exception -/
def tCall (sp : Sp) (dvs : List V) (E : XK) (t : TA) : TE := fun σ H Q => t σ H fun vs H1 => sp (vs ++ dvs) H1 Q E

/-- how the parameters are bound: us the positional arguments, kw the keywords' values by name, ds the defaults that fill up -/
def Binds (K : PySem.W.Frag) (fd : FuncData) (ps : List Str) (ds : List Value) : Prop :=
  ∀ (s : Shared) (us : List Value), K.In s.heap → (us ++ ds).length = ps.length → BindsTo s fd ⟨us, []⟩ (ps.zip (us ++ ds))
/-- every parameter is given -/
theorem Binds.all {K : PySem.W.Frag} {fd : FuncData} {ps : List Str} (h : ∀ us : List Value, us.length = ps.length → bindArgs fd ⟨us, []⟩ = pure (ps.zip us)) : Binds K fd ps [] := fun s us _ hl => by
  rw [List.append_nil] at hl ⊢
  exact .of_eq (h us hl)

/-- an exception of a callee reaches what this body wants of exceptions -/
def Passes (CX : CXT) (X : Cx) (E : XK) : Prop := ∀ (pins : List (Addr × Obj)) (σ : St) (H : Hp) (s : Shared) (e : Value) (s' : Shared), Inv X pins σ H s → CX X.stack H s E e s' → X.xe e s'

section
variable {X : Cx} {CX : CXT} {k : Nat} {f C : Addr} {fd : FuncData} {ps : List Str} {sp : Sp} {dvs : List V} {ds : List Value} {E : XK} {x m : Str} {p pos apos : Pos} {e o : Expr} {es : List Expr} {ta : TE} {t : TA}

/-- the callee runs -/
theorem run_fn {pins : List (Addr × Obj)} {σ : St} {H : Hp} {s : Shared} {Q : VK} {us : List Value} {vs : List V} (F : FnOk X.prog X.w X.K X.mg X.base CX k f fd ps sp) (hr : Room k X.A) (hb : Binds X.K fd ps ds) (hd : Vals dvs ds) (hx : Passes CX X E)
    (I : Inv X pins σ H s) (r : Vals vs us) (h : sp (vs ++ dvs) H Q E) : wpAny (model X.prog X.w) X.A (call (.ref f) us) (EP X pins σ Q) X.xe s := by
  have r2 : Vals (vs ++ dvs) (us ++ ds) := r.append hd
  have hl : (us ++ ds).length = ps.length := by rw [← r2.length]; exact F.len _ _ _ _ h
  refine wpAny_call (codeAny_mono (F.run X.A X.stack s H ⟨us, []⟩ (us ++ ds) (vs ++ dvs) Q E hr I.env0 (hb s us I.kIn hl) r2 h) fun r s' hq => ?_)
  cases r with
  | error e => exact hx pins σ H s e s' I hq
  | ok fl =>
    cases fl with
    | ret u => exact I.after hq
    | next => exact False.elim hq
    | brk => exact False.elim hq
    | cont => exact False.elim hq

theorem pe_call (F : FnOk X.prog X.w X.K X.mg X.base CX k f fd ps sp) (hr : Room k X.A) (hg : Gl X x) (hm : X.mg x = some (.ref f)) (hk : PySem.W.keepIn X.K (.ref f) = true) (hb : Binds X.K fd ps ds) (hd : Vals dvs ds) (hx : Passes CX X E)
    (ha : PA X (e :: es) t) (hdb : (x == ("__debug__" : Str)) = false := by decide) (he : starEach (e :: es) X.env = (false, eval e X.env) :: starEach es X.env := by rfl) (hpl : (backTo pos (starEach es X.env)).any (·.1) = false := by rfl) :
    PE X (.Call (.Name x p) (e :: es) [] pos) (tCall sp dvs E t) := by
  intro pins s σ H Q I h
  refine wpAny_Call_Name_kw (ld_glob I hg hm ?_ hdb)
  refine PySem.W.callWith_K (h₀ := X.base) I.ok.mod.kin hk (thn (ha pos pins s σ H _ I h) fun us s1 ⟨vs, H1, I1, r, q⟩ => ⟨I1.kIn, ?_⟩) he hpl
  exact run_fn F hr hb hd hx I1 r q

end

/-! ### keywords -/
/-- the values of the keywords, from the left -/
def PK (X : Cx) (kws : List Keyword) (t : TA) : Prop :=
  ∀ (pos : Pos) (pins : List (Addr × Obj)) (s : Shared) (σ : St) (H : Hp) (Q : List V → Hp → Prop), Inv X pins σ H s → t σ H Q → wpAny (model X.prog X.w) X.A (evalAll ((backToKw pos (keywordEach kws X.env)).map (·.2))) (AP X pins σ Q) X.xe s
section
variable {X : Cx} {CX : CXT} {k : Nat} {f C : Addr} {fd : FuncData} {ps ks : List Str} {sp : Sp} {E : XK} {x m : Str} {p pos apos kpos : Pos} {e o : Expr} {es : List Expr} {kws : List Keyword} {te ta : TE} {t tk : TA} {nm : Option Str}
theorem pk_nil : PK X [] tNil := fun _ _ _ _ H Q I h => wpAny_evalAll_nil ⟨[], H, I, .nil, h⟩
theorem pk_cons (ha : PE X e te) (hr : PK X kws t) : PK X (⟨nm, e, kpos⟩ :: kws) (tCons te t) := by
  intro pos pins s σ H Q I h
  show wpAny _ _ (evalAll ((do let v ← eval e X.env; standAt pos; pure v) :: (backToKw pos (keywordEach kws X.env)).map (·.2))) _ _ s
  refine wpAny_evalAll_cons (wpAny_bind (thn (ha pins s σ H _ I h) fun u s1 ⟨x, H1, I1, r1, q1⟩ => wpAny_bind (wpAny_standAt (wpAny_pure ?_))))
  exact thn (hr pos pins s1 σ H1 _ I1 q1) fun us s2 ⟨xs, H2, I2, r2, q2⟩ => ⟨x :: xs, H2, I2, .cons r1 r2, q2⟩

/-- how a call with keywords binds: g puts the positional values us and the keywords' values ws (names ks) in the parameters' order, defaults among them -/
structure KBinds (K : PySem.W.Frag) (fd : FuncData) (ps ks : List Str) (g : List Value → List Value → List Value) (gV : List V → List V → List V) : Prop where
  to : ∀ (s : Shared) (us ws : List Value), K.In s.heap → (g us ws).length = ps.length → BindsTo s fd ⟨us, ks.zip ws⟩ (ps.zip (g us ws))
  rel : ∀ {vs : List V} {us : List Value} {zs : List V} {ws : List Value}, Vals vs us → Vals zs ws → Vals (gV vs zs) (g us ws)
def tCallK (sp : Sp) (gV : List V → List V → List V) (E : XK) (t tk : TA) : TE := fun σ H Q => t σ H fun vs H1 => tk σ H1 fun zs H2 => sp (gV vs zs) H2 Q E
variable {g : List Value → List Value → List Value} {gV : List V → List V → List V}
end

/-! ### a def's body keeps its promise -/
/-- names: the parameters first -/
structure FnScope (N P : List Str) (sc : Scope) : Prop where
  kind : sc.kind = .function
  co : sc.isCoroutine = false
  gen : sc.isGenerator = false
  nd : N.Nodup
  pre : N.take P.length = P
  par : ∀ x ∈ P, sc.names.lookup x = some .local ∨ sc.names.lookup x = some .cell
  nofree : ∀ y ∈ sc.names, y.2 ≠ .free

theorem bindL_out {kindOf : Str → Option NameKind} {x : Str} : ∀ {binds : List (Str × Value)} {m : Str → Option Value}, (∀ v, (x, v) ∉ binds) → bindL kindOf binds m x = m x
  | [], _, _ => rfl
  | (n, v) :: r, m, h => by
    unfold bindL
    rw [bindL_out fun w hw => h w (List.mem_cons_of_mem _ hw)]
    split
    · have : x ≠ n := by rintro rfl; exact h v List.mem_cons_self
      simp [this]
    · rfl
theorem bindC_out {kindOf : Str → Option NameKind} {x : Str} : ∀ {binds : List (Str × Value)} {m : Str → Option Value}, (∀ v, (x, v) ∉ binds) → bindC kindOf binds m x = m x
  | [], _, _ => rfl
  | (n, v) :: r, m, h => by
    unfold bindC
    rw [bindC_out fun w hw => h w (List.mem_cons_of_mem _ hw)]
    split
    · rfl
    · have : x ≠ n := by rintro rfl; exact h v List.mem_cons_self
      simp [this]
theorem bindL_get {kindOf : Str → Option NameKind} {x : Str} {v : Value} : ∀ {P : List Str} {vs : List Value} {i : Nat} {m : Str → Option Value}, P.Nodup → P[i]? = some x → vs[i]? = some v → kindOf x = some .local →
    bindL kindOf (P.zip vs) m x = some v
  | [], _, _, _, _, h, _, _ => by simp at h
  | _ :: _, [], _, _, _, _, h, _ => by simp at h
  | p :: P, w :: vs, 0, m, nd, h1, h2, hk => by
    simp at h1 h2; subst h1; subst h2
    show bindL kindOf ((p, w) :: P.zip vs) m p = _
    unfold bindL
    rw [bindL_out fun v hv => (List.nodup_cons.mp nd).1 (List.of_mem_zip hv).1, if_pos hk]
    simp
  | p :: P, w :: vs, i + 1, m, nd, h1, h2, hk => by
    show bindL kindOf ((p, w) :: P.zip vs) m x = _
    unfold bindL
    exact bindL_get (i := i) (List.nodup_cons.mp nd).2 (by simpa using h1) (by simpa using h2) hk
theorem bindC_get {kindOf : Str → Option NameKind} {x : Str} {v : Value} : ∀ {P : List Str} {vs : List Value} {i : Nat} {m : Str → Option Value}, P.Nodup → P[i]? = some x → vs[i]? = some v → kindOf x ≠ some .local →
    bindC kindOf (P.zip vs) m x = some v
  | [], _, _, _, _, h, _, _ => by simp at h
  | _ :: _, [], _, _, _, _, h, _ => by simp at h
  | p :: P, w :: vs, 0, m, nd, h1, h2, hk => by
    simp at h1 h2; subst h1; subst h2
    show bindC kindOf ((p, w) :: P.zip vs) m p = _
    unfold bindC
    rw [bindC_out fun v hv => (List.nodup_cons.mp nd).1 (List.of_mem_zip hv).1, if_neg hk]
    simp
  | p :: P, w :: vs, i + 1, m, nd, h1, h2, hk => by
    show bindC kindOf ((p, w) :: P.zip vs) m x = _
    unfold bindC
    exact bindC_get (i := i) (List.nodup_cons.mp nd).2 (by simpa using h1) (by simpa using h2) hk

/-- the names' values at the entry -/
def start (N : List Str) (vs : List V) : St := vs.map some ++ List.replicate (N.length - vs.length) none

/-- the context of a def's body, at its entry; an exception leaves the frame, then lies as CX says -/
def cxOf (CX : CXT) (P : Program) (w : World) (K : PySem.W.Frag) (mg : Str → Option Value) (base : Heap) (N : List Str) (qual : Str) (scope : Scope) (f : Addr) (cd : Value) (A : Around) (outer : List Env) (s : Shared) (H : Hp) (E : XK) : Cx where
  prog := P
  w := w
  K := K
  mg := mg
  base := base
  A := A.deeper (envOfC qual scope s.heap.objs.size f cd)
  N := N
  s₀ := s
  H₀ := H
  env := envOfC qual scope s.heap.objs.size f cd
  outer := outer
  stack := envOfC qual scope s.heap.objs.size f cd :: outer
  ex := []
  calm := true
  fn := fun _ => true
  pn := []
  xe := fun e s' => wpAny (model P w) (A.deeper (envOfC qual scope s.heap.objs.size f cd)) (leaving (envOfC qual scope s.heap.objs.size f cd) e) (fun _ s'' => CX outer H s E e s'') (fun e' s'' => CX outer H s E e' s'') s'

theorem cell_has {sc : Scope} {n : Nat} {x : Str} (h : sc.names.lookup x = some .cell) : ∃ c, (cellsFrom n sc.names []).lookup x = some c := by
  have q := PySem.W.cellsFrom_some sc.names n [] (.inl h)
  exact Option.isSome_iff_exists.mp q

theorem inv_start {CX : CXT} {P : Program} {w : World} {K : PySem.W.Frag} {mg : Str → Option Value} {base : Heap} {N ps : List Str} {qual : Str} {scope : Scope} {f : Addr} {cd : Value} {A : Around} {outer : List Env} {s s1 : Shared} {H : Hp} {E : XK} {us : List Value} {vs : List V}
    (S : FnScope N ps scope) (hd : A.handled = none) (e0 : Env0 P w K mg base A outer s H) (hl : vs.length = ps.length) (r : Vals vs us)
    (x : InCallC s s.heap.objs.size (bindL (envOfC qual scope s.heap.objs.size f cd).kindOf (ps.zip us) fun _ => none) (cellsFrom (s.heap.objs.size + 1) scope.names []) (bindC (envOfC qual scope s.heap.objs.size f cd).kindOf (ps.zip us) fun _ => none) s1) :
    Inv (cxOf CX P w K mg base N qual scope f cd A outer s H E) [] (start N vs) H s1 := by
  have hpl : ps.length ≤ N.length := by have := congrArg List.length S.pre; rw [List.length_take] at this; omega
  obtain ⟨h1, tk, rfl, hk⟩ := x.done
  have noA : ∀ b : Addr, b ∉ (cxOf CX P w K mg base N qual scope f cd A outer s H E).ex := fun b z => absurd (show b ∈ ([] : List Addr) from z) (by simp)
  refine ⟨⟨e0.mod, S.kind, rfl, rfl, Nat.le_refl _, fun y z c h1 h2 => ?_, fun y hy => ?_, fun y c _ h => ?_, fun _ => hd, Around.frames_deeper e0.frames, .inr ⟨rfl, rfl⟩, fun b z => absurd z (noA b), e0.bs, e0.bsz, fun b _ _ => noA b, fun b z => absurd z (noA b), e0.funs, e0.frf⟩,
    rfl, e0.bare, Un.kept hk, ⟨_, x.toInCall.ns, fun i y v h1 h2 h3 => ?_⟩, fun y c h => ⟨_, x.cell y c h⟩, e0.hok.fresh (Nat.le_refl _), fun y c h => ?_, fun p hp => absurd (show p ∈ ([] : List (Addr × Obj)) from hp) (by simp), e0.hok.kept hk, ?_⟩
  · exact name_of_addr x.apart (PySem.mem_of_lookup h1) (PySem.mem_of_lookup h2)
  · have hy : scope.names.lookup y = some .cell ∨ scope.names.lookup y = some .free := hy
    rcases hy with hy | hy
    · exact cell_has hy
    · exact absurd rfl (S.nofree _ (PySem.mem_of_lookup hy))
  · exact Nat.le_of_lt (x.above y c (PySem.mem_of_lookup h))
  · have hi : i < vs.length := by
      unfold start at h2
      by_cases hi : i < vs.length
      · exact hi
      · rw [List.getElem?_append_right (by simpa using hi)] at h2
        rw [List.getElem?_replicate] at h2
        split at h2 <;> cases h2
    have ha : vs[i]? = some v := by
      unfold start at h2
      rw [List.getElem?_append_left (by simpa using hi), List.getElem?_map] at h2
      cases e : vs[i]? with
      | none => rw [e] at h2; cases h2
      | some a => rw [e] at h2; cases h2; rfl
    obtain ⟨u, hu, rv⟩ := r.get ha
    have hp : ps[i]? = some y := by
      rw [← S.pre, List.getElem?_take_of_lt (by omega)]; exact h1
    have ndP : ps.Nodup := by rw [← S.pre]; exact S.nd.sublist (List.take_sublist _ _)
    refine ⟨u, rv, ?_⟩
    rcases S.par y (List.mem_of_getElem? hp) with k | k
    · exact .inl ⟨k, bindL_get ndP hp hu k⟩
    · obtain ⟨c, e⟩ := cell_has (n := s.heap.objs.size + 1) k
      refine .inr ⟨.inl k, c, e, ?_⟩
      have q := x.cell y c e
      rw [bindC_get ndP hp hu (by show scope.names.lookup y ≠ _; rw [k]; decide)] at q
      exact q
  · exact e0.hok.fresh (Nat.le_of_lt (x.above y c (PySem.mem_of_lookup h)))
  · unfold start
    show _ = N.length
    rw [List.length_append, List.length_map, List.length_replicate]
    omega

/-- THE RULE: a def (or a method) of the text, by its body. The body's reading t is chosen for each entry; it is run at the parameters' values -/
theorem fn_of {CX : CXT} {P : Program} {w : World} {K : PySem.W.Frag} {mg : Str → Option Value} {base : Heap} {k : Nat} {f : Addr} {name qual : Str} {params : Arguments} {body : List Stmt} {scope : Scope} {dV kV doc pm cdv ct oc : Value} {an od : Option Addr}
    {osl : Array (Option Value)} {N ps : List Str} {sp : Sp} (lk : K.lookup f = some ⟨oc, od, .func (PySem.W.fnOf name qual params body scope dV kV doc pm an cdv ct), osl⟩) (hcd : PySem.W.codeIn K cdv qual = true) (S : FnScope N ps scope)
    (len : ∀ vs H Q E, sp vs H Q E → vs.length = ps.length)
    (hbody : ∀ (A : Around) (outer : List Env) (s : Shared) (H : Hp) (vs : List V) (Q : VK) (E : XK), Room k (A.deeper (envOfC qual scope s.heap.objs.size f cdv)) → sp vs H Q E →
      ∃ t, PSs (cxOf CX P w K mg base N qual scope f cdv A outer s H E) body t ∧ t { nx := fun _ H' => Q .non H', rt := Q } (start N vs) H) :
    FnOk P w K mg base CX (k + 1) f (PySem.W.fnOf name qual params body scope dV kV doc pm an cdv ct) ps sp := by
  refine ⟨len, fun A outer s H args us vs Q E hr e0 hb r hsp => ?_⟩
  have hl := len _ _ _ _ hsp
  have KX : K.In s.heap := e0.mod.kin.keeps fun b o e => (e0.bs b o e).1
  have lim : s.heap.NoLimit := e0.mod.nolimit.keeps fun b o e => (e0.bs b o e).1
  have hkind : ∀ y ∈ ps.zip us, scope.names.lookup y.1 = some .local ∨ (scope.names.lookup y.1 = some .cell ∧ ((cellsFrom (s.heap.objs.size + 1) scope.names []).lookup y.1).isSome = true) := fun ⟨n, v⟩ hy => by
    rcases S.par n (List.of_mem_zip hy).1 with q | q
    · exact .inl q
    · exact .inr ⟨q, PySem.W.cellsFrom_some _ _ _ (.inl q)⟩
  refine codeAny_call_function hr.depth (KX _ _ lk) rfl S.co S.gen rfl (PySem.W.codeRec_of KX hcd) (hb _ _ _ _ ?_)
  refine wpAny_newFunctionEnv_cells S.kind hkind fun env he s1 x => ?_
  subst he
  refine ⟨lim.keeps x.toInCall.keep, codeAny_func ?_⟩
  obtain ⟨t, ht, hq⟩ := hbody A outer s H vs Q E (hr.deeper _) hsp
  have I : Inv (cxOf CX P w K mg base N qual scope f cdv A outer s H E) [] (start N vs) H s1 := inv_start S hr.hd e0 hl r x
  refine wpAny_mono (ht [] s1 (start N vs) H _ I hq) (fun fl s' hs => ?_) fun e s' hs => hs
  have fin : ∀ {σ' : St} {H' : Hp} {v : V} {u : Value}, Inv (cxOf CX P w K mg base N qual scope f cdv A outer s H E) [] σ' H' s' → RelV v u → Q v H' → CE outer P w H s Q u s' :=
    fun {σ' H' v u} J rv q => ⟨v, H', J.os, J.bare, J.base, J.hok, rv, q⟩
  cases fl with
  | ret u =>
    obtain ⟨v, σ', H', J, rv, q⟩ := hs
    exact fin J rv q
  | next =>
    obtain ⟨σ', H', J, q⟩ := hs
    exact fin (v := V.non) (u := Value.none) J rfl q
  | brk =>
    obtain ⟨_, _, _, q⟩ := hs
    exact False.elim q
  | cont =>
    obtain ⟨_, _, _, q⟩ := hs
    exact False.elim q
end L2

namespace L2
open PySem PySem.Spec PyProof.Rows
section
variable {X : Cx} {x : Str} {p pos : Pos} {e : Expr} {es : List Expr} {t : TA} {id T : String} {r : List V → Hp → VK → Prop}

def tCB (r : List V → Hp → VK → Prop) (t : TA) : TE := fun σ H Q => t σ H fun vs H1 => r vs H1 Q
/-- f(e, ..), f a built-in function -/
theorem pe_callB (hc : CallR X (.builtin id) r) (hg : Gl X x) (hm : X.mg x = none) (hv : bootBuiltins x = some (.builtin id)) (ha : PA X (e :: es) t) (hn : x ≠ "__name__" := by decide) (hdb : (x == ("__debug__" : Str)) = false := by decide)
    (he : starEach (e :: es) X.env = (false, eval e X.env) :: starEach es X.env := by rfl) (hpl : (backTo pos (starEach es X.env)).any (·.1) = false := by rfl) : PE X (.Call (.Name x p) (e :: es) [] pos) (tCB r t) := by
  intro pins s σ H Q I h
  refine wpAny_Call_Name_kw (ld_blt I hg hm hv ?_ hn hdb)
  exact PyProof.Rows.callWith_builtin1 (thn (ha pos pins s σ H _ I h) fun us s1 ⟨vs, H1, I1, r1, q1⟩ => hc pins s1 σ H1 vs us Q I1 r1 q1) he hpl
/-- T(e, ..), T a built-in type -/
theorem pe_callTy (hc : CallR X (.type T) r) (hg : Gl X x) (hm : X.mg x = none) (hv : bootBuiltins x = some (.type T)) (ha : PA X (e :: es) t) (hn : x ≠ "__name__" := by decide) (hdb : (x == ("__debug__" : Str)) = false := by decide)
    (he : starEach (e :: es) X.env = (false, eval e X.env) :: starEach es X.env := by rfl) (hpl : (backTo pos (starEach es X.env)).any (·.1) = false := by rfl) : PE X (.Call (.Name x p) (e :: es) [] pos) (tCB r t) := by
  intro pins s σ H Q I h
  refine wpAny_Call_Name_kw (ld_blt I hg hm hv ?_ hn hdb)
  exact PyProof.Rows.callWith_type1 (thn (ha pos pins s σ H _ I h) fun us s1 ⟨vs, H1, I1, r1, q1⟩ => hc pins s1 σ H1 vs us Q I1 r1 q1) he hpl
end
end L2

namespace HT
open PySem PyProof.Rows

section
open PySem.SeqAt
open PySem.AutoSeq1 (wpAny_loadPart')
open PySem.MeetsSeq PySem.MeetsSeq2 PySem.MeetsSeq3

end

section
variable {prog : Program} {w : World} {A : Around} {E : Value → Shared → Prop} {s : Shared}

/-- t + u, t not empty -/
theorem cat_tup {t b : Addr} {vs ws : List Value} {Q : Value → Shared → Prop} (ht : IsTup s.heap t vs.toArray) (hb : IsTup s.heap b ws.toArray) (hv : vs ≠ [])
    (h1 : ws = [] → Q (.ref t) s) (h2 : ws ≠ [] → Q (.ref s.heap.objs.size) { s with heap := s.heap.push { cls := .type "tuple", data := .seq (vs ++ ws).toArray } })
    (hsz : vs.length + ws.length ≤ sizeLine) : wpAny (model prog w) A (binaryOp .Add (.ref t) (.ref b)) Q E s := by
  obtain ⟨⟨cls, dd, data, sl⟩, ho, hc, n, hd⟩ := id ht
  obtain ⟨⟨cls2, dd2, data2, sl2⟩, ho2, hc2, n2, hd2⟩ := id hb
  simp only at hc hd hc2 hd2
  subst hc hd hc2 hd2
  have e : vs.toArray ++ ws.toArray = (vs ++ ws).toArray := by simp
  by_cases hw : ws = []
  · exact concat_meets ⟨_, ho, rfl⟩ ⟨_, ho2, rfl⟩ noFill_tuple_add seq_tuple_add PySem.F.slot_tuple_add PySem.F.entry_tuple_add (PySem.F.args_tuple_add_2 _ _)
      (tuple_addW1 t b vs.toArray ws.toArray n n2 dd dd2 sl sl2 (by simpa using hv) (by simp [hw])) ⟨ho, ho2, h1 hw⟩
  · refine concat_meets ⟨_, ho, rfl⟩ ⟨_, ho2, rfl⟩ noFill_tuple_add seq_tuple_add PySem.F.slot_tuple_add PySem.F.entry_tuple_add (PySem.F.args_tuple_add_2 _ _)
      (tuple_addW2 t b vs.toArray ws.toArray n n2 dd dd2 sl sl2 (by simpa using hv) (by simpa using hw) (by rw [List.size_toArray, List.size_toArray]; exact hsz)) ⟨ho, ho2, ?_⟩
    rw [e]
    exact h2 hw

/-! ### t[a:b], not the whole -/
/-- a slice's bound as a place among n (d where it is left out) -/
def sIx (n d : Nat) : Option Int → Nat
  | none => d
  | some v => if v < 0 then (v + (n : Int)).toNat else min v.toNat n
theorem sIx_none (n d : Nat) : sIx n d none = d := rfl
theorem sIx_nat (n d k : Nat) : sIx n d (some (k : Int)) = min k n := by
  show (if (k : Int) < 0 then ((k : Int) + (n : Int)).toNat else min (k : Int).toNat n) = min k n
  rw [if_neg (by omega), Int.toNat_natCast]
theorem sIx_le (n d : Nat) (hd : d ≤ n) (o : Option Int) : sIx n d o ≤ n := by
  cases o with
  | none => exact hd
  | some v =>
    show (if v < 0 then (v + (n : Int)).toNat else min v.toNat n) ≤ n
    by_cases hv : v < 0
    · rw [if_pos hv]; omega
    · rw [if_neg hv]; exact Nat.min_le_right _ _
theorem clip_eq (v : Int) (n d : Nat) : (if v < 0 then max (v + (n : Int)) 0 else min v (n : Int)) = ((sIx n d (some v) : Nat) : Int) := by
  show (if v < 0 then max (v + (n : Int)) 0 else min v (n : Int)) = (((if v < 0 then (v + (n : Int)).toNat else min v.toNat n) : Nat) : Int)
  by_cases hv : v < 0
  · simp only [if_pos hv]; omega
  · simp only [if_neg hv]; omega
theorem adjust_gen (lo hi : Option Int) (n : Nat) : Builtin.Slice.sliceAdjust lo hi 1 (n : Int) = (((sIx n 0 lo : Nat) : Int), ((sIx n n hi : Nat) : Int)) := by
  have h1 : ¬ ((1 : Int) < 0) := by omega
  unfold Builtin.Slice.sliceAdjust
  simp only [h1, if_false]
  refine Prod.ext ?_ ?_
  · cases lo with
    | none => rfl
    | some v => exact clip_eq v n 0
  · cases hi with
    | none => rfl
    | some v => exact clip_eq v n n
theorem places_gen (i j : Nat) : Builtin.Slice.slicePlaces (i : Int) (j : Int) 1 = j - i := by
  unfold Builtin.Slice.slicePlaces
  have h1 : (1 : Int) > 0 := by omega
  simp only [h1, if_true, Int.ediv_one]
  split <;> omega
theorem slicePart_ {v : Value} {o : Option Int} {Q : Option Int → Shared → Prop} (p : IsPart v o) (h : Q o s) : wpAny (model prog w) A (Builtin.Slice.slicePartIndex v) Q E s := by
  cases p with
  | none => exact slicePart_none h
  | int i t => exact slicePart_int h
theorem sliceApplied_gen {sl : Addr} {vl vu : Value} {lo hi : Option Int} {n : Nat} {Q : Int × Int × Nat → Shared → Prop} (hs : s.heap.IsSliceOf sl vl vu .none) (pl : IsPart vl lo) (pu : IsPart vu hi)
    (h : Q (((sIx n 0 lo : Nat) : Int), 1, sIx n n hi - sIx n 0 lo) s) : wpAny (model prog w) A (Builtin.Slice.sliceApplied (.ref sl) (pure (n : Int))) Q E s := by
  obtain ⟨os, hos, hcs, hds⟩ := id hs
  unfold Builtin.Slice.sliceApplied Builtin.Slice.sliceFields
  refine wpAny_bind (wpAny_bind (wpAny_field hos hds (x := vl) rfl (wpAny_bind (wpAny_field hos hds (x := vu) rfl (wpAny_bind (wpAny_field hos hds (x := .none) rfl (wpAny_pure ?_)))))))
  refine wpAny_bind (slicePart_none ?_)
  show wpAny _ _ (if ((1 : Int) == 0) = true then _ else _) _ _ s
  rw [if_neg (by decide)]
  refine wpAny_bind (slicePart_ pl (wpAny_bind (slicePart_ pu (wpAny_bind (wpAny_pure ?_)))))
  show wpAny _ _ (match Builtin.Slice.sliceAdjust lo hi 1 (n : Int) with | (lo, hi) => pure (lo, (1 : Int), Builtin.Slice.slicePlaces lo hi 1)) _ _ s
  rw [adjust_gen lo hi n]
  show wpAny _ _ (pure (((sIx n 0 lo : Nat) : Int), (1 : Int), Builtin.Slice.slicePlaces ((sIx n 0 lo : Nat) : Int) ((sIx n n hi : Nat) : Int) 1)) _ _ s
  rw [places_gen]
  exact wpAny_pure h
theorem pick_gen (xs : Array Value) (i k : Nat) : ((List.range k).filterMap fun (m : Nat) => xs[((i : Int) + (m : Int) * 1).toNat]?).toArray = ((xs.toList.drop i).take k).toArray := by
  have e : (fun (m : Nat) => xs[((i : Int) + (m : Int) * 1).toNat]?) = fun m => xs[i + m]? := by
    funext m
    have : ((i : Int) + (m : Int) * 1).toNat = i + m := by omega
    rw [this]
  rw [e]
  have := pick_run xs i k
  rw [List.filterMap_map] at this
  have e2 : ((fun x => xs[x]?) ∘ fun x => i + x) = fun m => xs[i + m]? := rfl
  rw [e2] at this
  rw [this]

theorem getItem_tuple_cut {t sl : Addr} {items : Array Value} {vl vu : Value} {lo hi : Option Int} {Q : Value → Shared → Prop} (ht : IsTup s.heap t items) (hs : s.heap.IsSliceOf sl vl vu .none) (pl : IsPart vl lo) (pu : IsPart vu hi)
    (hw : ¬ (sIx items.size 0 lo = 0 ∧ sIx items.size items.size hi = items.size))
    (h : Q (.ref s.heap.objs.size) { s with heap := s.heap.push { cls := .type "tuple", data := .seq ((items.toList.drop (sIx items.size 0 lo)).take (sIx items.size items.size hi - sIx items.size 0 lo)).toArray } })
    (hsz : items.size ≤ sizeLine) : wpAny (model prog w) A (getItem (.ref t) (.ref sl)) Q E s := by
  have htake : sizeOk (.seq ((items.toList.drop (sIx items.size 0 lo)).take (sIx items.size items.size hi - sIx items.size 0 lo)).toArray) := by
    show ((items.toList.drop (sIx items.size 0 lo)).take (sIx items.size items.size hi - sIx items.size 0 lo)).toArray.size ≤ sizeLine
    rw [List.size_toArray, List.length_take, List.length_drop, Array.length_toList]
    omega
  have hj : sIx items.size items.size hi ≤ items.size := sIx_le _ _ (Nat.le_refl _) hi
  obtain ⟨os, hos, hcs, hds⟩ := id hs
  have hTs : s.TypeIs (.ref sl) "slice" := ⟨os, hos, hcs⟩
  unfold getItem
  try with_reducible refine wpAny_holding ?_
  first | refine wpAny_bind (wpAny_pure ?_) | skip
  refine wpAny_bind (wpAny_sequenceKey ht.typeIs (by decide) ?_)
  refine wpAny_bind (wpAny_callSpecial?_slot (name := Str.ofString "__getitem__") ht.typeIs PyProof.Rows.slot_tuple_getitem
    (wpAny_call_entry PyProof.Rows.slot_tuple_getitem ht.typeIs entry_tuple_getitem ?_ (args_tuple_getitem _ _)))
  show wpAny _ _ (Builtin.Tuple.tupleItemsOf (.ref t) >>= _) _ _ s
  refine wpAny_bind (tupleItemsOf_ ht ?_)
  refine wpAny_bind (wpAny_typeOf hTs ?_)
  rw [if_pos (by decide)]
  refine wpAny_bind (sliceApplied_gen hs pl pu ?_)
  have hno : ¬ ((((sIx items.size 0 lo : Nat) : Int) == 0 && (1 : Int) == 1 && (sIx items.size items.size hi - sIx items.size 0 lo) == items.size) = true) := by
    intro q
    rw [Bool.and_eq_true, Bool.and_eq_true] at q
    have q1 : ((sIx items.size 0 lo : Nat) : Int) = 0 := eq_of_beq q.1.1
    have q2 : sIx items.size items.size hi - sIx items.size 0 lo = items.size := eq_of_beq q.2
    exact hw ⟨by omega, by omega⟩
  show wpAny _ _ (if (((sIx items.size 0 lo : Nat) : Int) == 0 && (1 : Int) == 1 && (sIx items.size items.size hi - sIx items.size 0 lo) == items.size) = true then _ else _) _ _ s
  rw [if_neg hno, pick_gen]
  first
    | exact wpAny_bind (m := Builtin.Tuple.tupleExact _) (wpAny_newObj_type (wpAny_pure ⟨_, rfl, wpAny_pure h⟩) htake)
    | exact wpAny_bind (m := Builtin.Tuple.tupleExact _) (wpAny_newObj_type (wpAny_bind (wpAny_pure (wpAny_pure ⟨_, rfl, wpAny_pure h⟩))) htake)
    | exact wpAny_bind (wpAny_bind (m := Builtin.Tuple.tupleExact _) (wpAny_newObj_type (wpAny_pure (wpAny_pure ⟨_, rfl, wpAny_pure h⟩)) htake))
    | exact wpAny_bind (wpAny_bind (m := Builtin.Tuple.tupleExact _) (wpAny_newObj_type (wpAny_pure ⟨_, rfl, wpAny_pure h⟩) htake))
end
end HT

namespace L2
open PySem PySem.Spec PyProof.Rows

/-! ### the parts of a slice -/
abbrev TO := St → Hp → (Option Int → Hp → Prop) → Prop
/-- a slice's part (left out, or an int) -/
def PO (X : Cx) (e : Option Expr) (t : TO) : Prop :=
  ∀ (pins : List (Addr × Obj)) (s : Shared) (σ : St) (H : Hp) (Q : Option Int → Hp → Prop), Inv X pins σ H s → t σ H Q →
    wpAny (model X.prog X.w) X.A (evalPart e X.env) (fun u s' => ∃ o H', Inv X pins σ H' s' ∧ IsPart u o ∧ Q o H') X.xe s
def tNoPart : TO := fun _ H Q => Q none H
def tPart (t : TE) : TO := fun σ H Q => t σ H fun x H1 => ∃ i, x = .int i ∧ Q (some i) H1

section
variable {X : Cx} {e : Expr} {te : TE} {lo hi : Option Expr} {tl th : TO} {pos p2 : Pos}

theorem po_none : PO X none tNoPart := by
  intro pins s σ H Q I h
  rw [evalPart_none]
  exact wpAny_pure ⟨none, H, I, .none, h⟩
theorem po_some (h : PE X e te) : PO X (some e) (tPart te) := by
  intro pins s σ H Q I hw
  rw [evalPart_some]
  refine thn (h pins s σ H _ I hw) fun u s1 ⟨x, H1, I1, r1, q1⟩ => ?_
  obtain ⟨i, rfl, q⟩ := q1
  obtain ⟨t, rfl⟩ := r1
  exact ⟨some i, H1, I1, .int i t, q⟩

/-- what a slice of a value is, by values: the slice object stands at sl -/
def SlR (X : Cx) (r : V → Option Int → Option Int → Hp → VK → Prop) : Prop :=
  ∀ (pins : List (Addr × Obj)) (s : Shared) (σ : St) (H : Hp) (x : V) (v vl vu : Value) (lo hi : Option Int) (sl : Addr) (Q : VK), Inv X pins σ H s → RelV x v → s.heap.IsSliceOf sl vl vu .none → IsPart vl lo → IsPart vu hi → r x lo hi H Q →
    ∃ T id, typeLookup (.type T) "__getitem__" = pure (some (.builtin id)) ∧ s.TypeIs v T ∧ wpAny (model X.prog X.w) X.A (getItem v (.ref sl)) (EP X pins σ Q) X.xe s
def tSl (r : V → Option Int → Option Int → Hp → VK → Prop) (te : TE) (tl th : TO) : TE := fun σ H Q => te σ H fun x H1 => tl σ H1 fun l H2 => th σ H2 fun u H3 => r x l u H3 Q
/-- a[lo:hi], any a -/
theorem pe_slice {r : V → Option Int → Option Int → Hp → VK → Prop} (hr : SlR X r) (he : PE X e te) (hl : PO X lo tl) (hu : PO X hi th) : PE X (.Subscript e (.Slice lo hi none p2) pos) (tSl r te tl th) := by
  intro pins s σ H Q I h
  refine Subscript_ (thn (he pins s σ H _ I h) fun v s1 ⟨x, H1, I1, r1, q1⟩ => ?_)
  refine wpAny_Slice (thn (hl pins s1 σ H1 _ I1 q1) fun vl s2 ⟨l, H2, I2, pl, q2⟩ => thn (hu pins s2 σ H2 _ I2 q2) fun vu s3 ⟨u, H3, I3, pu, q3⟩ => ?_)
  rw [evalPart_none]
  refine wpAny_pure ?_
  have I4 : Inv X pins σ H3 { s3 with heap := s3.heap.push { cls := .type "slice", data := .fields #[vl, vu, .none] } } := I3.kept (t' := s3.toks) fun b ob q => Heap.get?_push_of_some _ q
  obtain ⟨T, id, hT, ht, hg⟩ := hr pins { s3 with heap := s3.heap.push { cls := .type "slice", data := .fields #[vl, vu, .none] } } σ H3 x v vl vu l u s3.heap.objs.size Q I4 r1 (Heap.IsSliceOf.new ..) pl pu q3
  show wpAny (model X.prog X.w) X.A (subscriptTail e (.Slice lo hi none p2) v (.ref s3.heap.objs.size)) (EP X pins σ Q) X.xe { s3 with heap := s3.heap.push { cls := .type "slice", data := .fields #[vl, vu, .none] } }
  exact tail_any (ops := [.ref s3.heap.objs.size, v]) ht hT hg (by with_unfolding_all rfl)

/-- the items of xs[lo:hi] -/
def cutV (xs : List V) (lo hi : Option Int) : List V := (xs.drop (HT.sIx xs.length 0 lo)).take (HT.sIx xs.length xs.length hi - HT.sIx xs.length 0 lo)
theorem cutV_length (xs : List V) (lo hi : Option Int) : (cutV xs lo hi).length ≤ xs.length := by
  unfold cutV
  rw [List.length_take, List.length_drop]
  omega
/-- t[lo:hi], not the whole of it (the whole would be t itself) -/
def rSlT (K : PySem.W.Frag) : V → Option Int → Option Int → Hp → VK → Prop := fun x lo hi H Q => ∃ a xs, x = .ref a ∧ SqT K H a xs ∧
  ¬ (HT.sIx xs.length 0 lo = 0 ∧ HT.sIx xs.length xs.length hi = xs.length) ∧ ∀ p, H p = none → Q (.ref p) (upd H p (.tup (cutV xs lo hi)))
theorem sl_tup : SlR X (rSlT X.K) := by
  intro pins s σ H x v vl vu lo hi sl Q I rx hs pl pu h
  obtain ⟨a, xs, rfl, hx, hw, q⟩ := h
  cases rx
  obtain ⟨its, r, ht, hz⟩ := I.tuple hx
  have hlen : its.toArray.size = xs.length := by rw [List.size_toArray]; exact r.length.symm
  refine ⟨"tuple", _, PyProof.Rows.slot_tuple_getitem.lookup, ht.typeIs, ?_⟩
  refine HT.getItem_tuple_cut ht hs pl pu (by rw [hlen]; exact hw) ?_ (by rw [hlen]; exact hz)
  rw [hlen]
  refine ⟨.ref s.heap.objs.size, _, I.laid (t' := s.toks) (o := .tup (cutV xs lo hi)) (fun b ob q => Heap.get?_push_of_some _ q) (Nat.le_refl _) ?_, rfl, q _ (I.hok.fresh (Nat.le_refl _))⟩
  exact ⟨Nat.le_trans (cutV_length xs lo hi) hz, _, (r.drop (HT.sIx xs.length 0 lo)).take (HT.sIx xs.length xs.length hi - HT.sIx xs.length 0 lo), IsTup.new _ _⟩

/-! ### t < u, t + u -/
/-- t + u, t not empty: u empty gives t itself -/
def rCatT (K : PySem.W.Frag) : R2 := fun x y H Q => ∃ a b xs ys, x = .ref a ∧ y = .ref b ∧ SqT K H a xs ∧ SqT K H b ys ∧ xs ≠ [] ∧ xs.length + ys.length ≤ sizeLine ∧
  (ys = [] → Q (.ref a) H) ∧ (ys ≠ [] → ∀ p, H p = none → Q (.ref p) (upd H p (.tup (xs ++ ys))))
theorem Vals.nil_iff {xs : List V} {us : List Value} (r : Vals xs us) : us = [] ↔ xs = [] := by
  cases r with
  | nil => simp
  | cons _ _ => simp
theorem op_catT : OpR X (binaryOp .Add) (rCatT X.K) := by
  intro pins s σ H x y v u Q I rx ry h
  obtain ⟨a, b, xs, ys, rfl, rfl, ha, hb, hx, hz, q1, q2⟩ := h
  cases rx
  cases ry
  obtain ⟨its, r1, p1, _⟩ := I.tuple ha
  obtain ⟨its2, r2, p2, _⟩ := I.tuple hb
  refine HT.cat_tup p1 p2 (fun z => hx (r1.nil_iff.mp z)) (fun z => ⟨.ref a, H, I, rfl, q1 (r2.nil_iff.mp z)⟩) (fun z => ?_) (by rw [← r1.length, ← r2.length]; exact hz)
  refine ⟨.ref s.heap.objs.size, _, I.laid (t' := s.toks) (o := .tup (xs ++ ys)) (fun b ob q => Heap.get?_push_of_some _ q) (Nat.le_refl _) ?_, rfl, q2 (fun w => z (r2.nil_iff.mpr w)) _ (I.hok.fresh (Nat.le_refl _))⟩
  exact ⟨by rw [List.length_append]; exact hz, _, r1.append r2, IsTup.new _ _⟩
end
end L2

namespace L2
open PySem PySem.Spec PyProof.Rows

/-! ### places -/
/-- the place that an index of any sign means -/
def ixN (n : Nat) (i : Int) : Option Nat := if 0 ≤ i then (if i < n then some i.toNat else none) else if -(n : Int) ≤ i then some (i + n).toNat else none
def atI {α : Type} (xs : List α) (i : Int) : Option α := (ixN xs.length i).bind fun j => xs[j]?
theorem ixN_seq {n : Nat} {i : Int} {j : Nat} (h : ixN n i = some j) : seqIndex? i n = some j ∧ j < n ∧ -(n : Int) ≤ i ∧ i < n := by
  unfold ixN at h
  by_cases h0 : 0 ≤ i
  · rw [if_pos h0] at h
    by_cases h1 : i < n
    · rw [if_pos h1] at h
      have e : i.toNat = j := Option.some.inj h
      exact ⟨by rw [seqIndex_of h0 h1, e], by omega, by omega, h1⟩
    · rw [if_neg h1] at h; cases h
  · rw [if_neg h0] at h
    by_cases h1 : -(n : Int) ≤ i
    · rw [if_pos h1] at h
      have e : (i + n).toNat = j := Option.some.inj h
      exact ⟨by rw [seqIndex_neg (by omega) h1, e], by omega, h1, by omega⟩
    · rw [if_neg h1] at h; cases h
theorem atI_get {α : Type} {xs : List α} {i : Int} {v : α} (h : atI xs i = some v) : ∃ j, seqIndex? i xs.length = some j ∧ xs[j]? = some v ∧ j < xs.length ∧ -(xs.length : Int) ≤ i ∧ i < xs.length := by
  unfold atI at h
  cases e : ixN xs.length i with
  | none => rw [e] at h; cases h
  | some j =>
    rw [e] at h
    obtain ⟨h1, h2, h3, h4⟩ := ixN_seq e
    exact ⟨j, h1, h, h2, h3, h4⟩
theorem atI_nat {α : Type} {xs : List α} {j : Nat} {v : α} (h : xs[j]? = some v) : atI xs (j : Int) = some v := by
  have hj : j < xs.length := (List.getElem?_eq_some_iff.mp h).1
  have e : ixN xs.length (j : Int) = some j := by
    unfold ixN
    rw [if_pos (by omega), if_pos (by omega)]; simp
  unfold atI; rw [e]; exact h

/-! ### what may be subscripted -/
/-- what stands as an index of a plain subscript -/
def PlainIx (b : Expr) : Prop := ∀ o i, subscripted b false o i = operate [o, i] (getItem o i)
/-- a subscript by values -/
def IxR (X : Cx) (r : R2) : Prop :=
  ∀ (value slice : Expr) (pins : List (Addr × Obj)) (s : Shared) (σ : St) (H : Hp) (x y : V) (v u : Value) (Q : VK), Inv X pins σ H s → RelV x v → RelV y u → r x y H Q →
    subscripted slice false v u = operate [v, u] (getItem v u) → wpAny (model X.prog X.w) X.A (subscriptTail value slice v u) (EP X pins σ Q) X.xe s
/-- a call of a builtin's method by values: the receiver, the arguments -/
def MtR (X : Cx) (id : String) (r : V → List V → Hp → VK → Prop) : Prop :=
  ∀ (pins : List (Addr × Obj)) (s : Shared) (σ : St) (H : Hp) (x : V) (xs : List V) (v : Value) (us : List Value) (Q : VK), Inv X pins σ H s → RelV x v → Vals xs us → r x xs H Q →
    wpAny (model X.prog X.w) X.A (call (.builtin id) (v :: us)) (EP X pins σ Q) X.xe s
section
variable {X : Cx} {a b : Expr} {ta tb : TE} {pos : Pos}
/-- a[b] -/
theorem pe_ix {r : R2} (hr : IxR X r) (ha : PE X a ta) (hb : PE X b tb) (hs : PlainIx b) : PE X (.Subscript a b pos) (tOp r ta tb) := by
  intro pins s σ H Q I h
  exact Subscript_ (binT ha hb I h fun v u s2 x y H2 I2 rx ry q => hr a b pins s2 σ H2 x y v u Q I2 rx ry q (hs _ _))

def rIxL (K : PySem.W.Frag) : R2 := fun x y H Q => ∃ p xs i v, x = .ref p ∧ y = .int i ∧ SqL K H p xs ∧ atI xs i = some v ∧ Q v H
def rIxT (K : PySem.W.Frag) : R2 := fun x y H Q => ∃ p xs i v, x = .ref p ∧ y = .int i ∧ SqT K H p xs ∧ atI xs i = some v ∧ Q v H
theorem ix_list : IxR X (rIxL X.K) := by
  intro value slice pins s σ H x y v u Q I rx ry h hs
  obtain ⟨p, xs, i, z, rfl, rfl, hq, he, q⟩ := h
  cases rx
  obtain ⟨t, rfl⟩ := ry
  obtain ⟨its, r, pl, hz⟩ := I.list hq
  obtain ⟨j, h1, h2, h3, h4, h5⟩ := atI_get he
  obtain ⟨w, ew, rw'⟩ := r.get h2
  have hl := r.length
  have hn := line63
  have fin : EP X pins σ Q w s := ⟨z, H, I, rw', q⟩
  by_cases h0 : 0 ≤ i
  · have hj : i.toNat = j := by
      rw [seqIndex_of h0 h5] at h1
      exact Option.some.inj h1
    exact item_listR pl.isList h0 (by omega) (by rw [hj]; simpa using ew) fin hs
  · have hj : (i + (its.toArray.size : Int)).toNat = j := by
      rw [seqIndex_neg (by omega) h4] at h1
      rw [List.size_toArray, ← hl]
      exact Option.some.inj h1
    exact subscriptTail_builtinR (x := w) pl.isList.typeIs slot_list_getitem.lookup
      (wpAny_getItem_list_neg (Q := fun r s' => r = w ∧ EP X pins σ Q r s') pl.isList (by omega) (by rw [List.size_toArray] <;> omega) (by omega) (by rw [hj]; simpa using ew) ⟨rfl, fin⟩) hs
theorem ix_tup : IxR X (rIxT X.K) := by
  intro value slice pins s σ H x y v u Q I rx ry h hs
  obtain ⟨p, xs, i, z, rfl, rfl, hq, he, q⟩ := h
  cases rx
  obtain ⟨t, rfl⟩ := ry
  obtain ⟨its, r, pl, hz⟩ := I.tuple hq
  obtain ⟨j, h1, h2, h3, h4, h5⟩ := atI_get he
  obtain ⟨w, ew, rw'⟩ := r.get h2
  have hl := r.length
  have hn := line63
  have fin : EP X pins σ Q w s := ⟨z, H, I, rw', q⟩
  exact subscriptTail_builtinR (x := w) pl.typeIs slot_tuple_getitem.lookup
    (getItem_tuple (j := j) (Q := fun r s' => r = w ∧ EP X pins σ Q r s') pl (by omega) (by omega) (by rw [List.size_toArray, ← hl]; exact h1) (by simpa using ew) ⟨rfl, fin⟩) hs

/-! ### xs[i] = v, any sign -/
/-- the list's object behind a store -/
theorem mapSeq_set (its : List Value) (n j : Nat) (u : Value) : Obj.mapSeq (·.setIfInBounds j u) { cls := .type "list", data := .seq its.toArray n } = { cls := .type "list", data := .seq (its.set j u).toArray n } := by
  simp [Obj.mapSeq]
theorem Inv.lst {pins : List (Addr × Obj)} {σ : St} {H : Hp} {s : Shared} {p : Addr} {xs : List V} (I : Inv X pins σ H s) (h : H p = some (.lst xs)) :
    ∃ (its : List Value) (n : Nat), Vals xs its ∧ s.heap.get? p = some { cls := .type "list", data := .seq its.toArray n } ∧ xs.length ≤ sizeLine := by
  obtain ⟨z, its, n, r, e⟩ := I.hok p _ h
  exact ⟨its, n, r, e, z⟩
/-- the list at p is written by an update of its object -/
theorem Inv.lstUpd {pins : List (Addr × Obj)} {σ : St} {H : Hp} {s : Shared} {p : Addr} {xs ys : List V} {its its' : List Value} {n n' : Nat} {f : Obj → Obj} (I : Inv X pins σ H s) (h : H p = some (.lst xs))
    (ho : s.heap.get? p = some { cls := .type "list", data := .seq its.toArray n }) (hf : f { cls := .type "list", data := .seq its.toArray n } = { cls := .type "list", data := .seq its'.toArray n' }) (r : Vals ys its') (hz : ys.length ≤ sizeLine) (t : Nat) :
    Inv X pins σ (upd H p (.lst ys)) { s with heap := s.heap.update p f, toks := t } := by
  have e : (s.heap.update p f).get? p = some { cls := .type "list", data := .seq its'.toArray n' } := by
    rw [Heap.get?_update_self f ho (by rw [hf] <;> rfl), hf]
  refine I.write (x := p) (e := p) (by rw [h]; trivial) (.inl rfl) (fun b u hb q => (Heap.get?_update_other _ _ (Ne.symm hb)).trans q) ⟨_, e⟩ ?_
  exact ⟨hz, its', n', r, e⟩
def rSetL : V → V → V → Hp → (Hp → Prop) → Prop := fun o i v H Q => ∃ p xs k j, o = .ref p ∧ i = .int k ∧ H p = some (.lst xs) ∧ ixN xs.length k = some j ∧ Q (upd H p (.lst (xs.set j v)))
theorem set_list : PSet X rSetL := by
  intro pins s σ H o i v ov iv u Q I ro ri rv h
  obtain ⟨p, xs, k, j, rfl, rfl, hp, hj, q⟩ := h
  cases ro
  obtain ⟨t, rfl⟩ := ri
  obtain ⟨its, n, r, ho, hz⟩ := I.lst hp
  obtain ⟨h1, h2, h3, h4⟩ := ixN_seq hj
  have hl := r.length
  have hn := line63
  have I' : Inv X pins σ (upd H p (.lst (xs.set j v))) { s with heap := s.heap.update p (Obj.mapSeq (·.setIfInBounds j u)) } :=
    I.lstUpd hp ho (mapSeq_set its n j u) (r.set rv j) (by rw [List.length_set]; exact hz) s.toks
  by_cases h0 : 0 ≤ k
  · have hk : k.toNat = j := by
      rw [seqIndex_of h0 h4] at h1
      exact Option.some.inj h1
    exact PySem.W.ki_setAt ho h0 (by omega) (by rw [List.size_toArray, ← hl]; exact h4) (by rw [hk]; exact ⟨_, I', q⟩)
  · have hk : (k + (its.toArray.size : Int)).toNat = j := by
      rw [seqIndex_neg (by omega) h3] at h1
      rw [List.size_toArray, ← hl]
      exact Option.some.inj h1
    exact PySem.W.ki_setBack ho (by omega) (by rw [List.size_toArray, ← hl]; exact h3) (by omega) (by rw [hk]; exact ⟨_, I', q⟩)

/-! ### slices -/

/-! ### in, not in: flat items -/

/-! ### len, list(x), tuple(x) of any list or tuple that is read -/
theorem call_len_seq : CallR X (.builtin "len") (fun xs H Q => ∃ p ys, xs = [.ref p] ∧ (SqL X.K H p ys ∨ SqT X.K H p ys) ∧ Q (.int ys.length) H) := by
  intro pins s σ H xs us Q I r h
  obtain ⟨p, ys, rfl, hq, q⟩ := h
  obtain ⟨u, rfl, rx⟩ := vals1 r
  cases rx
  have hn := line63
  rcases hq with hq | hq
  · obtain ⟨its, r', pl, hz⟩ := I.list hq
    have hlen := r'.length
    exact Calls.call_len_list pl.isList (by simp only [List.size_toArray] <;> omega) ⟨.int ys.length, H, I.tok _, ⟨s.toks + 1, by rw [List.size_toArray, hlen]⟩, q⟩
  · obtain ⟨its, r', pl, hz⟩ := I.tuple hq
    have hlen := r'.length
    exact len_tuple pl (by simp only [List.size_toArray] <;> omega) ⟨.int ys.length, H, I.tok _, ⟨s.toks + 1, by rw [List.size_toArray, hlen]⟩, q⟩
theorem call_tuple_of : CallR X (.type "tuple") (fun xs H Q => ∃ p ys, xs = [.ref p] ∧ ((SqL X.K H p ys ∧ ∀ l, H l = none → Q (.ref l) (upd H l (.tup ys))) ∨ (SqT X.K H p ys ∧ Q (.ref p) H))) := by
  intro pins s σ H xs us Q I r h
  obtain ⟨p, ys, rfl, h⟩ := h
  obtain ⟨u, rfl, rx⟩ := vals1 r
  cases rx
  rcases h with ⟨hq, q⟩ | ⟨hq, q⟩
  · obtain ⟨its, r', pl, hz⟩ := I.list hq
    have hlen := r'.length
    refine call_tuple_list pl.isList (fun h' kp => ?_) (by simp only [List.size_toArray] <;> omega)
    have I1 : Inv X pins σ H { s with heap := h' } := I.kept (t' := s.toks) kp
    have I2 : Inv X pins σ (upd H h'.objs.size (.tup ys)) { s with heap := h'.push { cls := .type "tuple", data := .seq its.toArray } } :=
      I1.laid (t' := s.toks) (fun b o e => Heap.get?_push_of_some _ e) (Nat.le_refl _) (show ObjOk X.prog X.w _ _ _ (.tup ys) from ⟨hz, its, r', IsTup.new _ _⟩)
    exact ⟨.ref h'.objs.size, _, I2, rfl, q _ (I1.hok.fresh (Nat.le_refl _))⟩
  · obtain ⟨its, r', pl, hz⟩ := I.tuple hq
    exact call_tuple_same pl ⟨.ref p, H, I, rfl, q⟩

/-! ### the call of a builtin's method: o.m(..) -/
/-- the value is of that builtin type -/
def tyV (K : PySem.W.Frag) (T : String) (x : V) (H : Hp) : Prop := match x with
  | .str _ => T = "str"
  | .int _ => T = "int"
  | .ref p => (T = "list" ∧ ∃ xs, SqL K H p xs) ∨ (T = "tuple" ∧ ∃ o, K.lookup p = some o ∧ o.cls = .type "tuple" ∧ o.dict = none) ∨
      (T = "dict" ∧ ((∃ kvs, H p = some (.dK kvs)) ∨ ∃ kvs, H p = some (.dT kvs))) ∨ (T = "set" ∧ ∃ S n, H p = some (.set S n))
  | _ => False
theorem tyV_is {pins : List (Addr × Obj)} {σ : St} {H : Hp} {s : Shared} {T : String} {x : V} {v : Value} (I : Inv X pins σ H s) (r : RelV x v) (ty : tyV X.K T x H) :
    s.TypeIs v T ∧ ∀ a, v = .ref a → ∃ ob, s.heap.get? a = some ob ∧ ob.dict = none := by
  cases x with
  | str z =>
    obtain ⟨t, rfl⟩ := r
    cases (show T = "str" from ty)
    exact ⟨typeIs_str s z t, fun _ e => nomatch e⟩
  | int i =>
    obtain ⟨t, rfl⟩ := r
    cases (show T = "int" from ty)
    exact ⟨typeIs_int s i t, fun _ e => nomatch e⟩
  | ref p =>
    cases r
    rcases ty with ⟨rfl, xs, hq⟩ | ⟨rfl, o, hk, hc, hd⟩ | ⟨rfl, hk⟩ | ⟨rfl, S, n, hk⟩
    · obtain ⟨its, _, pl, _⟩ := I.list hq
      refine ⟨pl.isList.typeIs, fun a e => ?_⟩
      cases e
      obtain ⟨o, n, e, c, hd, _⟩ := pl
      exact ⟨o, e, hd⟩
    · refine ⟨⟨o, I.kIn p o hk, hc⟩, fun a e => ?_⟩
      cases e
      exact ⟨o, I.kIn _ o hk, hd⟩
    · have z : ∃ o, s.heap.get? p = some o ∧ o.ExactDict := by
        rcases hk with ⟨kvs, hk⟩ | ⟨kvs, hk⟩
        · obtain ⟨_, _, _, _, o, _, _, e, ex, _⟩ := I.hok p _ hk
          exact ⟨o, e, ex⟩
        · obtain ⟨_, _, _, _, o, _, _, e, ex, _⟩ := I.hok p _ hk
          exact ⟨o, e, ex⟩
      obtain ⟨o, e, ex⟩ := z
      refine ⟨⟨o, e, ex.1⟩, fun a e2 => ?_⟩
      cases e2
      exact ⟨o, e, ex.2.1⟩
    · obtain ⟨o, _, _, _, e, ex, _⟩ := I.hok p _ hk
      refine ⟨⟨o, e, ex.1⟩, fun a e2 => ?_⟩
      cases e2
      exact ⟨o, e, ex.2.1⟩
  | _ => exact False.elim ty
def tBM0 (K : PySem.W.Frag) (T : String) (r : V → List V → Hp → VK → Prop) (to : TE) : TE := fun σ H Q => to σ H fun x H1 => tyV K T x H1 ∧ r x [] H1 Q
def tBM (K : PySem.W.Frag) (T : String) (r : V → List V → Hp → VK → Prop) (to : TE) (t : TA) : TE := fun σ H Q => to σ H fun x H1 => tyV K T x H1 ∧ t σ H1 fun xs H2 => r x xs H2 Q
variable {o e : Expr} {es : List Expr} {to : TE} {t : TA} {name : Str} {apos cpos : Pos} {T id : String} {r : V → List V → Hp → VK → Prop}
theorem pe_bm0 (pa : PlainAttrs T) (slot : Slot T name id) (hty : typeOf (.builtin id) = pure (.type "method_descriptor")) (hm : MtR X id r) (ho : PE X o to)
    (hbase : attributeBase o name X.env (eval o X.env) = eval o X.env := by rfl) (hline : (apos.endLine == cpos.line) = true := by rfl) : PE X (.Call (.Attribute o name apos) [] [] cpos) (tBM0 X.K T r to) := by
  intro pins s σ H Q I h
  refine wpAny_Call_method0_late hbase hline (thn (ho pins s σ H _ I h) fun v s1 ⟨x, H1, I1, r1, ty, q1⟩ => ?_)
  obtain ⟨h1, h2⟩ := tyV_is I1 r1 ty
  exact ⟨T, id, pa, slot, hty, h1, h2, Calls.callWith_builtin rfl (PySem.evalArgs_none (hm pins s1 σ H1 x [] v [] Q I1 r1 .nil q1))⟩
theorem pe_bm (pa : PlainAttrs T) (slot : Slot T name id) (hty : typeOf (.builtin id) = pure (.type "method_descriptor")) (hm : MtR X id r) (ho : PE X o to) (ha : PA X (e :: es) t)
    (hbase : attributeBase o name X.env (eval o X.env) = eval o X.env := by rfl)
    (hfew : ((backTo cpos (starEach (e :: es) X.env)).all (fun x => !x.1) && (backToKw cpos (keywordEach [] X.env)).all (fun x => x.1.isSome)
      && decide ((e :: es).length + ([] : List Keyword).length + (if ([] : List Keyword).isEmpty then 0 else 1) < 30)) = true := by rfl)
    (hline : (apos.endLine == cpos.line) = true := by rfl) (hs : starEach (e :: es) X.env = (false, eval e X.env) :: starEach es X.env := by rfl) (hplain : (backTo cpos (starEach es X.env)).any (·.1) = false := by rfl) :
    PE X (.Call (.Attribute o name apos) (e :: es) [] cpos) (tBM X.K T r to t) := by
  intro pins s σ H Q I h
  refine wpAny_Call_method_late hbase hfew hline rfl (thn (ho pins s σ H _ I h) fun v s1 ⟨x, H1, I1, r1, ty, q1⟩ => ?_)
  obtain ⟨h1, h2⟩ := tyV_is I1 r1 ty
  refine ⟨T, id, pa, slot, hty, h1, h2, ?_⟩
  have hA := ha cpos pins s1 σ H1 _ I1 q1
  rw [hs] at hA ⊢
  refine Calls.callWith_builtin (by show (false || (backTo cpos (starEach es X.env)).any (·.1)) = false; rw [hplain] <;> rfl) (Calls.evalArgs_plain ?_)
  exact thn hA fun us s2 ⟨vs, H2, I2, r2, q2⟩ => hm pins s2 σ H2 x vs v us Q I2 r1 r2 q2
/- xs.append(e), list.index on a module's tuple .. are MtR facts of 06m -/
end
end L2

namespace L2
open PySem PySem.Spec PyProof.Rows

def MtM (X : Cx) (id : String) (r : V → List V → Hp → VK → Prop) : Prop :=
  ∀ (pins : List (Addr × Obj)) (s : Shared) (σ : St) (H : Hp) (x : V) (xs : List V) (v : Value) (us : List Value) (Q : VK), Inv X pins σ H s → RelV x v → Vals xs us → r x xs H Q →
    wpAny (model X.prog X.w) X.A (call (.builtin id) (v :: us)) (EP X pins σ Q) X.xe s

/-! ### lists of values -/
theorem Vals.one : ∀ {x : V} {us : List Value}, Vals [x] us → ∃ u, us = [u] ∧ RelV x u
  | _, _, .cons r .nil => ⟨_, rfl, r⟩
theorem Vals.zero : ∀ {us : List Value}, Vals [] us → us = []
  | _, .nil => rfl
theorem Vals.dropLast {xs : List V} {us : List Value} (h : Vals xs us) : Vals xs.dropLast us.dropLast := by
  induction h with
  | nil => exact .nil
  | cons r t ih =>
    cases t with
    | nil => exact .nil
    | cons q t' => exact .cons r ih
theorem erase_last {α : Type} (l : List α) : l.eraseIdx (l.length - 1) = l.dropLast := by
  induction l with
  | nil => rfl
  | cons a r ih =>
    cases r with
    | nil => rfl
    | cons b r =>
      have e : (a :: b :: r).length - 1 = ((b :: r).length - 1) + 1 := by
        have h1 : (a :: b :: r).length = r.length + 2 := rfl
        have h2 : (b :: r).length = r.length + 1 := rfl
        omega
      rw [e, List.eraseIdx_cons_succ, ih]
      all_goals rfl

section
variable {X : Cx} {pins : List (Addr × Obj)} {σ : St} {H : Hp} {s : Shared} {l b : Addr} {xs ys zs : List V}

/-! ### the two steps: a tracked list is rewritten, a new list is laid -/
theorem Inv.lset {its its' : List Value} {n : Nat} {f : Array Value → Array Value} {t' : Nat} (I : Inv X pins σ H s) (hH : H l = some (.lst xs))
    (e : s.heap.get? l = some { cls := .type "list", data := .seq its.toArray n }) (hf : f its.toArray = its'.toArray) (hv : Vals ys its') (hz : ys.length ≤ sizeLine) :
    Inv X pins σ (upd H l (.lst ys)) { s with heap := s.heap.update l (Obj.mapSeq f), toks := t' } := by
  have q := PySem.IsL.update e f
  rw [hf] at q
  refine I.write (x := l) (e := l) (by rw [hH]; exact trivial) (.inl rfl) (fun b' u hb hu => (Heap.get?_update_other s.heap (Obj.mapSeq f) (Ne.symm hb)).trans hu) ⟨_, q⟩ ?_
  exact ⟨hz, its', _, hv, q⟩
theorem Inv.lstM (I : Inv X pins σ H s) (hH : H l = some (.lst xs)) : xs.length ≤ sizeLine ∧ ∃ (its : List Value) (n : Nat), Vals xs its ∧ xs.length = its.length ∧ s.heap.get? l = some { cls := .type "list", data := .seq its.toArray n } := by
  obtain ⟨z, its, n, r, e⟩ := I.hok l _ hH
  exact ⟨z, its, n, r, r.length, e⟩

theorem notLongL {n : Nat} (h : n ≤ sizeLine) : Builtin.List.listTooLong n = false := by
  unfold Builtin.List.listTooLong
  exact decide_eq_false (by omega)
end

section
variable {X : Cx}

/-! ### methods -/
def rAppend : V → List V → Hp → VK → Prop := fun x vs H Q => ∃ l xs y, x = .ref l ∧ vs = [y] ∧ H l = some (.lst xs) ∧ xs.length < sizeLine ∧ Q .non (upd H l (.lst (xs ++ [y])))
theorem mt_append : MtM X "list.append" rAppend := by
  intro pins s σ H x vs v us Q I rx rv h
  obtain ⟨l, xs, y, rfl, rfl, hH, hz, q⟩ := h
  cases rx
  obtain ⟨u, rfl, ru⟩ := rv.one
  obtain ⟨z, its, n, r, hl, e⟩ := I.lstM hH
  refine call_meets F.slot_list_append ⟨_, e, rfl⟩ F.entry_list_append (F.args_list_append_2 _ _) (PySem.list_append l its.toArray n u (by rw [List.size_toArray]; omega)) ⟨e, ?_⟩
  refine ⟨.non, _, I.lset (its' := its ++ [u]) hH e (by simp) (r.append (.cons ru .nil)) ?_, rfl, q⟩
  rw [List.length_append, List.length_singleton]
  omega

def rExtend : V → List V → Hp → VK → Prop := fun x vs H Q => ∃ l b xs zs, x = .ref l ∧ vs = [.ref b] ∧ H l = some (.lst xs) ∧ H b = some (.lst zs) ∧ xs.length + zs.length ≤ sizeLine ∧ Q .non (upd H l (.lst (xs ++ zs)))
theorem mt_extend : MtM X "list.extend" rExtend := by
  intro pins s σ H x vs v us Q I rx rv h
  obtain ⟨l, b, xs, zs, rfl, rfl, hH, hB, hz, q⟩ := h
  cases rx
  obtain ⟨u, rfl, ru⟩ := rv.one
  cases ru
  obtain ⟨z, its, n, r, hl, e⟩ := I.lstM hH
  obtain ⟨z2, its2, n2, r2, hl2, e2⟩ := I.lstM hB
  have hsz : its.toArray.size + its2.toArray.size ≤ sizeLine := by rw [List.size_toArray, List.size_toArray]; omega
  have hlong : ¬ (!its.toArray.isEmpty && Builtin.List.listTooLong (its.toArray.size + its2.toArray.size)) = true := by
    rw [notLongL hsz, Bool.and_false]
    exact Bool.false_ne_true
  refine call_meets F.slot_list_extend ⟨_, e, rfl⟩ F.entry_list_extend (F.args_list_extend_2 _ _)
    (AutoSeq1.list_extend_list_list_0 l its.toArray n b its2.toArray n2 hlong (by rw [List.size_toArray]; omega) (by omega)) ⟨e, e2, ?_⟩
  refine ⟨.non, _, I.lset (its' := its ++ its2) hH e (by simp) (r.append r2) ?_, rfl, q⟩
  rw [List.length_append]
  omega

def rPop : V → List V → Hp → VK → Prop := fun x vs H Q => ∃ l xs y, x = .ref l ∧ vs = [] ∧ H l = some (.lst xs) ∧ xs[xs.length - 1]? = some y ∧ Q y (upd H l (.lst xs.dropLast))
theorem mt_pop : MtM X "list.pop" rPop := by
  intro pins s σ H x vs v us Q I rx rv h
  obtain ⟨l, xs, y, rfl, rfl, hH, hy, q⟩ := h
  cases rx
  have hus := rv.zero
  subst hus
  obtain ⟨z, its, n, r, hl, e⟩ := I.lstM hH
  obtain ⟨u, hu, ru⟩ := r.get hy
  have hy' : its.toArray[its.toArray.size - 1]? = some u := by
    show its.toArray[its.length - 1]? = some u
    rw [← Array.getElem?_toList, ← hl]
    exact hu
  refine call_meets F.slot_list_pop ⟨_, e, rfl⟩ F.entry_list_pop (F.args_list_pop_1 _) (MeetsSeq.list_pop_last l its.toArray n u hy' (by rw [List.size_toArray]; omega)) ⟨e, ?_⟩
  refine ⟨y, _, I.lset (its' := its.dropLast) hH e ?_ r.dropLast ?_, ru, q⟩
  · show its.toArray.eraseIdxIfInBounds (its.toArray.size - 1) = its.dropLast.toArray
    rw [List.size_toArray, List.eraseIdxIfInBounds_toArray, erase_last]
  · rw [List.length_dropLast]
    omega

/-! ### list + list, list += list, list * int -/

/-! ### del xs[i] -/
end

/-! ### xs[a:b] = ys -/
section
variable {prog : Program} {w : World} {A : Around} {E : Value → Shared → Prop} {s : Shared}
set_option maxRecDepth 100000 in
end

section
variable {X : Cx}
end
end L2

namespace L2
open PySem PySem.Spec PyProof.Rows

/-! ### lists of pairs as tables -/
section
variable {κ : Type} [DecidableEq κ]

end

/-! ### a tracked dict, its keys ints and texts or tuples of these -/

section
variable {P : Program} {w : World} {H : Hp} {h : Heap} {a : Addr}
end

section
variable {X : Cx} {pins : List (Addr × Obj)} {σ : St} {H : Hp} {s : Shared} {a : Addr} {y v : V} {u r : Value} {o : Option V} {A : Around} {E : Value → Shared → Prop}

end

section
variable {X : Cx} {pins : List (Addr × Obj)} {σ : St} {H : Hp} {s : Shared} {a : Addr} {kvs : List (Key × V)} {k : Key} {u : Value} {A : Around} {E : Value → Shared → Prop}
end

/-! ### readings and rules -/

section
variable {X : Cx} {o i e value : Expr} {pos pos' tpos : Pos} {td ty tv : TE}
end

/-! ### displays -/
section
variable {X : Cx} {pos : Pos}
end

/-! ### methods -/

section
variable {X : Cx} {pins : List (Addr × Obj)} {σ : St} {H : Hp} {s : Shared} {a : Addr} {y d : V} {u r : Value} {o : Option V} {A : Around} {E : Value → Shared → Prop}
end

section
variable {X : Cx} {o e f : Expr} {apos cpos : Pos} {td ty tx : TE}
end

/-! ### dict(d): a copy -/
section
variable {X : Cx} {pins : List (Addr × Obj)} {σ : St} {H : Hp} {s : Shared} {a : Addr} {kvs : List (Key × V)} {A : Around} {E : Value → Shared → Prop}
end

section
variable {X : Cx} {pins : List (Addr × Obj)} {σ : St} {H : Hp} {s : Shared} {a : Addr} {y : V} {u : Value} {A : Around} {E : Value → Shared → Prop}
end
end L2

namespace Att
open PySem PySem.W PySem.Calls PyProof.Rows

/-! ### the script -/
theorem ints_of_wellAll {P : Params} {h : Heap} : ∀ (ns : List Int) (vs : List Value), WellAll P h vs (ns.map WData.int) → IntsAre vs ns := by
  intro ns
  induction ns with
  | nil =>
    intro vs w
    rw [List.map_nil] at w
    cases w
    exact .nil
  | cons n ns ih =>
    intro vs w
    rw [List.map_cons] at w
    cases w with
    | cons a b =>
      cases a
      exact .cons _ _ (ih _ b)

theorem script_of {l : OpenLaw} {n : Nat} (hn : l.most = some n) {P : Params} {h : Heap} {args : List WData} {vals : List Value}
    (hpre : l.row.toRowW.claim.pre args = true) (hwl : WellAll P h vals args) :
    ∃ a vs ns, vals = [Value.ref a] ∧ args = [WData.list (ns.map WData.int)] ∧ h.get? a = some { cls := .type "list", data := .seq vs.toArray } ∧ IntsAre vs ns ∧ ns.length ≤ n := by
  have hsh : WShape.hasAll [] args [.list .int] = true := (pre_splitW hpre).1
  have hc : l.pre.holds [] { args := args } = true := (pre_splitW hpre).2
  obtain ⟨d, r, rfl, h1, h2⟩ := hasAllW_cons hsh
  obtain rfl := hasAllW_nil h2
  obtain ⟨xs, rfl, h3⟩ := hasW_list h1
  obtain ⟨ns, rfl⟩ := items_int h3
  have hlen : ns.length ≤ n := by
    unfold OpenLaw.pre at hc
    have h4 : (WTm.not (.lt (.lit (.int (n : Int))) (.len (.arg 0)))).holds [] { args := [.list (ns.map .int)] } = true := by
      have h4 := (holds_andW hc).1
      rw [hn] at h4
      exact h4
    have h5 := condW_of h4 (w_not (w_lt w_lit (w_len_list (w_arg rfl))))
    rw [List.length_map] at h5
    refine Nat.le_of_not_lt fun q => ?_
    have q' : (n : Int) < ((ns.length : Nat) : Int) := by omega
    first
      | (rw [decide_eq_true q'] at h5; exact absurd h5 (by decide))
      | (simp at h5; omega)
  cases hwl with
  | cons w1 w2 =>
    cases w2
    cases w1 with
    | list ho hall => exact ⟨_, _, ns, rfl, rfl, ho, ints_of_wellAll ns _ hall, hlen⟩

theorem post_true (l : OpenLaw) (args : List WData) : l.row.toRowW.claim.post args (.bool true) args = true :=
  postW_of (r := l.row.toRowW) (X := (true == true))
    (show WShape.has [] (.bool true) .bool = true by first | rfl | decide | simp [WShape.has, WShape.arms, WShape.armsAll])
    (show (WTm.eq .res (.lit (.bool true))).value [] { args := args, res := some (.bool true), after := args } = some (.bool (true == true)) from w_eq_bool (w_res rfl) w_lit) rfl

/-! ### the attachment: holds_open's last premise (the goal 'hc' behind k_head) from a wpAny of the law's body -/

/-- the same from a codeAny of the CALL (for a layer whose function contracts speak of calls) -/
theorem attach_call {l : OpenLaw} {n : Nat} {q : Program} {loose : List Str} {XP : (Str → Option Value) → Heap → Prop} {YP : World → Heap → Prop} {d : DefRec}
    (hn : l.most = some n) (hdf : d.params.defaults = [])
    (call : ∀ (w : World) (s₀ s₁ : Shared) (mg mb : Str → Option Value) (fa : Addr) (o : Obj) (pm cd doc : Value) (a : Addr) (vs : List Value) (ns : List Int),
      Ground q loose [] XP w s₀ mg mb s₁.heap → YP w s₁.heap →
      s₁.heap.get? fa = some o → o.data = .func (docDef d.name d.params d.body d.scope pm cd doc) → s₁.heap.CodeRec cd d.name → mg d.name = some (.ref fa) →
      s₁.heap.get? a = some { cls := .type "list", data := .seq vs.toArray } → IntsAre vs ns → ns.length ≤ n → s₁.gens = #[] →
      codeAny (model l.prog w) callerA (.call (.ref fa) ⟨[.ref a], []⟩) (fun r s' => r = .ok (.ret (.bool true)) ∧ OldK s₁.heap s'.heap ∧ s'.os = s₁.os ∧ AllBare s'.gens) s₁) :
    WalkO q loose XP YP l.row.toRowW d [] (fun f vs => PySem.call f vs) := by
  intro w s₀ s₁ mg mb G Y fa o pm cd doc dV kV ho hd hcd hD hmg hg args vals as hpre hlay hrd hwl hlo
  obtain rfl : dV = .none := Dflts.none hD hdf
  obtain rfl : kV = .none := Dflts.noKw hD
  obtain ⟨a, vs, ns, rfl, rfl, hobj, hints, hlen⟩ := script_of hn hpre hwl
  refine enter_call (codeAny_mono (call w s₀ s₁ mg mb fa o pm cd doc a vs ns G Y ho (fd_plain hd) hcd hmg hobj hints hlen hg) fun r s' hq => ?_)
  obtain ⟨rfl, h2, h3, h4⟩ := hq
  exact ⟨.inl ⟨.bool true, .bool true, [], rfl, fun _ => rfl, .bool true, post_true l _, fun _ => ⟨List.Pairwise.nil, fun _ hm => (nomatch hm)⟩⟩, h2, h3, h4⟩

/-! ### rules over ANY heap (no ledger) from facts about the written part K: the library's own take a ledger (News) for what they write -/
section
variable {prog : Program} {w : World} {A : Around} {E : Value → Shared → Prop} {s : Shared} {K : Frag}

/-! the whole heap as the ledger: makes every rule that writes through a ledger a rule over any heap -/

end
end Att

namespace L2
open PySem PySem.Spec PyProof.Rows

theorem vals_ints : ∀ {vs : List Value} {ns : List Int}, IntsAre vs ns → Vals (ns.map V.int) vs
  | _, _, .nil => .nil
  | _, _, .cons n t h => .cons ⟨t, rfl⟩ (vals_ints h)

/-- nothing is tracked but the script, known to the object (or it is an object of the module) -/
def Only (H : Hp) : Prop := ∀ b, H b = none ∨ ∃ o xs, H b = some (.frz o (.lst xs))

/-- THE HEAD: the law's promise, at the heap behind the top. F, the promise of the law's def, may use that base is part of the heap (so K.In base, base.Ns mainGlobals mg stand in Mod) -/
theorem law_call {P : Program} {w : World} {K : PySem.W.Frag} {mg mb : Str → Option Value} {CX : CXT} {k : Nat} {fa a : Addr} {fd : FuncData} {x : Str} {sp : Sp} {s₁ : Shared} {vs : List Value} {ns : List Int}
    (KX : K.In s₁.heap) (hns : s₁.heap.Ns mainGlobals mg) (hb : s₁.heap.Ns builtinsNs mb) (hbb : ∀ x : Str, x ≠ "__name__" → mb x = bootBuiltins x) (hlim : s₁.heap.NoLimit) (hg : s₁.gens = #[])
    (ha : s₁.heap.get? a = some { cls := .type "list", data := .seq vs.toArray }) (hi : IntsAre vs ns) (hl : ns.length ≤ sizeLine) (hr : Room k callerA)
    (F : ∀ base : Heap, K.In base → base.Ns mainGlobals mg → FnOk P w K mg base CX k fa fd [x] sp) (hbind : ∀ (s : Shared) (u : Value), BindsTo s fd ⟨[u], []⟩ [(x, u)])
    (hsp : ∀ H : Hp, Only H → SqL K H a (ns.map V.int) → sp [.ref a] H (fun v _ => v = .bl true) fun _ _ _ => False)
    (hCX : ∀ H e s', CX [] H s₁ (fun _ _ _ => False) e s' → False) :
    codeAny (model P w) callerA (.call (.ref fa) ⟨[.ref a], []⟩) (fun r s' => r = .ok (.ret (.bool true)) ∧ OldK s₁.heap s'.heap ∧ s'.os = s₁.os ∧ AllBare s'.gens) s₁ := by
  have rv := vals_ints hi
  have lenV := hi.length
  -- from an abstract heap in which nothing but the script may be tracked
  have core : ∀ H : Hp, Only H → SqL K H a (ns.map V.int) → HOk P w H s₁.heap → (∀ b, H b ≠ none → b = a) → (H a ≠ none → K.lookup a = none) →
      codeAny (model P w) callerA (.call (.ref fa) ⟨[.ref a], []⟩) (fun r s' => r = .ok (.ret (.bool true)) ∧ OldK s₁.heap s'.heap ∧ s'.os = s₁.os ∧ AllBare s'.gens) s₁ := by
    intro H hO hS hok hA hK
    have base_of : ∀ {b : Addr} {o : Obj}, s₁.heap.get? b = some o → H b = none → (hidT s₁.heap H).get? b = some o := fun e n => hidT_get e n
    have noA : ∀ {b : Addr} {o : Obj} {es : Array DictEntry} {ep : Nat}, s₁.heap.get? b = some o → o.data = .dict es ep → H b = none := fun {b o es ep} e d => by
      cases q : H b with
      | none => rfl
      | some u =>
        have e' : b = a := hA b (by rw [q]; simp)
        subst e'
        rw [ha] at e; cases e
        have d' : Data.seq vs.toArray _ = Data.dict es ep := d
        cases d'
    have nsK : ∀ {b : Addr} {m : Str → Option Value}, s₁.heap.Ns b m → (hidT s₁.heap H).Ns b m := fun {b m} ⟨o, es, ep, e, d, r⟩ => ⟨o, es, ep, base_of e (noA e d), d, r⟩
    have hKb : K.In (hidT s₁.heap H) := fun b o e => base_of (KX b o e) (by
      cases q : H b with
      | none => rfl
      | some u =>
        have e' : b = a := hA b (by rw [q]; simp)
        subst e'
        rw [hK (by rw [q]; simp)] at e; cases e)
    have hM : Mod K mg (hidT s₁.heap H) := ⟨hKb, nsK hns, ⟨mb, nsK hb, hbb⟩, let ⟨mc, h1, h2⟩ := hlim; ⟨mc, nsK h1, h2⟩⟩
    have e0 : Env0 P w K mg (hidT s₁.heap H) callerA [] s₁ H := ⟨rfl, hM, fun b o e => of_hidT e, Nat.le_of_eq (hidT_size _ _), trivial, fun b hb => absurd (show b ∈ ([] : List Addr) from hb) (by simp), hok, .of_eq hg⟩
    refine codeAny_mono ((F _ hKb (nsK hns)).run callerA [] s₁ H ⟨[.ref a], []⟩ [.ref a] [.ref a] _ _ hr e0 (hbind s₁ (.ref a)) (.cons rfl .nil) (hsp H hO hS)) fun r s' h => ?_
    cases r with
    | error e => exact (hCX H e s' h).elim
    | ok fl =>
      cases fl with
      | next => exact False.elim h
      | brk => exact False.elim h
      | cont => exact False.elim h
      | ret u =>
        obtain ⟨v, H', os, bare, un, hok', r', q⟩ := h
        have q' : v = .bl true := q
        subst q'
        obtain rfl : u = Value.bool true := r'
        refine ⟨rfl, OldK.of_keep fun b o e => ?_, os, bare⟩
        cases q : H b with
        | none => exact un.keep b o e q (by intro z; exact absurd (show b ∈ ([] : List Addr) from z) (by simp)) (by simp)
        | some u =>
          rcases hO b with z | ⟨ob, xs, z⟩
          · rw [q] at z; cases z
          · have z2 := un.frzs b ob _ z
            obtain ⟨e1, _⟩ := hok b _ z
            obtain ⟨e2, _⟩ := hok' b _ z2
            rw [e] at e1; cases e1
            exact e2
  cases hk : K.lookup a with
  | some o =>
    -- the script is one of the module's own objects
    have e := KX a o hk
    rw [ha] at e
    cases e
    refine core (fun _ => none) (fun _ => .inl rfl) (.inr ⟨_, vs.toArray, _, hk, rfl, rfl, rfl, by rw [List.size_toArray, lenV]; exact hl, by simpa using rv⟩) (fun b u z => by have z' : (none : Option HO) = some u := z; cases z') (fun b z => absurd rfl z) fun z => absurd rfl z
  | none =>
    refine core (fun b => if b = a then some (.frz { cls := .type "list", data := .seq vs.toArray } (.lst (ns.map V.int))) else none) (fun b => ?_) (.inl (.inr ⟨{ cls := .type "list", data := .seq vs.toArray }, if_pos rfl⟩)) (fun b u z => ?_) (fun b z => ?_) fun _ => hk
    · by_cases hb : b = a
      · exact .inr ⟨_, _, if_pos hb⟩
      · exact .inl (if_neg hb)
    · by_cases hb : b = a
      · have z' := (if_pos hb).symm.trans z
        cases z'
        subst hb
        exact ⟨ha, by rw [List.length_map]; exact hl, vs, _, rv, ha⟩
      · have z' := (if_neg hb).symm.trans z
        cases z'
    · by_cases hb : b = a
      · exact hb
      · exact absurd (if_neg hb) z
end L2

namespace L2
open PySem PySem.Spec PyProof.Rows

/-- the goal that k_head leaves (case hc), from the law's promise. F gives the function object fd (K's own) once, then the promise over every base -/
theorem walk_of {l : PySem.W.OpenLaw} {n k : Nat} {q : Program} {loose : List Str} {XP : (Str → Option Value) → Heap → Prop} {YP : World → Heap → Prop} {d : DefRec} {K : Params → PySem.W.Frag} {CX : World → CXT} {sp : World → Sp} {x : Str}
    (hn : l.most = some n) (hn2 : n ≤ sizeLine) (hdf : d.params.defaults = []) (hr : Room k callerA)
    (hY : ∀ (w : World) (h : Heap), YP w h → (K w.params).In h)
    (F : ∀ (w : World) (mg : Str → Option Value) (fa : Addr) (h : Heap), (K w.params).In h → h.Ns mainGlobals mg → mg d.name = some (.ref fa) →
      ∃ fd : FuncData, (∀ (s : Shared) (u : Value), BindsTo s fd ⟨[u], []⟩ [(x, u)]) ∧
        ∀ base : Heap, (K w.params).In base → base.Ns mainGlobals mg → FnOk l.prog w (K w.params) mg base (CX w) k fa fd [x] (sp w))
    (hsp : ∀ (w : World) (H : Hp) (a : Addr) (ns : List Int), ns.length ≤ n → Only H → SqL (K w.params) H a (ns.map V.int) → sp w [.ref a] H (fun v _ => v = .bl true) fun _ _ _ => False)
    (hCX : ∀ (w : World) (H : Hp) (s : Shared) (e : Value) (s' : Shared), CX w [] H s (fun _ _ _ => False) e s' → False) :
    PySem.W.WalkO q loose XP YP l.row.toRowW d [] (fun f vs => PySem.call f vs) := by
  refine Att.attach_call hn hdf fun w s₀ s₁ mg mb fa o pm cd doc a vs ns G Y ho hd hcd hmg hobj hints hlen hg => ?_
  have KX := hY w _ Y
  obtain ⟨fd, hb, hF⟩ := F w mg fa _ KX G.T.g hmg
  exact law_call KX G.T.g G.T.b G.T.builtins G.T.nolimit hg hobj hints (Nat.le_trans hlen hn2) hr hF hb (fun H hO hS => hsp w H a ns hlen hO hS) fun H e s' => hCX w H s₁ e s'
end L2

/- THE LAST THEOREM (shape; LID, My.* are yours):
   My.Adr: a structure of the addresses that your layer names (classes, functions); My.Txt K t: a structure (Prop) of the equations over K;
   My.txt_mk : {K} {implicit addresses ..} (e1 : nsIn K mainGlobals "law" = some (some (.ref f))) (e2 : K.lookup f = some ⟨oc, od, .func (fnOf "law" "law" params body scope dV kV doc pm an cdv ct), sl⟩) (e3 : codeIn K cdv "law" = true) .. : ∃ t, My.Txt K t

set_option maxRecDepth 100000 in
set_option maxHeartbeats 0 in
theorem PySem.Challenge.cw_LID_holds : PySem.Challenge.rw_LID.Holds := by
  w_on; o_law; k_head; (case hw => w_witness2)
  k_fill
  refine L2.walk_of (l := PySem.Challenge.rw_LID) (n := 63) (k := 40) (x := "script") (CX := fun w => ..) (sp := fun _ => My.sp_law) rfl (by decide) rfl ⟨rfl, by decide, by decide⟩ (fun w h Y => PySem.W.kIn_of Y) ?F ?S ?C
  case F =>
    intro w mg fa h KX G hmg
    have T : ∃ t, My.Txt (L2.KOf KX) t := by
      dsimp only [L2.KOf]                          -- K must stand as «<heap const> w.params» for k_is
      refine' My.txt_mk ?e1 ?e2 ?e3 ..
      (case e1 => PySem.W.k_is)                    -- in the order: a name -> its address -> its object -> its parts
      (case e2 => PySem.W.k_is)
      ..
    obtain ⟨t, T⟩ := T
    have e0 := hmg.symm.trans (PySem.W.mg_of KX G T.law)
    cases e0                                       -- fa is the law's own address
    exact ⟨_, fun s u => .of_eq rfl, fun base kb nb => My.law_fn T kb nb⟩     -- if «.of_eq rfl» comes too early: refine' ⟨_, ?b, fun base kb nb => My.law_fn T kb nb⟩; exact fun s u => .of_eq rfl
  case S => exact fun w H a ns hl hO hS => ..
  case C => exact ..
(the tactic k_is has no namespace: write k_is) -/

/-! SHORT WORDS over the layer: a def of the text, its body, what a loop and a test want. -/
namespace L2
open PySem PySem.Spec PyProof.Rows

/-! ### the text by places -/
def defArgs (s : Stmt) : Arguments := match s with
  | .FunctionDef _ a _ _ _ _ _ _ _ _ => a
  | _ => { posonlyargs := [], args := [], vararg := none, kwonlyargs := [], kw_defaults := [], kwarg := none, defaults := [] }
def defBody (s : Stmt) : List Stmt := match s with
  | .FunctionDef _ _ b _ _ _ _ _ _ _ => b
  | _ => []
def defScope (s : Stmt) : Scope := match s with
  | .FunctionDef _ _ _ _ _ _ sc _ _ _ => sc
  | _ => { kind := .function, names := [], isGenerator := false, isCoroutine := false }

/-! ### no exception leaves a def -/
abbrev CX0 : CXT := fun _ _ _ _ _ _ => False
abbrev E0 : XK := fun _ _ _ => False
theorem pass0 {X : Cx} : Passes CX0 X E0 := fun _ _ _ _ _ _ _ h => h.elim

/-! ### a def (or method) of the text as it stands behind the top -/
structure Fun (K : PySem.W.Frag) (x qual : Str) (st : Stmt) (f : Addr) (fd : FuncData) : Prop where
  ex : ∃ (oc : Value) (od : Option Addr) (kV doc pm : Value) (an : Option Addr) (cdv ct : Value) (osl : Array (Option Value)),
    fd = PySem.W.fnOf x qual (defArgs st) (defBody st) (defScope st) .none kV doc pm an cdv ct ∧ K.lookup f = some ⟨oc, od, .func fd, osl⟩ ∧ PySem.W.codeIn K cdv qual = true
  kp : PySem.W.keepIn K (.ref f) = true
section
variable {P : Program} {w : World} {K : PySem.W.Frag} {mg : Str → Option Value} {base : Heap}
/-- THE RULE for a def: its body as a term of rules, and the reading of that term -/
theorem Fun.ok {x qual : Str} {st : Stmt} {f : Addr} {fd : FuncData} {N ps : List Str} {k : Nat} {sp : Sp} (F : Fun K x qual st f fd) (S : FnScope N ps (defScope st)) (len : ∀ vs H Q E, sp vs H Q E → vs.length = ps.length)
    (hbody : ∀ (cdv : Value) (A : Around) (outer : List Env) (s : Shared) (H : Hp) (vs : List V) (Q : VK) (E : XK), Room k (A.deeper (envOfC qual (defScope st) s.heap.objs.size f cdv)) → sp vs H Q E →
      ∃ t, PSs (cxOf CX0 P w K mg base N qual (defScope st) f cdv A outer s H E).nox (defBody st) t ∧ t { nx := fun _ H' => Q .non H', rt := Q } (start N vs) H) : FnOk P w K mg base CX0 (k + 1) f fd ps sp := by
  obtain ⟨oc, od, kV, doc, pm, an, cdv, ct, osl, rfl, lk, hcd⟩ := F.ex
  refine fn_of lk hcd S len fun A outer s H vs Q E hr hsp => ?_
  obtain ⟨t, h, q⟩ := hbody cdv A outer s H vs Q E hr hsp
  exact ⟨t, h.nox, q⟩
/-- how its arguments bind (no defaults): h is «fun _ _ _ _ _ _ us hl => match us, hl with | [_, _], _ => rfl», one _ a parameter -/
theorem Fun.binds {x qual : Str} {st : Stmt} {f : Addr} {fd : FuncData} {ps : List Str} (F : Fun K x qual st f fd)
    (h : ∀ (kV doc pm : Value) (an : Option Addr) (cdv ct : Value) (us : List Value), us.length = ps.length → bindArgs (PySem.W.fnOf x qual (defArgs st) (defBody st) (defScope st) .none kV doc pm an cdv ct) ⟨us, []⟩ = pure (ps.zip us)) : Binds K fd ps [] := by
  obtain ⟨oc, od, kV, doc, pm, an, cdv, ct, osl, rfl, lk, hcd⟩ := F.ex
  exact .all (h kV doc pm an cdv ct)
theorem fun_mk {x qual : Str} {st : Stmt} {f : Addr} {oc : Value} {od an : Option Addr} {osl : Array (Option Value)} {kV doc pm cdv ct : Value} (l : K.lookup f = some ⟨oc, od, .func (PySem.W.fnOf x qual (defArgs st) (defBody st) (defScope st) .none kV doc pm an cdv ct), osl⟩)
    (c : PySem.W.codeIn K cdv qual = true) (k : PySem.W.keepIn K (.ref f) = true) : Fun K x qual st f (PySem.W.fnOf x qual (defArgs st) (defBody st) (defScope st) .none kV doc pm an cdv ct) := ⟨⟨oc, od, kV, doc, pm, an, cdv, ct, osl, rfl, l, c⟩, k⟩
end
theorem small1000 {n : Nat} (h : n ≤ 1000) : n < sizeLine := Nat.lt_of_le_of_lt h (by decide)

/-! ### expressions in short: the name that stands in the i-th slot -/
section
variable {X : Cx}
theorem pv (i : Nat) {x : Str} {pos : Pos} (hN : X.N[i]? = some x := by rfl) (hv : Vis X.env.scope x := by first | exact Or.inl rfl | exact Or.inr (Or.inl rfl) | exact Or.inr (Or.inr rfl)) (hd : (x == ("__debug__" : Str)) = false := by decide)
    (hcd : (x == ("__classdict__" : Str)) = false := by decide) : PE X (.Name x pos) (tVar i) := pe_var hN hv hd hcd
end

/-! ### tests -/
theorem ite2 {c A B : Prop} [Decidable c] (h1 : c → A) (h2 : ¬ c → B) : if c then A else B := by
  by_cases h : c
  · rw [if_pos h]
    exact h1 h
  · rw [if_neg h]
    exact h2 h

/-! ### heaps -/
/-- all that was tracked is as it was -/
def Same (H H' : Hp) : Prop := ∀ b o, H b = some o → H' b = some o
theorem Same.refl (H : Hp) : Same H H := fun _ _ h => h
theorem Same.trans {H H1 H2 : Hp} (a : Same H H1) (b : Same H1 H2) : Same H H2 := fun c o h => b c o (a c o h)
theorem Same.free {H H' : Hp} (e : Same H H') {l : Addr} (h : H' l = Option.none) : H l = Option.none := by
  cases q : H l with
  | none => rfl
  | some o =>
    rw [e l o q] at h
    cases h
theorem Same.seq {K : PySem.W.Frag} {H H' : Hp} {a : Addr} {xs : List V} (e : Same H H') (h : SqL K H a xs) : SqL K H' a xs := by
  rcases h with (h | ⟨o, h⟩) | h
  · exact .inl (.inl (e _ _ h))
  · exact .inl (.inr ⟨o, e _ _ h⟩)
  · exact .inr h

/-! ### a dict's pairs: keys that differ -/
section
variable {κ : Type} [DecidableEq κ]
end
end L2
end
section
set_option Elab.async false
set_option linter.all false
set_option maxRecDepth 100000
set_option maxHeartbeats 4000000
/-! A LIST COMPREHENSION over the layer: one clause, tests, any target. -/
namespace L2
open PySem PySem.Spec PyProof.Rows

/-! ### names of the block -/
def rk (env : Env) (x : Str) (k : NameKind) : NameKind :=
  if (k == NameKind.free && env.scope.kind == .function && env.kindOf x == some .cell) = true then .cell else k
theorem relab_lookup (sc : Scope) (env : Env) (x : Str) : (relabel sc env).names.lookup x = (sc.names.lookup x).map (rk env x) := by
  have all : ∀ l : List (Str × NameKind), (l.map fun (n, k) => if (k == NameKind.free && env.scope.kind == .function && env.kindOf n == some .cell) then (n, NameKind.cell) else (n, k)).lookup x = (l.lookup x).map (rk env x) := by
    intro l
    induction l with
    | nil => rfl
    | cons p r ih =>
      obtain ⟨n, k⟩ := p
      rw [List.map_cons]
      cases hx : x == n with
      | true =>
        have e : x = n := by simpa using hx
        subst e
        by_cases c : (k == NameKind.free && env.scope.kind == .function && env.kindOf x == some .cell) = true
        · simp [List.lookup_cons, rk, c]
        · simp [List.lookup_cons, rk, c]
      | false =>
        have e1 : ((n, k) :: r).lookup x = r.lookup x := by rw [List.lookup_cons, hx]
        rw [e1, ← ih]
        by_cases c : (k == NameKind.free && env.scope.kind == .function && env.kindOf n == some .cell) = true
        · show List.lookup x ((if (k == NameKind.free && env.scope.kind == .function && env.kindOf n == some .cell) = true then (n, NameKind.cell) else (n, k)) :: _) = _
          rw [if_pos c, List.lookup_cons, hx]
        · show List.lookup x ((if (k == NameKind.free && env.scope.kind == .function && env.kindOf n == some .cell) = true then (n, NameKind.cell) else (n, k)) :: _) = _
          rw [if_neg c, List.lookup_cons, hx]
  exact all sc.names
theorem rk_free {env : Env} {x : Str} : rk env x .free = .cell ∨ rk env x .free = .free := by
  unfold rk
  split
  · exact .inl rfl
  · exact .inr rfl
theorem rk_not {env : Env} {x : Str} {k : NameKind} (h : k ≠ .free) : rk env x k = k := by
  unfold rk
  rw [if_neg]
  intro c
  have : (k == NameKind.free) = true := by
    cases q : (k == NameKind.free) with
    | true => rfl
    | false => rw [q] at c; simp at c
  exact h (by simpa using this)

def isFr : Option NameKind → Bool
  | some .free => true
  | _ => false
def isCF : Option NameKind → Bool
  | some .free => true
  | some .cell => true
  | _ => false
def isLo : Option NameKind → Bool
  | some .local => true
  | _ => false
theorem isFr_eq {o : Option NameKind} (h : isFr o = true) : o = some .free := by
  cases o with
  | none => cases h
  | some k => cases k <;> first | rfl | cases h
theorem isCF_eq {o : Option NameKind} (h : isCF o = true) : o = some .cell ∨ o = some .free := by
  cases o with
  | none => cases h
  | some k => cases k <;> first | exact .inl rfl | exact .inr rfl | cases h
theorem isLo_eq {o : Option NameKind} (h : isLo o = true) : o = some .local := by
  cases o with
  | none => cases h
  | some k => cases k <;> first | rfl | cases h
/-- own: the block's own names; fr: the outer slots whose names it takes; N': its slots -/
def blkChk (N : List Str) (ok : Str → Option NameKind) (names : List (Str × NameKind)) (own : List Str) (fr : List Nat) (N' : List Str) : Bool :=
  decide (N' = own ++ fr.map fun j => N.getD j "") && (fr.all fun j => decide (j < N.length) && isFr (names.lookup (N.getD j ""))) &&
    names.all fun p => match p.2 with
      | .free => isCF (ok p.1)
      | .cell => false
      | .local => isLo (names.lookup p.1)
      | _ => true
structure Blk (N : List Str) (ok : Str → Option NameKind) (names : List (Str × NameKind)) (own : List Str) (fr : List Nat) (N' : List Str) : Prop where
  eN : N' = own ++ fr.map fun j => N.getD j ""
  fr : ∀ j ∈ fr, j < N.length ∧ names.lookup (N.getD j "") = some .free
  free : ∀ p ∈ names, p.2 = .free → ok p.1 = some .cell ∨ ok p.1 = some .free
  cell : ∀ p ∈ names, p.2 ≠ .cell
  loc : ∀ p ∈ names, p.2 = .local → names.lookup p.1 = some .local
theorem blk_of {N : List Str} {ok : Str → Option NameKind} {names : List (Str × NameKind)} {own : List Str} {fr : List Nat} {N' : List Str} (h : blkChk N ok names own fr N' = true) : Blk N ok names own fr N' := by
  unfold blkChk at h
  rw [Bool.and_eq_true, Bool.and_eq_true] at h
  obtain ⟨⟨h1, h2⟩, h3⟩ := h
  have h3' := List.all_eq_true.mp h3
  refine ⟨of_decide_eq_true h1, fun j hj => ?_, fun p hp e => ?_, fun p hp e => ?_, fun p hp e => ?_⟩
  · have q := List.all_eq_true.mp h2 j hj
    rw [Bool.and_eq_true] at q
    exact ⟨of_decide_eq_true q.1, isFr_eq q.2⟩
  · have q := h3' p hp
    rw [e] at q
    exact isCF_eq q
  · have q := h3' p hp
    rw [e] at q
    cases q
  · have q := h3' p hp
    rw [e] at q
    exact isLo_eq q
def mkS (own : List Str) (fr : List Nat) (σ : St) : St := own.map (fun _ => none) ++ fr.map fun j => (σ[j]?).getD none

/-- what a block keeps of the cells around it -/
theorem clos (sc : Scope) (env : Env) (h : ∀ p ∈ sc.names, p.2 = .free → ∃ c, env.cells.lookup p.1 = some c) :
    ∃ cl, closureFor sc env = pure cl ∧ (∀ x c, cl.lookup x = some c → env.cells.lookup x = some c) ∧ ∀ p ∈ sc.names, p.2 = .free → cl.lookup p.1 = env.cells.lookup p.1 := by
  unfold closureFor
  have all : ∀ (l : List (Str × NameKind)) (acc : List (Str × Addr)), (∀ p ∈ l, p.2 = .free → ∃ c, env.cells.lookup p.1 = some c) → (∀ x c, acc.lookup x = some c → env.cells.lookup x = some c) →
      ∃ cl, (forIn l acc fun (p : Str × NameKind) (r : List (Str × Addr)) => (match p with
        | (name, kind) => if (kind == NameKind.free) = true then (do let a ← cellOf env name; pure (ForInStep.yield ((name, a) :: r))) else pure (ForInStep.yield r) : Sem (ForInStep (List (Str × Addr))))) = pure cl ∧
        (∀ x c, cl.lookup x = some c → env.cells.lookup x = some c) ∧ (∀ p ∈ l, p.2 = .free → cl.lookup p.1 = env.cells.lookup p.1) ∧ ∀ x, acc.lookup x = env.cells.lookup x → cl.lookup x = env.cells.lookup x := by
    intro l
    induction l with
    | nil => intro acc _ ha; exact ⟨acc, rfl, ha, fun p hp => (by simp at hp), fun x e => e⟩
    | cons p r ih =>
      intro acc hl ha
      obtain ⟨n, k⟩ := p
      rw [List.forIn_cons]
      by_cases hk : k = .free
      · subst hk
        obtain ⟨c, hc⟩ := hl (n, .free) List.mem_cons_self rfl
        have hce : cellOf env n = pure c := by unfold cellOf; rw [hc]
        obtain ⟨cl, e1, e2, e3, e4⟩ := ih ((n, c) :: acc) (fun p hp => hl p (List.mem_cons_of_mem _ hp)) (fun x c' e => by
          rw [List.lookup_cons] at e
          cases hx : x == n with
          | true =>
            rw [hx] at e
            have : x = n := by simpa using hx
            subst this
            cases e
            exact hc
          | false => rw [hx] at e; exact ha x c' e)
        refine ⟨cl, ?_, e2, fun p hp e => ?_, fun x e => e4 x ?_⟩
        · simp only [beq_self_eq_true, if_true, hce]
          exact e1
        · rcases List.mem_cons.mp hp with rfl | hp
          · exact e4 n (by rw [List.lookup_cons]; simp [hc])
          · exact e3 p hp e
        · rw [List.lookup_cons]
          cases hx : x == n with
          | true =>
            have : x = n := by simpa using hx
            subst this
            simp [hc]
          | false => exact e
      · have hb : (k == NameKind.free) = false := by simpa using hk
        obtain ⟨cl, e1, e2, e3, e4⟩ := ih acc (fun p hp => hl p (List.mem_cons_of_mem _ hp)) ha
        refine ⟨cl, ?_, e2, fun p hp e => ?_, e4⟩
        · simp only [hb, Bool.false_eq_true, if_false]
          exact e1
        · rcases List.mem_cons.mp hp with rfl | hp
          · exact absurd e hk
          · exact e3 p hp e
  obtain ⟨cl, e1, e2, e3, _⟩ := all sc.names [] h (fun x c e => by simp at e)
  refine ⟨cl, ?_, e2, e3⟩
  have e1' := congrArg (fun t : Sem (List (Str × Addr)) => t >>= fun cs => pure cs) e1
  first
    | exact e1'
    | (simp only [pure_bind] at e1'; exact e1')
    | (refine Eq.trans ?_ e1'; rfl)
    | (dsimp only at e1' ⊢; exact e1')

/-! ### the block's context -/
def Cx.blk (X : Cx) (sc : Scope) (cl : List (Str × Addr)) (C : Addr) (N : List Str) (s : Shared) (H : Hp) (fp : List Addr) : Cx where
  prog := X.prog
  w := X.w
  K := X.K
  mg := X.mg
  base := X.base
  A := X.A
  N := N
  s₀ := s
  H₀ := H
  env := compEnvC sc cl C X.env
  outer := X.stack
  stack := X.stack
  ex := fp
  fn := fun _ => false
  calm := X.calm
  pn := []
  xe := fun _ _ => False
section
variable {X : Cx} {pins : List (Addr × Obj)} {σ : St} {H : Hp} {s : Shared} {sc : Scope} {cl : List (Str × Addr)} {own : List Str} {fr : List Nat} {N' : List Str} {fp : List Addr}
theorem blk_start (I : Inv X pins σ H s) (B : Blk X.N X.env.kindOf sc.names own fr N') (hk : sc.kind = .function)
    (sub : ∀ x c, cl.lookup x = some c → X.env.cells.lookup x = some c) (has : ∀ p ∈ sc.names, p.2 = .free → cl.lookup p.1 = X.env.cells.lookup p.1)
    (f2 : ∀ b ∈ fp, FpOk X pins H b) (fo : ∀ b ∈ fp, b < s.heap.objs.size) {h1 : Heap} {tk : Nat} {C D : Addr} {n : Nat} (eD : D = s.heap.objs.size) (eC : s.heap.objs.size < C)
    (hns : h1.Ns C (fun _ => none)) (old : ∀ b o, s.heap.get? b = some o → h1.get? b = some o) (hD : h1.get? D = some { cls := .type "list", data := .seq ([] : List Value).toArray n }) :
    Inv (X.blk sc cl C N' s H fp) [] (mkS own fr σ) (upd H D (.lst [])) { s with heap := h1, toks := tk } := by
  have hcells : ∀ x c, cl.lookup x = some c → c < s.heap.objs.size := fun x c e => by
    obtain ⟨v, q⟩ := I.cell x c (sub x c e)
    exact q.lt
  have hDn : H D = none := I.hok.fresh (Nat.le_of_eq eD.symm)
  have kind : ∀ x, (X.blk sc cl C N' s H fp).env.kindOf x = (sc.names.lookup x).map (rk X.env x) := fun x => relab_lookup sc X.env x
  refine ⟨⟨I.ok.mod, hk, I.ok.glob, I.ok.blt, Nat.le_of_lt eC, fun x y c e1 e2 => I.ok.inj x y c (sub x c e1) (sub y c e2), fun x hx => ?_, (fun x c e => nomatch (show false = true from e)), I.ok.hd, I.ok.frames, .inl rfl, fun b hb => ⟨?_, fun x c e => ?_⟩, I.bs, Nat.le_trans I.ok.bsz I.sz, fun b o e hb => ?_, fun b hb => ?_, I.stack, I.stkFree⟩,
    rfl, I.bare, Un.laid old (Nat.le_of_eq eD.symm) hDn, ⟨_, hns, fun i x v e1 e2 e3 => ?_⟩, fun x c e => ?_, ?_, fun x c e => ?_, fun p hp => ?_, I.hok.laid old (Nat.le_of_eq eD.symm) ⟨Nat.zero_le _, [], n, .nil, hD⟩, ?_⟩
  · have hx' : (sc.names.lookup x).map (rk X.env x) = some .cell ∨ (sc.names.lookup x).map (rk X.env x) = some .free := by
      rw [← kind x]; exact hx
    cases q : sc.names.lookup x with
    | none => rw [q] at hx'; simp at hx'
    | some k =>
      have hm := PySem.mem_of_lookup q
      by_cases hf : k = .free
      · subst hf
        show ∃ c, cl.lookup x = some c
        rw [has _ hm rfl]
        have z := B.free _ hm rfl
        exact I.ok.has x z
      · rw [q] at hx'
        simp only [Option.map_some, rk_not hf] at hx'
        rcases hx' with z | z
        · exact absurd (Option.some.inj z) (B.cell _ hm)
        · exact absurd (Option.some.inj z) hf
  · exact Nat.ne_of_lt (Nat.lt_trans (fo b hb) eC)
  · exact (f2 b hb).2.2.2.2.1 x c (sub x c e)
  · rcases (f2 b hb).2.2.2.1 with z | z
    · exact I.ok.noex b o e z
    · exact absurd (Nat.lt_of_lt_of_le (Heap.lt_size e) (Nat.le_trans I.ok.bsz z)) (Nat.lt_irrefl _)
  · intro z
    rcases List.mem_cons.mp (I.stkSub b z) with e | e
    · exact (f2 b hb).2.1 e
    · exact (f2 b hb).2.2.1 e
  · -- the slots
    have e1' : N'[i]? = some x := e1
    have hi : ¬ i < own.length := fun z => by
      unfold mkS at e2
      rw [List.getElem?_append_left (by simpa using z), List.getElem?_map, List.getElem?_eq_getElem z] at e2
      cases e2
    unfold mkS at e2
    rw [List.getElem?_append_right (by simpa using hi), List.length_map, List.getElem?_map] at e2
    rw [B.eN, List.getElem?_append_right (by simpa using hi), List.getElem?_map] at e1'
    cases q : fr[i - own.length]? with
    | none => rw [q] at e2; cases e2
    | some j =>
      rw [q] at e2 e1'
      simp only [Option.map_some, Option.some.injEq] at e2 e1'
      obtain ⟨hj, hfr⟩ := B.fr j (List.mem_of_getElem? q)
      have ej : X.N[j]? = some x := by
        rw [← e1', List.getD_eq_getElem?_getD, List.getElem?_eq_getElem hj]; rfl
      have eσ : σ[j]? = some (some v) := by
        cases z : σ[j]? with
        | none => rw [z] at e2; cases e2
        | some o => rw [z] at e2; simp only [Option.getD_some] at e2; rw [e2]
      rw [e1'] at hfr
      have hm := PySem.mem_of_lookup hfr
      have hok := B.free _ hm rfl
      obtain ⟨m0, hn0, hl0⟩ := I.loc
      have hv : Vis X.env.scope x := by
        rcases hok with z | z
        · exact .inr (.inl z)
        · exact .inr (.inr z)
      obtain ⟨u, r, l⟩ := hl0 j x v ej eσ hv
      refine ⟨u, r, ?_⟩
      rcases l with ⟨z, _⟩ | ⟨_, c, hc, o, ho, hd⟩
      · have hok' : X.env.kindOf x = some .cell ∨ X.env.kindOf x = some .free := hok
        rw [z] at hok'
        rcases hok' with y | y <;> cases y
      · refine .inr ⟨?_, c, ?_, o, old c o ho, hd⟩
        · rw [kind x, hfr]
          rcases rk_free (env := X.env) (x := x) with y | y
          · exact .inl (by rw [Option.map_some, y])
          · exact .inr (by rw [Option.map_some, y])
        · show cl.lookup x = some c
          have z := has _ hm rfl
          exact z.trans hc
  · obtain ⟨v, o, ho, hd⟩ := I.cell x c (sub x c e)
    exact ⟨v, o, old c o ho, hd⟩
  · show upd H D _ C = none
    rw [upd_ne (by rw [eD]; exact Nat.ne_of_gt eC)]
    exact I.hok.fresh (Nat.le_of_lt eC)
  · show upd H D _ c = none
    rw [upd_ne (by rw [eD]; exact Nat.ne_of_lt (hcells x c e))]
    exact I.freeC x c (sub x c e)
  · exact absurd (show p ∈ ([] : List (Addr × Obj)) from hp) (by simp)
  · show (mkS own fr σ).length = N'.length
    rw [B.eN]
    simp [mkS]
/-- behind the block -/
theorem blk_end {C : Addr} {σ' : St} {H' : Hp} {s' : Shared} (I : Inv X pins σ H s) (f2 : ∀ b ∈ fp, FpOk X pins H b) (J : Inv (X.blk sc cl C N' s H fp) [] σ' H' s') : Inv X pins σ H' s' :=
  I.call' (ch := fp) J.os J.base J.hok J.bare fun b hb => ⟨(f2 b hb).2.2.2.1, (f2 b hb).2.1, (f2 b hb).2.2.2.2.1, (f2 b hb).2.2.2.2.2⟩
/-- the block's own dict turns (a younger record) -/
theorem Inv.young {C : Addr} {s0 : Shared} {H0 : Hp} {σ0 : St} {h' : Heap} (I0 : Inv X pins σ0 H0 s0) (I : Inv X pins σ H s) (hC : s0.heap.objs.size ≤ C) (hn : H C = none) (hs : Heap.SameBut C s.heap h') : Inv X pins σ H { s with heap := h' } :=
  I.turned (t' := s.toks) (fun b o hb e => (hs.2 b hb).trans e) hn (Nat.ne_of_gt (Nat.lt_of_lt_of_le I0.lt hC)) (.inr (Nat.le_trans I0.sz hC))
    (fun x c e z => by
      obtain ⟨v, q⟩ := I0.cell x c e
      exact absurd (Nat.lt_of_lt_of_le q.lt (by rw [z]; exact hC)) (Nat.lt_irrefl _))
    (fun p hp z => absurd (Nat.lt_of_lt_of_le (Heap.lt_size (I0.pin p hp).1) (by rw [z]; exact hC)) (Nat.lt_irrefl _))
end

/-! ### the tests of a clause -/
def PIfs (X : Cx) (ifs : List Expr) (t : TT) : Prop :=
  ∀ (pins : List (Addr × Obj)) (s : Shared) (σ : St) (H : Hp) (Q : Bool → Hp → Prop), Inv X pins σ H s → t σ H Q →
    wpAny (model X.prog X.w) X.A (forIn ifs true fun c r => if r = true then do let ok ← isTrue c X.env (eval c X.env); pure (ForInStep.yield ok) else pure (ForInStep.yield r)) (TP X pins σ Q) X.xe s
def tTrue : TT := fun _ H Q => Q true H
theorem pifs_nil {X : Cx} : PIfs X [] tTrue := fun pins s σ H Q I h => wpAny_tests_nil ⟨H, I, h⟩

/-! ### the loop of a block -/
section
variable {prog : Program} {w : World} {A : Around} {R : Result → Shared → Prop} {s : Shared}
theorem compLoop_any {elt target iter : Expr} {ifs : List Expr} {scope : Scope} {pos : Pos} {it acc : Value} {env : Env} (J : Nat → Shared → Prop)
    (turn : ∀ n s, J n s → wpAny (model prog w) A (pyNext it) (fun r s₁ => match r with
      | none => R (.ok .next) s₁
      | some v => wpAny (model prog w) A (letOwnedTupleGo target it v) (fun _ s₂ => wpAny (model prog w) A (assign target env v) (fun _ s₃ =>
          wpAny (model prog w) A (forIn ifs true fun c r => if r = true then do let ok ← isTrue c env (eval c env); pure (ForInStep.yield ok) else pure (ForInStep.yield r)) (fun ok s₄ =>
            if ok = true then wpAny (model prog w) A (eval elt env) (fun x s₅ => wpAny (model prog w) A (call (.builtin "list.append") [acc, x]) (fun _ s₆ => ∃ m, m < n ∧ J m s₆) (fun _ _ => False) s₅) (fun _ _ => False) s₄
            else ∃ m, m < n ∧ J m s₄) (fun _ _ => False) s₃) (fun _ _ => False) s₂) (fun _ _ => False) s₁) (fun _ _ => False) s)
    (n : Nat) (h : J n s) : codeAny (model prog w) A (.compLoop (.ListComp elt [⟨target, iter, ifs, 0⟩] scope pos) 0 it acc env) R s := by
  refine codeAny_loop rfl J (fun n s hJ => ?_) n h
  show wpAny (model prog w) A ((compTurn (.ListComp elt [⟨target, iter, ifs, 0⟩] scope pos) 0 it acc env).onRaise fun x => do noteFrame x env; theTreesLotGoes x) _ _ s
  refine wpAny_noted (wpAny_noRaise ?_)
  rw [compTurn_list]
  refine wpAny_bind (wpAny_standAt (wpAny_bind (thn (turn n s hJ) fun r s₁ h₁ => ?_)))
  cases r with
  | none => exact wpAny_pure h₁
  | some v =>
    refine wpAny_bind (thn h₁ fun _ s₂ h₂ => wpAny_bind (thn h₂ fun _ s₃ h₃ => wpAny_bind (thn h₃ fun ok s₄ h₄ => ?_)))
    cases ok with
    | false => exact wpAny_pure ⟨rfl, h₄⟩
    | true => exact wpAny_bind (wpAny_bind (thn h₄ fun x s₅ h₅ => wpAny_bind (thn h₅ fun _ s₆ h₆ => wpAny_pure (wpAny_pure ⟨rfl, h₆⟩))))
end

/-- W: the invariant by the turn and a measure, over the block's slots; D: the new list -/
def tComp (wi : TI) (mk : St → St) (g : TG) (tt : TT) (te : TE) : TE := fun σ H Q => wi σ H fun J H1 => ∀ D, H1 D = none → ∃ W : Nat → Nat → St → Hp → Prop, (∃ m, W 0 m (mk σ) (upd H1 D (.lst []))) ∧ ∀ i m σ' H', W i m σ' H' →
  (J.stop i H' ∧ Q (.ref D) H') ∨
  (J.go i H' ∧ ∃ Nx : St → Hp → Prop, (∀ σ'' H'', Nx σ'' H'' → ∃ m', m' < m ∧ W (i + 1) m' σ'' H'') ∧ ∀ x H'', J.yld i H' x H'' → g x σ' H'' fun σ2 H2 => tt σ2 H2 fun b H3 =>
    if b = true then te σ2 H3 fun v H4 => ∃ ys, H4 D = some (.lst ys) ∧ ys.length < sizeLine ∧ Nx σ2 (upd H4 D (.lst (ys ++ [v]))) else Nx σ2 H3)

section
variable {X : Cx} {elt iter tg : Expr} {ifs : List Expr} {sc : Scope} {pos : Pos} {wi : TI} {own : List Str} {fr : List Nat} {N' : List Str} {g : TG} {tt : TT} {te : TE}
theorem comp_run {pins : List (Addr × Obj)} {σ : St} {H : Hp} {s : Shared} {cl : List (Str × Addr)} {fp : List Addr} {it : Addr} {J : It} {tn : Nat → Heap → Prop} {E : Value → Shared → Prop} {Q : VK} {RR : Value → Addr → Result → Shared → Prop}
    (I : Inv X pins σ H s) (B : Blk X.N X.env.kindOf sc.names own fr N') (hk : sc.kind = .function) (hc : X.calm = true)
    (sub : ∀ x c, cl.lookup x = some c → X.env.cells.lookup x = some c) (has : ∀ p ∈ sc.names, p.2 = .free → cl.lookup p.1 = X.env.cells.lookup p.1)
    (T : Turn X.prog X.w X.K tg J fp it tn) (st : tn 0 s.heap) (f2 : ∀ b ∈ fp, FpOk X pins H b)
    (hg : ∀ cl C s H fp, PG (X.blk sc cl C N' s H fp) tg g) (ht : ∀ cl C s H fp, PIfs (X.blk sc cl C N' s H fp) ifs tt) (he : ∀ cl C s H fp, PE (X.blk sc cl C N' s H fp) elt te)
    (hw : ∀ D, H D = none → ∃ W : Nat → Nat → St → Hp → Prop, (∃ m, W 0 m (mkS own fr σ) (upd H D (.lst []))) ∧ ∀ i m σ' H', W i m σ' H' →
      (J.stop i H' ∧ Q (.ref D) H') ∨
      (J.go i H' ∧ ∃ Nx : St → Hp → Prop, (∀ σ'' H'', Nx σ'' H'' → ∃ m', m' < m ∧ W (i + 1) m' σ'' H'') ∧ ∀ x H'', J.yld i H' x H'' → g x σ' H'' fun σ2 H2 => tt σ2 H2 fun b H3 =>
        if b = true then te σ2 H3 fun v H4 => ∃ ys, H4 D = some (.lst ys) ∧ ys.length < sizeLine ∧ Nx σ2 (upd H4 D (.lst (ys ++ [v]))) else Nx σ2 H3))
    (hRR : ∀ D C σ' H' s', D = s.heap.objs.size → s.heap.objs.size ≤ C → Inv (X.blk sc cl C N' s H fp) [] σ' H' s' → Q (.ref D) H' → RR (.ref D) C (.ok .next) s') :
    wpAny (model X.prog X.w) X.A (newList []) (fun acc s₃ => wpAny (model X.prog X.w) X.A (newFunctionEnv sc X.env.globals cl [] X.env.qual none .none (some X.env)) (fun cenv s₄ =>
      codeAny (model X.prog X.w) X.A (.compStart (.ListComp elt [⟨tg, iter, ifs, 0⟩] sc pos) 0 (.ref it) acc { cenv with scope := relabel sc X.env }) (RR acc cenv.locals) s₄) E s₃) E s := by
  have fo : ∀ b ∈ fp, b < s.heap.objs.size := fun b hb => by
    obtain ⟨o, e, _⟩ := T.obj _ _ st b hb
    exact Heap.lt_size e
  refine wpAny_newObj_type (wpAny_newFunctionEnv B.cell (by intro y hy; simp at hy) (fun h₁ hns₁ hsb₁ => ?_) hk)
  dsimp only at hns₁ hsb₁ ⊢
  generalize hH2 : s.heap.push { cls := .type "list", dict := none, data := .seq ([] : List Value).toArray } = G at hns₁ hsb₁ ⊢
  have hG : G.objs.size = s.heap.objs.size + 1 := by rw [← hH2, Heap.size_push]
  have hlt : s.heap.objs.size < G.objs.size := by rw [hG]; exact Nat.lt_succ_self _
  have old : ∀ b o, s.heap.get? b = some o → h₁.get? b = some o := fun b o e =>
    hsb₁.extBut b o (Nat.ne_of_lt (Nat.lt_trans (Heap.lt_size e) hlt)) (Heap.get?_push_of_some _ (hH2 ▸ Heap.get?_push_of_some _ e))
  have hacc : h₁.get? s.heap.objs.size = some { cls := .type "list", data := .seq ([] : List Value).toArray } :=
    hsb₁.extBut _ _ (Nat.ne_of_lt hlt) (Heap.get?_push_of_some _ (hH2 ▸ Heap.get?_push_size _ rfl))
  obtain ⟨W, ⟨m0, w0⟩, turn⟩ := hw s.heap.objs.size (I.hok.fresh (Nat.le_refl _))
  have st₁ : tn 0 h₁ := T.keep _ _ _ st fun b _ o e => old b o e
  have hns' : h₁.Ns G.objs.size (fun _ => none) := by
    have e : (fun x => ([] : List (Str × Value)).reverse.lookup x) = (fun _ : Str => (none : Option Value)) := by funext x; rfl
    first
      | exact hns₁
      | (rw [e] at hns₁; exact hns₁)
  have loop : ∀ s₃ : Shared, s₃ = { s with heap := h₁, toks := s.toks + ([] : List (Str × Value)).length } →
      codeAny (model X.prog X.w) X.A (.compLoop (.ListComp elt [⟨tg, iter, ifs, 0⟩] sc pos) 0 (.ref it) (.ref s.heap.objs.size) (compEnvC sc cl G.objs.size X.env)) (RR (.ref s.heap.objs.size) G.objs.size) s₃ := by
    rintro s₃ rfl
    have I0 := blk_start (tk := s.toks + ([] : List (Str × Value)).length) I B hk sub has f2 fo rfl hlt hns' old hacc
    have stat : ∀ {pins' : List (Addr × Obj)} {H' : Hp}, pins' = [] → (∀ b ∈ fp, H' b = none) → ∀ b ∈ fp, FpOk (X.blk sc cl G.objs.size N' s H fp) pins' H' b := fun ep hn b hb => by
      subst ep
      refine ⟨hn b hb, Nat.ne_of_lt (Nat.lt_trans (fo b hb) hlt), fun z => ?_, .inl hb, fun x c e => (f2 b hb).2.2.2.2.1 x c (sub x c e), fun p hp => absurd (show p ∈ ([] : List (Addr × Obj)) from hp) (by simp)⟩
      rcases List.mem_cons.mp (I.stkSub b z) with e | e
      · exact (f2 b hb).2.1 e
      · exact (f2 b hb).2.2.1 e
    have fr0 : ∀ b ∈ fp, upd H s.heap.objs.size (.lst []) b = none := fun b hb => by
      rw [upd_ne (Nat.ne_of_lt (fo b hb))]; exact (f2 b hb).1
    refine compLoop_any (fun n s' => ∃ i σ' H', Inv (X.blk sc cl G.objs.size N' s H fp) [] σ' H' s' ∧ tn i s'.heap ∧ (∀ b ∈ fp, H' b = none) ∧ W i n σ' H') ?_ m0 ⟨0, _, _, I0, st₁, fr0, w0⟩
    rintro n s3 ⟨i, σ3, H3, I3, st3, fr3, w3⟩
    rcases turn i n σ3 H3 w3 with ⟨stop, qn⟩ | ⟨go, Nx, hN, step⟩
    · refine thn (T.done (X.blk sc cl G.objs.size N' s H fp) rfl rfl rfl hc i [] s3 σ3 H3 _ I3 (stat rfl fr3) st3 stop) fun r s4 ⟨hr, I4⟩ => ?_
      subst hr
      exact hRR _ _ _ _ _ rfl (Nat.le_of_lt hlt) I4 qn
    · refine thn (T.item (X.blk sc cl G.objs.size N' s H fp) rfl rfl rfl hc i [] s3 σ3 H3 _ I3 (stat rfl fr3) st3 go) fun r s4 ⟨u, hr, h4⟩ => ?_
      subst hr
      refine thn h4 fun _ s5 ⟨x, H5, I5, r5, y5, st5, fr5⟩ => ?_
      have I5' := I5.pinned (stat rfl fr5) (T.obj _ _ st5)
      refine thn (hg cl G.objs.size s H fp _ s5 σ3 H5 x u _ I5' r5 (step x H5 y5)) fun _ s6 ⟨σ6, H6, I6, q6⟩ => ?_
      refine thn (ht cl G.objs.size s H fp _ s6 σ6 H6 _ I6 q6) fun ok s7 ⟨H7, I7, q7⟩ => ?_
      have again : ∀ {s8 : Shared} {H8 : Hp}, Inv (X.blk sc cl G.objs.size N' s H fp) ([] ++ pinsAt fp s5.heap) σ6 H8 s8 → Nx σ6 H8 →
          ∃ m, m < n ∧ ∃ i σ' H', Inv (X.blk sc cl G.objs.size N' s H fp) [] σ' H' s8 ∧ tn i s8.heap ∧ (∀ b ∈ fp, H' b = none) ∧ W i m σ' H' := fun {s8 H8} I8 n8 => by
        obtain ⟨m', hm, w8⟩ := hN σ6 H8 n8
        refine ⟨m', hm, i + 1, σ6, H8, I8.unpinned, T.keep _ _ _ st5 fun b hb o e => (I8.pin (b, o) (List.mem_append_right _ (List.mem_append_right _ (mem_pinsAt hb e)))).1, fun b hb => ?_, w8⟩
        obtain ⟨o, e, d⟩ := T.obj _ _ st5 b hb
        exact (I8.pin (b, o) (List.mem_append_right _ (List.mem_append_right _ (mem_pinsAt hb e)))).2.1
      cases ok with
      | false =>
        rw [if_neg Bool.false_ne_true] at q7 ⊢
        exact again I7 q7
      | true =>
        rw [if_pos rfl] at q7 ⊢
        refine thn (he cl G.objs.size s H fp _ s7 σ6 H7 _ I7 q7) fun y s8 ⟨v, H8, I8, rv, ys, hD8, hz, nx⟩ => ?_
        refine thn (mt_append (X := X.blk sc cl G.objs.size N' s H fp) _ s8 σ6 H8 (.ref s.heap.objs.size) [v] (.ref s.heap.objs.size) [y] (fun _ H9 => Nx σ6 H9) I8 rfl (.cons rv .nil) ⟨_, ys, v, rfl, rfl, hD8, hz, nx⟩) fun _ s9 ⟨_, H9, I9, _, n9⟩ => ?_
        exact again I9 n9
  exact codeAny_compStart_list (loop _ rfl) (T.self _ 0 _ _ _ st₁ (loop _ rfl))

/-- the comprehension as a value -/
theorem pe_comp (hi : PI X tg iter wi) (hk : sc.kind = .function) (hb : blkChk X.N X.env.kindOf sc.names own fr N' = true) (hc : X.calm = true)
    (hg : ∀ cl C s H fp, PG (X.blk sc cl C N' s H fp) tg g) (ht : ∀ cl C s H fp, PIfs (X.blk sc cl C N' s H fp) ifs tt) (he : ∀ cl C s H fp, PE (X.blk sc cl C N' s H fp) elt te)
    (hs : ∀ x, foldedSetIterable iter X.env x = pure x := by intro _; rfl) : PE X (.ListComp elt [⟨tg, iter, ifs, 0⟩] sc pos) (tComp wi (mkS own fr) g tt te) := by
  intro pins s σ H Q I h
  have B := blk_of hb
  obtain ⟨cl, hcl, sub, has⟩ := clos sc X.env fun p hp e => I.ok.has p.1 (B.free p hp e)
  rw [eval_ListComp]
  refine wpAny_comprehension_free (use := none) rfl hs hcl hk B.loc (thn (hi pins s σ H _ I h) fun v s1 h1 => thn h1 fun itv s2 h2 => ?_)
  obtain ⟨it, fp, tn, J, H2, e, I2, T, st2, f2, body⟩ := h2
  subst e
  refine comp_run (RR := fun acc C => compPost (model X.prog X.w) X.A X.xe none (EP X pins σ Q) acc C) I2 B hk hc sub has T st2 f2 hg ht he body ?_
  intro D C σ' H' s' eD hC J' q
  obtain ⟨m, hn, _⟩ := J'.loc
  refine ⟨m, hn, fun h' hs' => ⟨.ref D, H', ?_, rfl, q⟩⟩
  exact Inv.young I2 (blk_end I2 f2 J') hC J'.free hs'
end
end L2
end
section
set_option Elab.async false
set_option linter.all false
set_option maxRecDepth 100000
set_option maxHeartbeats 4000000
/-! DATA: values with their tuples, equality of data, isinstance, is, tables of the module. -/
namespace L2
open PySem PySem.Spec PyProof.Rows

/-! ### data -/
inductive D where
  | non | bl (b : Bool) | int (i : Int) | str (x : Str) | tup (ds : List D)
  /-- some list -/
  | lst
mutual
def Dat (K : PySem.W.Frag) (H : Hp) : D → V → Prop
  | .non, v => v = .non
  | .bl b, v => v = .bl b
  | .int i, v => v = .int i
  | .str x, v => v = .str x
  | .tup ds, v => ∃ a vs, v = .ref a ∧ SqT K H a vs ∧ Dats K H ds vs
  | .lst, v => ∃ a vs, v = .ref a ∧ SqL K H a vs
def Dats (K : PySem.W.Frag) (H : Hp) : List D → List V → Prop
  | [], vs => vs = []
  | d :: ds, vs => ∃ v r, vs = v :: r ∧ Dat K H d v ∧ Dats K H ds r
end
section
variable {K : PySem.W.Frag} {H H' : Hp}
theorem Dat.tupI {a : Addr} {vs : List V} {ds : List D} (h : SqT K H a vs) (r : Dats K H ds vs) : Dat K H (.tup ds) (.ref a) := by
  unfold Dat; exact ⟨a, vs, rfl, h, r⟩
theorem Dats.nil : Dats K H [] [] := by unfold Dats; rfl
theorem Dats.cons {d : D} {v : V} {ds : List D} {vs : List V} (h : Dat K H d v) (r : Dats K H ds vs) : Dats K H (d :: ds) (v :: vs) := by
  unfold Dats; exact ⟨v, vs, rfl, h, r⟩
theorem Dat.intI (i : Int) : Dat K H (.int i) (.int i) := by unfold Dat; rfl
theorem Dat.strI (x : Str) : Dat K H (.str x) (.str x) := by unfold Dat; rfl
theorem Dat.blI (b : Bool) : Dat K H (.bl b) (.bl b) := by unfold Dat; rfl
theorem Dat.nonI : Dat K H .non .non := by unfold Dat; rfl
theorem Dat.lstI {a : Addr} {vs : List V} (h : SqL K H a vs) : Dat K H .lst (.ref a) := by unfold Dat; exact ⟨a, vs, rfl, h⟩
theorem Dat.tupE {v : V} {ds : List D} (h : Dat K H (.tup ds) v) : ∃ a vs, v = .ref a ∧ SqT K H a vs ∧ Dats K H ds vs := by
  unfold Dat at h; exact h
theorem Dat.intE {v : V} {i : Int} (h : Dat K H (.int i) v) : v = .int i := by unfold Dat at h; exact h
theorem Dat.strE {v : V} {x : Str} (h : Dat K H (.str x) v) : v = .str x := by unfold Dat at h; exact h
theorem Dat.blE {v : V} {b : Bool} (h : Dat K H (.bl b) v) : v = .bl b := by unfold Dat at h; exact h
theorem Dat.nonE {v : V} (h : Dat K H .non v) : v = .non := by unfold Dat at h; exact h
theorem Dat.lstE {v : V} (h : Dat K H .lst v) : ∃ a vs, v = .ref a ∧ SqL K H a vs := by unfold Dat at h; exact h
theorem Dats.nilE {vs : List V} (h : Dats K H [] vs) : vs = [] := by unfold Dats at h; exact h
theorem Dats.consE {d : D} {ds : List D} {vs : List V} (h : Dats K H (d :: ds) vs) : ∃ v r, vs = v :: r ∧ Dat K H d v ∧ Dats K H ds r := by
  unfold Dats at h; exact h
/-- tuples stay, lists stay lists -/
structure Grow (K : PySem.W.Frag) (H H' : Hp) : Prop where
  tup : ∀ a xs, SqT K H a xs → SqT K H' a xs
  lst : ∀ a xs, SqL K H a xs → ∃ ys, SqL K H' a ys
mutual
theorem Dat.mono (g : Grow K H H') : ∀ (d : D) {v : V}, Dat K H d v → Dat K H' d v
  | .non, v, h => by unfold Dat at h ⊢; exact h
  | .bl b, v, h => by unfold Dat at h ⊢; exact h
  | .int i, v, h => by unfold Dat at h ⊢; exact h
  | .str x, v, h => by unfold Dat at h ⊢; exact h
  | .tup ds, v, h => by
    obtain ⟨a, vs, e, q, r⟩ := h.tupE
    subst e
    exact Dat.tupI (g.tup _ _ q) (Dats.mono g ds r)
  | .lst, v, h => by
    obtain ⟨a, vs, e, q⟩ := h.lstE
    subst e
    obtain ⟨ys, q'⟩ := g.lst _ _ q
    exact Dat.lstI q'
theorem Dats.mono (g : Grow K H H') : ∀ (ds : List D) {vs : List V}, Dats K H ds vs → Dats K H' ds vs
  | [], vs, h => by unfold Dats at h ⊢; exact h
  | d :: ds, vs, h => by
    obtain ⟨v, r, e, h1, h2⟩ := h.consE
    subst e
    exact Dats.cons (Dat.mono g d h1) (Dats.mono g ds h2)
end
theorem Dats.length : ∀ {ds : List D} {vs : List V}, Dats K H ds vs → ds.length = vs.length
  | [], vs, h => by rw [h.nilE]; rfl
  | d :: ds, vs, h => by
    obtain ⟨v, r, e, h1, h2⟩ := h.consE
    subst e
    rw [List.length_cons, List.length_cons, Dats.length h2]
theorem Dats.get : ∀ {ds : List D} {vs : List V} {i : Nat} {d : D}, Dats K H ds vs → ds[i]? = some d → ∃ v, vs[i]? = some v ∧ Dat K H d v
  | [], _, i, d, _, e => by simp at e
  | d0 :: ds, vs, 0, d, h, e => by
    obtain ⟨v, r, e1, h1, h2⟩ := h.consE
    subst e1
    simp at e
    subst e
    exact ⟨v, rfl, h1⟩
  | d0 :: ds, vs, i + 1, d, h, e => by
    obtain ⟨v, r, e1, h1, h2⟩ := h.consE
    subst e1
    obtain ⟨u, q1, q2⟩ := Dats.get (i := i) (d := d) h2 (by simpa using e)
    exact ⟨u, by simpa using q1, q2⟩
theorem Dats.getV : ∀ {ds : List D} {vs : List V} {i : Nat} {v : V}, Dats K H ds vs → vs[i]? = some v → ∃ d, ds[i]? = some d ∧ Dat K H d v
  | [], vs, i, v, h, e => by rw [h.nilE] at e; simp at e
  | d0 :: ds, vs, 0, v, h, e => by
    obtain ⟨u, r, e1, h1, h2⟩ := h.consE
    subst e1
    simp at e
    subst e
    exact ⟨d0, rfl, h1⟩
  | d0 :: ds, vs, i + 1, v, h, e => by
    obtain ⟨u, r, e1, h1, h2⟩ := h.consE
    subst e1
    obtain ⟨d, q1, q2⟩ := Dats.getV (i := i) (v := v) h2 (by simpa using e)
    exact ⟨d, by simpa using q1, q2⟩
theorem Dats.append : ∀ {ds es : List D} {vs us : List V}, Dats K H ds vs → Dats K H es us → Dats K H (ds ++ es) (vs ++ us)
  | [], es, vs, us, h, h' => by rw [h.nilE]; exact h'
  | d :: ds, es, vs, us, h, h' => by
    obtain ⟨v, r, e, h1, h2⟩ := h.consE
    subst e
    exact Dats.cons h1 (Dats.append h2 h')
end

/-! ### equality -/
mutual
def eqD : D → D → Bool
  | .non, .non => true
  | .bl a, .bl b => a == b
  | .int a, .int b => a == b
  | .bl a, .int b => (if a then 1 else 0) == b
  | .int a, .bl b => a == (if b then 1 else 0)
  | .str a, .str b => a == b
  | .tup a, .tup b => eqDs a b
  | _, _ => false
def eqDs : List D → List D → Bool
  | [], [] => true
  | a :: r, b :: q => eqD a b && eqDs r q
  | _, _ => false
end
mutual
/-- no list within, so deep -/
def deepD : D → Nat
  | .tup ds => deepDs ds + 1
  | _ => 0
def deepDs : List D → Nat
  | [] => 0
  | d :: ds => max (deepD d) (deepDs ds)
end
mutual
def noL : D → Bool
  | .tup ds => noLs ds
  | .lst => false
  | _ => true
def noLs : List D → Bool
  | [] => true
  | d :: ds => noL d && noLs ds
end
def eAt (a b : List D) (j : Nat) : Bool := match a[j]?, b[j]? with
  | some x, some y => eqD x y
  | _, _ => false
theorem all_range_succ (n : Nat) (e : Nat → Bool) : (List.range (n + 1)).all e = (e 0 && (List.range n).all fun j => e (j + 1)) := by
  rw [List.range_succ_eq_map, List.all_cons, List.all_map]
  rfl
theorem eqDs_range : ∀ a b : List D, ((List.range (min a.length b.length)).all (eAt a b) && a.length == b.length) = eqDs a b
  | [], [] => by unfold eqDs; rfl
  | [], y :: b => by unfold eqDs; simp
  | x :: a, [] => by unfold eqDs; simp
  | x :: a, y :: b => by
    have ih := eqDs_range a b
    unfold eqDs
    rw [← ih, List.length_cons, List.length_cons, Nat.succ_min_succ, all_range_succ]
    have e0 : eAt (x :: a) (y :: b) 0 = eqD x y := rfl
    have e1 : (fun j => eAt (x :: a) (y :: b) (j + 1)) = eAt a b := by
      funext j
      simp [eAt]
    rw [e0, e1, Bool.and_assoc]
    congr 2
    simp
theorem eqDs_rangeL {a b : List D} (h : a.length = b.length) : (List.range a.length).all (eAt a b) = eqDs a b := by
  have q := eqDs_range a b
  rw [← h, Nat.min_self] at q
  rw [← q]
  simp
mutual
theorem eqD_refl : ∀ d : D, noL d = true → eqD d d = true
  | .non, _ => by unfold eqD; rfl
  | .bl b, _ => by unfold eqD; simp
  | .int i, _ => by unfold eqD; simp
  | .str x, _ => by unfold eqD; simp
  | .tup ds, h => by unfold eqD; unfold noL at h; exact eqDs_refl ds h
  | .lst, h => by unfold noL at h; cases h
theorem eqDs_refl : ∀ ds : List D, noLs ds = true → eqDs ds ds = true
  | [], _ => by unfold eqDs; rfl
  | d :: ds, h => by
    unfold noLs at h
    rw [Bool.and_eq_true] at h
    unfold eqDs
    rw [eqD_refl d h.1, eqDs_refl ds h.2]
    rfl
end
section
variable {X : Cx} {pins : List (Addr × Obj)} {σ : St} {H : Hp} {s : Shared}
mutual
theorem dat_inj (I : Inv X pins σ H s) : ∀ (d e : D) {v : V}, noL d = true → Dat X.K H d v → Dat X.K H e v → noL e = true → d = e
  | .non, e, v, hn, h, h', hn' => by
    have z := h.nonE; subst z
    cases e with
    | non => rfl
    | bl b => exact nomatch h'.blE
    | int i => exact nomatch h'.intE
    | str x => exact nomatch h'.strE
    | tup ds => obtain ⟨_, _, q, _⟩ := h'.tupE; exact nomatch q
    | lst => obtain ⟨_, _, q, _⟩ := h'.lstE; exact nomatch q
  | .bl b, e, v, hn, h, h', hn' => by
    have z := h.blE; subst z
    cases e with
    | non => exact nomatch h'.nonE
    | bl c => have q := h'.blE; injection q with q; rw [q]
    | int i => exact nomatch h'.intE
    | str x => exact nomatch h'.strE
    | tup ds => obtain ⟨_, _, q, _⟩ := h'.tupE; exact nomatch q
    | lst => obtain ⟨_, _, q, _⟩ := h'.lstE; exact nomatch q
  | .int i, e, v, hn, h, h', hn' => by
    have z := h.intE; subst z
    cases e with
    | non => exact nomatch h'.nonE
    | bl c => exact nomatch h'.blE
    | int j => have q := h'.intE; injection q with q; rw [q]
    | str x => exact nomatch h'.strE
    | tup ds => obtain ⟨_, _, q, _⟩ := h'.tupE; exact nomatch q
    | lst => obtain ⟨_, _, q, _⟩ := h'.lstE; exact nomatch q
  | .str x, e, v, hn, h, h', hn' => by
    have z := h.strE; subst z
    cases e with
    | non => exact nomatch h'.nonE
    | bl c => exact nomatch h'.blE
    | int j => exact nomatch h'.intE
    | str y => have q := h'.strE; injection q with q; rw [q]
    | tup ds => obtain ⟨_, _, q, _⟩ := h'.tupE; exact nomatch q
    | lst => obtain ⟨_, _, q, _⟩ := h'.lstE; exact nomatch q
  | .tup ds, e, v, hn, h, h', hn' => by
    obtain ⟨a, vs, z, q, r⟩ := h.tupE
    subst z
    cases e with
    | non => exact nomatch h'.nonE
    | bl c => exact nomatch h'.blE
    | int j => exact nomatch h'.intE
    | str y => exact nomatch h'.strE
    | tup es =>
      obtain ⟨a', vs', z, q', r'⟩ := h'.tupE
      cases z
      have ev := I.tuple_inj q q'
      subst ev
      unfold noL at hn hn'
      rw [dats_inj I ds es hn r r' hn']
    | lst => unfold noL at hn'; cases hn'
  | .lst, e, v, hn, h, h', hn' => by unfold noL at hn; cases hn
theorem dats_inj (I : Inv X pins σ H s) : ∀ (ds es : List D) {vs : List V}, noLs ds = true → Dats X.K H ds vs → Dats X.K H es vs → noLs es = true → ds = es
  | [], es, vs, _, h, h', _ => by
    have z := h.nilE; subst z
    cases es with
    | nil => rfl
    | cons e es => obtain ⟨_, _, q, _⟩ := h'.consE; exact nomatch q
  | d :: ds, es, vs, hn, h, h', hn' => by
    obtain ⟨v, r, z, h1, h2⟩ := h.consE
    subst z
    cases es with
    | nil => exact nomatch h'.nilE
    | cons e es =>
      obtain ⟨v', r', z, h1', h2'⟩ := h'.consE
      injection z with z1 z2
      subst z1 z2
      unfold noLs at hn hn'
      rw [Bool.and_eq_true] at hn hn'
      rw [dat_inj I d e hn.1 h1 h1' hn'.1, dats_inj I ds es hn.2 h2 h2' hn'.2]
end
end
theorem in1_units (A : Around) : A.in1.units = A.units + 1 := rfl
section
variable {X : Cx} {pins : List (Addr × Obj)} {σ : St} {H : Hp} {s : Shared}
theorem deepDs_get : ∀ {ds : List D} {j : Nat} {d : D}, ds[j]? = some d → deepD d ≤ deepDs ds
  | [], _, _, e => by simp at e
  | d0 :: ds, 0, d, e => by simp at e; subst e; unfold deepDs; exact Nat.le_max_left _ _
  | d0 :: ds, j + 1, d, e => by
    have q := deepDs_get (ds := ds) (j := j) (d := d) (by simpa using e)
    unfold deepDs
    exact Nat.le_trans q (Nat.le_max_right _ _)
theorem noLs_get : ∀ {ds : List D} {j : Nat} {d : D}, noLs ds = true → ds[j]? = some d → noL d = true
  | [], _, _, _, e => by simp at e
  | d0 :: ds, 0, d, h, e => by simp at e; subst e; unfold noLs at h; rw [Bool.and_eq_true] at h; exact h.1
  | d0 :: ds, j + 1, d, h, e => by
    unfold noLs at h
    rw [Bool.and_eq_true] at h
    exact noLs_get (ds := ds) (j := j) (d := d) h.2 (by simpa using e)
/-- at the items of two sequences -/
theorem eqAt_items {A : Around} {ds es : List D} {xs ys : List V} {us ws : List Value} (n : Nat)
    (all : ∀ (d e : D) (x y : V) (u w : Value), deepD d ≤ n → noL d = true → noL e = true → Dat X.K H d x → Dat X.K H e y → RelV x u → RelV y w → SeqAt.EqAt A s u w (eqD d e))
    (hn : deepDs ds ≤ n) (h1 : noLs ds = true) (h2 : noLs es = true) (r1 : Dats X.K H ds xs) (r2 : Dats X.K H es ys) (v1 : Vals xs us) (v2 : Vals ys ws) :
    ∀ j (k1 : j < us.toArray.size) (k2 : j < ws.toArray.size), SeqAt.EqAt A s us.toArray[j] ws.toArray[j] (eAt ds es j) := by
  intro j k1 k2
  have l1 : j < xs.length := by rw [v1.length]; simpa using k1
  have l2 : j < ys.length := by rw [v2.length]; simpa using k2
  obtain ⟨u, eu, ru⟩ := v1.get (i := j) (x := xs[j]) (List.getElem?_eq_getElem l1)
  obtain ⟨w, ew, rw'⟩ := v2.get (i := j) (x := ys[j]) (List.getElem?_eq_getElem l2)
  obtain ⟨d, ed, qd⟩ := r1.getV (i := j) (v := xs[j]) (List.getElem?_eq_getElem l1)
  obtain ⟨e, ee, qe⟩ := r2.getV (i := j) (v := ys[j]) (List.getElem?_eq_getElem l2)
  have z1 : us.toArray[j] = u := by
    have : us[j]? = some u := eu
    have k1' : j < us.length := by simpa using k1
    rw [List.getElem?_eq_getElem k1'] at this
    simpa using Option.some.inj this
  have z2 : ws.toArray[j] = w := by
    have : ws[j]? = some w := ew
    have k2' : j < ws.length := by simpa using k2
    rw [List.getElem?_eq_getElem k2'] at this
    simpa using Option.some.inj this
  have z3 : eAt ds es j = eqD d e := by unfold eAt; rw [ed, ee]
  rw [z1, z2, z3]
  exact all d e _ _ u w (Nat.le_trans (deepDs_get ed) hn) (noLs_get h1 ed) (noLs_get h2 ee) qd qe ru rw'
theorem rcAt_tup {A : Around} {ds es : List D} {a b : Addr} {xs ys : List V} (I : Inv X pins σ H s) (hu : A.units < cLine) (n : Nat)
    (all : ∀ (d e : D) (x y : V) (u w : Value), deepD d ≤ n → noL d = true → noL e = true → Dat X.K H d x → Dat X.K H e y → RelV x u → RelV y w → SeqAt.EqAt A.in1 s u w (eqD d e))
    (hn : deepDs ds ≤ n) (h1 : noLs ds = true) (h2 : noLs es = true) (r1 : Dats X.K H ds xs) (r2 : Dats X.K H es ys) (q1 : SqT X.K H a xs) (q2 : SqT X.K H b ys) :
    SeqAt.RcAt A s (.ref a) (.ref b) (eqDs ds es) ∧ SeqAt.RcNeAt A s (.ref a) (.ref b) (!eqDs ds es) := by
  obtain ⟨us, v1, t1, _⟩ := I.tuple q1
  obtain ⟨ws, v2, t2, _⟩ := I.tuple q2
  have hi := eqAt_items (X := X) (H := H) (s := s) n all hn h1 h2 r1 r2 v1 v2
  have p := SeqAt.RcAt.tuples (show s.heap.IsTuple a us.toArray from t1) (show s.heap.IsTuple b ws.toArray from t2) hu hi
  have p' := SeqAt.RcNeAt.tuples (show s.heap.IsTuple a us.toArray from t1) (show s.heap.IsTuple b ws.toArray from t2) hu hi
  have e1 : us.toArray.size = ds.length := by rw [List.size_toArray, ← v1.length, r1.length]
  have e2 : ws.toArray.size = es.length := by rw [List.size_toArray, ← v2.length, r2.length]
  rw [e1, e2, eqDs_range] at p p'
  exact ⟨p, p'⟩
/-- two data are compared, as items are -/
theorem eqAt_D (I : Inv X pins σ H s) : ∀ (n : Nat) (A : Around) (d e : D) (x y : V) (u w : Value), A.units + n + 1 < cLine → deepD d ≤ n → noL d = true → noL e = true → Dat X.K H d x → Dat X.K H e y → RelV x u → RelV y w → SeqAt.EqAt A s u w (eqD d e) := by
  intro n
  induction n with
  | zero =>
    intro A d e x y u w hu hn h1 h2 q1 q2 r1 r2
    exact base I A d e x y u w (by omega) h1 h2 q1 q2 r1 r2 fun ds es a b xs ys ed ee => by
      subst ed
      unfold deepD at hn
      omega
  | succ n ih =>
    intro A d e x y u w hu hn h1 h2 q1 q2 r1 r2
    refine base I A d e x y u w (by omega) h1 h2 q1 q2 r1 r2 fun ds es a b xs ys ed ee t1 t2 s1 s2 hne => ?_
    subst ed ee
    unfold deepD at hn
    unfold noL at h1 h2
    have p := (rcAt_tup (A := A) (ds := ds) (es := es) I (by omega) n (fun d e x y u w k1 k2 k3 k4 k5 k6 k7 => ih A.in1 d e x y u w (by rw [in1_units]; omega) k1 k2 k3 k4 k5 k6 k7) (by omega) h1 h2 t1 t2 s1 s2).1
    unfold eqD
    exact .of_refs hne p
where
  base (I : Inv X pins σ H s) (A : Around) (d e : D) (x y : V) (u w : Value) (hu : A.units < cLine) (h1 : noL d = true) (h2 : noL e = true) (q1 : Dat X.K H d x) (q2 : Dat X.K H e y) (r1 : RelV x u) (r2 : RelV y w)
      (tt : ∀ (ds es : List D) (a b : Addr) (xs ys : List V), d = .tup ds → e = .tup es → Dats X.K H ds xs → Dats X.K H es ys → SqT X.K H a xs → SqT X.K H b ys → a ≠ b → SeqAt.EqAt A s (.ref a) (.ref b) (eqD (.tup ds) (.tup es))) :
      SeqAt.EqAt A s u w (eqD d e) := by
    cases d with
    | lst => unfold noL at h1; cases h1
    | non =>
      have z := q1.nonE; subst z; cases r1
      cases e with
      | lst => unfold noL at h2; cases h2
      | non => have z := q2.nonE; subst z; cases r2; unfold eqD; exact SeqAt.EqAt.same _
      | bl b => have z := q2.blE; subst z; cases r2; unfold eqD; exact SeqAt.EqAt.none_bool b
      | int i => have z := q2.intE; subst z; obtain ⟨t, rfl⟩ := r2; unfold eqD; exact SeqAt.EqAt.none_int i t
      | str i => have z := q2.strE; subst z; obtain ⟨t, rfl⟩ := r2; unfold eqD; exact SeqAt.EqAt.none_str i t
      | tup es => obtain ⟨b, ys, z, s2, t2⟩ := q2.tupE; subst z; cases r2; obtain ⟨ws, v2, p2, _⟩ := I.tuple s2; unfold eqD; exact SeqAt.EqAt.none_tuple (show s.heap.IsTuple b ws.toArray from p2) hu
    | bl c =>
      have z := q1.blE; subst z; cases r1
      cases e with
      | lst => unfold noL at h2; cases h2
      | non => have z := q2.nonE; subst z; cases r2; unfold eqD; exact SeqAt.EqAt.bool_none c
      | bl b => have z := q2.blE; subst z; cases r2; unfold eqD; exact SeqAt.EqAt.bool_bool c b
      | int i => have z := q2.intE; subst z; obtain ⟨t, rfl⟩ := r2; unfold eqD; exact SeqAt.EqAt.bool_int c i t
      | str i => have z := q2.strE; subst z; obtain ⟨t, rfl⟩ := r2; unfold eqD; exact SeqAt.EqAt.bool_str c i t
      | tup es => obtain ⟨b, ys, z, s2, t2⟩ := q2.tupE; subst z; cases r2; obtain ⟨ws, v2, p2, _⟩ := I.tuple s2; unfold eqD; exact SeqAt.EqAt.bool_tuple c (show s.heap.IsTuple b ws.toArray from p2) hu
    | int c =>
      have z := q1.intE; subst z; obtain ⟨tc, rfl⟩ := r1
      cases e with
      | lst => unfold noL at h2; cases h2
      | non => have z := q2.nonE; subst z; cases r2; unfold eqD; exact SeqAt.EqAt.int_none c tc
      | bl b => have z := q2.blE; subst z; cases r2; unfold eqD; exact SeqAt.EqAt.int_bool c tc b
      | int i => have z := q2.intE; subst z; obtain ⟨t, rfl⟩ := r2; unfold eqD; exact SeqAt.EqAt.int_int c tc i t
      | str i => have z := q2.strE; subst z; obtain ⟨t, rfl⟩ := r2; unfold eqD; exact SeqAt.EqAt.int_str c tc i t
      | tup es => obtain ⟨b, ys, z, s2, t2⟩ := q2.tupE; subst z; cases r2; obtain ⟨ws, v2, p2, _⟩ := I.tuple s2; unfold eqD; exact SeqAt.EqAt.int_tuple c tc (show s.heap.IsTuple b ws.toArray from p2) hu
    | str c =>
      have z := q1.strE; subst z; obtain ⟨tc, rfl⟩ := r1
      cases e with
      | lst => unfold noL at h2; cases h2
      | non => have z := q2.nonE; subst z; cases r2; unfold eqD; exact SeqAt.EqAt.str_none c tc
      | bl b => have z := q2.blE; subst z; cases r2; unfold eqD; exact SeqAt.EqAt.str_bool c tc b
      | int i => have z := q2.intE; subst z; obtain ⟨t, rfl⟩ := r2; unfold eqD; exact SeqAt.EqAt.str_int c tc i t
      | str i => have z := q2.strE; subst z; obtain ⟨t, rfl⟩ := r2; unfold eqD; exact SeqAt.EqAt.str_str c tc i t
      | tup es => obtain ⟨b, ys, z, s2, t2⟩ := q2.tupE; subst z; cases r2; obtain ⟨ws, v2, p2, _⟩ := I.tuple s2; unfold eqD; exact SeqAt.EqAt.str_tuple c tc (show s.heap.IsTuple b ws.toArray from p2) hu
    | tup ds =>
      have q1' := q1
      obtain ⟨a, xs, z, s1, t1⟩ := q1.tupE; subst z; cases r1; obtain ⟨us, v1, p1, _⟩ := I.tuple s1
      have p1' : s.heap.IsTuple a us.toArray := p1
      cases e with
      | lst => unfold noL at h2; cases h2
      | non => have z := q2.nonE; subst z; cases r2; unfold eqD; exact SeqAt.EqAt.tuple_none p1' hu
      | bl b => have z := q2.blE; subst z; cases r2; unfold eqD; exact SeqAt.EqAt.tuple_bool b p1' hu
      | int i => have z := q2.intE; subst z; obtain ⟨t, rfl⟩ := r2; unfold eqD; exact SeqAt.EqAt.tuple_int i t p1' hu
      | str i => have z := q2.strE; subst z; obtain ⟨t, rfl⟩ := r2; unfold eqD; exact SeqAt.EqAt.tuple_str i t p1' hu
      | tup es =>
        have q2' := q2
        obtain ⟨b, ys, z, s2, t2⟩ := q2.tupE; subst z; cases r2
        by_cases hab : a = b
        · subst hab
          have ee := dat_inj I (.tup ds) (.tup es) h1 q1' q2' h2
          rw [← ee, eqD_refl _ h1]
          exact SeqAt.EqAt.same _
        · exact tt ds es a b xs ys rfl rfl t1 t2 s1 s2 hab
/-- == and != of data -/
theorem rc_D (I : Inv X pins σ H s) (n : Nat) (A : Around) (d e : D) (x y : V) (u w : Value) (hu : A.units + n + 2 < cLine) (hn : deepD d ≤ n + 1) (h1 : noL d = true) (h2 : noL e = true) (q1 : Dat X.K H d x) (q2 : Dat X.K H e y) (r1 : RelV x u) (r2 : RelV y w) :
    SeqAt.RcAt A s u w (eqD d e) ∧ SeqAt.RcNeAt A s u w (!eqD d e) := by
  have hu' : A.units < cLine := by omega
  cases d with
  | lst => unfold noL at h1; cases h1
  | non =>
    have z := q1.nonE; subst z; cases r1
    cases e with
    | lst => unfold noL at h2; cases h2
    | non => have z := q2.nonE; subst z; cases r2; unfold eqD; exact ⟨SeqAt.RcAt.none_none, SeqAt.RcNeAt.none_none⟩
    | bl b => have z := q2.blE; subst z; cases r2; unfold eqD; exact ⟨SeqAt.RcAt.none_bool b, SeqAt.RcNeAt.none_bool b⟩
    | int i => have z := q2.intE; subst z; obtain ⟨t, rfl⟩ := r2; unfold eqD; exact ⟨SeqAt.RcAt.none_int i t, SeqAt.RcNeAt.none_int i t⟩
    | str i => have z := q2.strE; subst z; obtain ⟨t, rfl⟩ := r2; unfold eqD; exact ⟨SeqAt.RcAt.none_str i t, SeqAt.RcNeAt.none_str i t⟩
    | tup es => obtain ⟨b, ys, z, s2, t2⟩ := q2.tupE; subst z; cases r2; obtain ⟨ws, v2, p2, _⟩ := I.tuple s2; unfold eqD; exact ⟨SeqAt.RcAt.none_tuple (show s.heap.IsTuple b ws.toArray from p2) hu', SeqAt.RcNeAt.none_tuple (show s.heap.IsTuple b ws.toArray from p2) hu'⟩
  | bl c =>
    have z := q1.blE; subst z; cases r1
    cases e with
    | lst => unfold noL at h2; cases h2
    | non => have z := q2.nonE; subst z; cases r2; unfold eqD; exact ⟨SeqAt.RcAt.bool_none c, SeqAt.RcNeAt.bool_none c⟩
    | bl b => have z := q2.blE; subst z; cases r2; unfold eqD; exact ⟨SeqAt.RcAt.bool_bool c b, SeqAt.RcNeAt.bool_bool c b⟩
    | int i => have z := q2.intE; subst z; obtain ⟨t, rfl⟩ := r2; unfold eqD; exact ⟨SeqAt.RcAt.bool_int c i t, SeqAt.RcNeAt.bool_int c i t⟩
    | str i => have z := q2.strE; subst z; obtain ⟨t, rfl⟩ := r2; unfold eqD; exact ⟨SeqAt.RcAt.bool_str c i t, SeqAt.RcNeAt.bool_str c i t⟩
    | tup es => obtain ⟨b, ys, z, s2, t2⟩ := q2.tupE; subst z; cases r2; obtain ⟨ws, v2, p2, _⟩ := I.tuple s2; unfold eqD; exact ⟨SeqAt.RcAt.bool_tuple c (show s.heap.IsTuple b ws.toArray from p2) hu', SeqAt.RcNeAt.bool_tuple c (show s.heap.IsTuple b ws.toArray from p2) hu'⟩
  | int c =>
    have z := q1.intE; subst z; obtain ⟨tc, rfl⟩ := r1
    cases e with
    | lst => unfold noL at h2; cases h2
    | non => have z := q2.nonE; subst z; cases r2; unfold eqD; exact ⟨SeqAt.RcAt.int_none c tc, SeqAt.RcNeAt.int_none c tc⟩
    | bl b => have z := q2.blE; subst z; cases r2; unfold eqD; exact ⟨SeqAt.RcAt.int_bool c tc b, SeqAt.RcNeAt.int_bool c tc b⟩
    | int i => have z := q2.intE; subst z; obtain ⟨t, rfl⟩ := r2; unfold eqD; exact ⟨SeqAt.RcAt.int_int c tc i t, SeqAt.RcNeAt.int_int c tc i t⟩
    | str i => have z := q2.strE; subst z; obtain ⟨t, rfl⟩ := r2; unfold eqD; exact ⟨SeqAt.RcAt.int_str c tc i t, SeqAt.RcNeAt.int_str c tc i t⟩
    | tup es => obtain ⟨b, ys, z, s2, t2⟩ := q2.tupE; subst z; cases r2; obtain ⟨ws, v2, p2, _⟩ := I.tuple s2; unfold eqD; exact ⟨SeqAt.RcAt.int_tuple c tc (show s.heap.IsTuple b ws.toArray from p2) hu', SeqAt.RcNeAt.int_tuple c tc (show s.heap.IsTuple b ws.toArray from p2) hu'⟩
  | str c =>
    have z := q1.strE; subst z; obtain ⟨tc, rfl⟩ := r1
    cases e with
    | lst => unfold noL at h2; cases h2
    | non => have z := q2.nonE; subst z; cases r2; unfold eqD; exact ⟨SeqAt.RcAt.str_none c tc, SeqAt.RcNeAt.str_none c tc⟩
    | bl b => have z := q2.blE; subst z; cases r2; unfold eqD; exact ⟨SeqAt.RcAt.str_bool c tc b, SeqAt.RcNeAt.str_bool c tc b⟩
    | int i => have z := q2.intE; subst z; obtain ⟨t, rfl⟩ := r2; unfold eqD; exact ⟨SeqAt.RcAt.str_int c tc i t, SeqAt.RcNeAt.str_int c tc i t⟩
    | str i => have z := q2.strE; subst z; obtain ⟨t, rfl⟩ := r2; unfold eqD; exact ⟨SeqAt.RcAt.str_str c tc i t, SeqAt.RcNeAt.str_str c tc i t⟩
    | tup es => obtain ⟨b, ys, z, s2, t2⟩ := q2.tupE; subst z; cases r2; obtain ⟨ws, v2, p2, _⟩ := I.tuple s2; unfold eqD; exact ⟨SeqAt.RcAt.str_tuple c tc (show s.heap.IsTuple b ws.toArray from p2) hu', SeqAt.RcNeAt.str_tuple c tc (show s.heap.IsTuple b ws.toArray from p2) hu'⟩
  | tup ds =>
    obtain ⟨a, xs, z, s1, t1⟩ := q1.tupE; subst z; cases r1; obtain ⟨us, v1, p1, _⟩ := I.tuple s1
    have p1' : s.heap.IsTuple a us.toArray := p1
    cases e with
    | lst => unfold noL at h2; cases h2
    | non => have z := q2.nonE; subst z; cases r2; unfold eqD; exact ⟨SeqAt.RcAt.tuple_none p1' hu', SeqAt.RcNeAt.tuple_none p1' hu'⟩
    | bl b => have z := q2.blE; subst z; cases r2; unfold eqD; exact ⟨SeqAt.RcAt.tuple_bool b p1' hu', SeqAt.RcNeAt.tuple_bool b p1' hu'⟩
    | int i => have z := q2.intE; subst z; obtain ⟨t, rfl⟩ := r2; unfold eqD; exact ⟨SeqAt.RcAt.tuple_int i t p1' hu', SeqAt.RcNeAt.tuple_int i t p1' hu'⟩
    | str i => have z := q2.strE; subst z; obtain ⟨t, rfl⟩ := r2; unfold eqD; exact ⟨SeqAt.RcAt.tuple_str i t p1' hu', SeqAt.RcNeAt.tuple_str i t p1' hu'⟩
    | tup es =>
      obtain ⟨b, ys, z, s2, t2⟩ := q2.tupE; subst z; cases r2
      unfold deepD at hn
      unfold noL at h1 h2
      unfold eqD
      exact rcAt_tup (A := A) (ds := ds) (es := es) I hu' n (fun d e x y u w k1 k2 k3 k4 k5 k6 k7 => eqAt_D I n A.in1 d e x y u w (by rw [in1_units]; omega) k1 k2 k3 k4 k5 k6 k7) (by omega) h1 h2 t1 t2 s1 s2
/-- two lists of data -/
theorem rc_L (I : Inv X pins σ H s) (n : Nat) (A : Around) (ds es : List D) (a b : Addr) (xs ys : List V) (hu : A.units + n + 2 < cLine) (hn : deepDs ds ≤ n) (h1 : noLs ds = true) (h2 : noLs es = true) (q1 : SqL X.K H a xs) (q2 : SqL X.K H b ys) (r1 : Dats X.K H ds xs) (r2 : Dats X.K H es ys) :
    SeqAt.RcAt A s (.ref a) (.ref b) (eqDs ds es) ∧ SeqAt.RcNeAt A s (.ref a) (.ref b) (!eqDs ds es) := by
  have hu' : A.units < cLine := by omega
  obtain ⟨us, v1, p1, _⟩ := I.list q1
  obtain ⟨ws, v2, p2, _⟩ := I.list q2
  have e1 : us.toArray.size = ds.length := by rw [List.size_toArray, ← v1.length, r1.length]
  have e2 : ws.toArray.size = es.length := by rw [List.size_toArray, ← v2.length, r2.length]
  have hi := eqAt_items (X := X) (H := H) (s := s) (A := A.in1) n (fun d e x y u w k1 k2 k3 k4 k5 k6 k7 => eqAt_D I n A.in1 d e x y u w (by rw [in1_units]; omega) k1 k2 k3 k4 k5 k6 k7) hn h1 h2 r1 r2 v1 v2
  by_cases hl : ds.length = es.length
  · have hsz : us.toArray.size = ws.toArray.size := by rw [e1, e2, hl]
    have p := SeqAt.RcAt.lists p1.isList p2.isList hsz hu' hi
    have p' := SeqAt.RcNeAt.lists p1.isList p2.isList hsz hu' hi
    rw [e1, eqDs_rangeL hl] at p p'
    exact ⟨p, p'⟩
  · have hsz : (us.toArray.size != ws.toArray.size) = true := by rw [e1, e2]; simpa using hl
    have z : eqDs ds es = false := by
      rw [← eqDs_range]
      have : (ds.length == es.length) = false := by simpa using hl
      rw [this, Bool.and_false]
    rw [z]
    exact ⟨SeqAt.RcAt.lists_lengths p1.isList p2.isList hsz hu', SeqAt.RcNeAt.lists_lengths p1.isList p2.isList hsz hu'⟩
end
section
variable {X : Cx} {k : Nat}
def rEqD (K : PySem.W.Frag) (neg : Bool) : R2 := fun x y H Q => ∃ d e, Dat K H d x ∧ Dat K H e y ∧ noL d = true ∧ noL e = true ∧ deepD d ≤ 20 ∧ Q (.bl (if neg then !eqD d e else eqD d e)) H
theorem op_eqD (hr : Room k X.A) : OpR X (compareOp .Eq) (rEqD X.K false) := by
  intro pins s σ H x y v u Q I rx ry h
  obtain ⟨d, e, q1, q2, h1, h2, hn, q⟩ := h
  have hu : X.A.units + 19 + 2 < cLine := by have := hr.un; omega
  exact (rc_D I 19 X.A d e x y v u hu (by omega) h1 h2 q1 q2 rx ry).1 _ _ _ _ ⟨.bl _, H, I, rfl, q⟩
theorem op_neD (hr : Room k X.A) : OpR X (compareOp .NotEq) (rEqD X.K true) := by
  intro pins s σ H x y v u Q I rx ry h
  obtain ⟨d, e, q1, q2, h1, h2, hn, q⟩ := h
  have hu : X.A.units + 19 + 2 < cLine := by have := hr.un; omega
  exact (rc_D I 19 X.A d e x y v u hu (by omega) h1 h2 q1 q2 rx ry).2 _ _ _ _ ⟨.bl _, H, I, rfl, q⟩
def rEqL (K : PySem.W.Frag) (neg : Bool) : R2 := fun x y H Q => ∃ a b xs ys ds es, x = .ref a ∧ y = .ref b ∧ SqL K H a xs ∧ SqL K H b ys ∧ Dats K H ds xs ∧ Dats K H es ys ∧ noLs ds = true ∧ noLs es = true ∧ deepDs ds ≤ 20 ∧ Q (.bl (if neg then !eqDs ds es else eqDs ds es)) H
theorem op_eqL (hr : Room k X.A) : OpR X (compareOp .Eq) (rEqL X.K false) := by
  intro pins s σ H x y v u Q I rx ry h
  obtain ⟨a, b, xs, ys, ds, es, ex, ey, q1, q2, r1, r2, h1, h2, hn, q⟩ := h
  subst ex ey
  cases rx
  cases ry
  have hu : X.A.units + 20 + 2 < cLine := by have := hr.un; omega
  exact (rc_L I 20 X.A ds es a b xs ys hu hn h1 h2 q1 q2 r1 r2).1 _ _ _ _ ⟨.bl _, H, I, rfl, q⟩

/-! ### isinstance against a built-in type -/
def tyD : D → String
  | .non => "NoneType"
  | .bl _ => "bool"
  | .int _ => "int"
  | .str _ => "str"
  | .tup _ => "tuple"
  | .lst => "list"
/-- T is one of int, bool, str, tuple, list -/
def isiD (d : D) (T : String) : Bool := tyD d == T || (tyD d == "bool" && T == "int")
theorem call_isi {T : String} (hk : ∀ d : D, PySem.W.kitOne X.K (.type (tyD d)) (.type T) = some (isiD d T)) :
    CallR X (.builtin "isinstance") (fun xs H Q => ∃ x d, xs = [x, .ty T] ∧ Dat X.K H d x ∧ Q (.bl (isiD d T)) H) := by
  intro pins s σ H xs us Q I r h
  obtain ⟨x, d, e, q, h⟩ := h
  subst e
  obtain ⟨u, c, e, ru, rc⟩ := vals2 r
  subst e
  cases (show c = Value.type T from rc)
  have fin : ∀ tk, EP X pins σ Q (.bool (isiD d T)) { s with toks := tk } := fun tk => ⟨.bl _, H, I.tok tk, rfl, h⟩
  have kd := hk d
  cases d with
  | non => have z := q.nonE; subst z; cases ru; exact PySem.W.kia_one PySem.W.kitx_none I.kIn True.intro kd (fun z => nomatch z) fin
  | bl b => have z := q.blE; subst z; cases ru; exact PySem.W.kia_one PySem.W.kitx_bool I.kIn True.intro kd (fun z => nomatch z) fin
  | int i => have z := q.intE; subst z; obtain ⟨t, rfl⟩ := ru; exact PySem.W.kia_one PySem.W.kitx_int I.kIn True.intro kd (fun z => nomatch z) fin
  | str y => have z := q.strE; subst z; obtain ⟨t, rfl⟩ := ru; exact PySem.W.kia_one PySem.W.kitx_str I.kIn True.intro kd (fun z => nomatch z) fin
  | tup ds =>
    obtain ⟨a, vs, z, sq, _⟩ := q.tupE
    subst z
    cases ru
    obtain ⟨its, _, ⟨o, e1, e2, _⟩, _⟩ := I.tuple sq
    exact PySem.W.kia_one PySem.W.kitx_tuple I.kIn ⟨o, e1, e2⟩ kd (fun z => nomatch z) fin
  | lst =>
    obtain ⟨a, vs, z, sq⟩ := q.lstE
    subst z
    cases ru
    obtain ⟨its, _, ⟨o, _, e1, e2, _⟩, _⟩ := I.list sq
    exact PySem.W.kia_one PySem.W.kitx_list I.kIn ⟨o, e1, e2⟩ kd (fun z => nomatch z) fin
end

/-! ### tables of the module: texts to ints -/
def TabK (K : PySem.W.Frag) (a : Addr) (T : List (Str × KTD.Dat)) : Prop := ∀ h : Heap, K.In h → KTD.TextTab h a T
section
variable {X : Cx}
theorem op_inTab : OpR X (compareOp .In) (fun x y H Q => ∃ k a T, x = .str k ∧ y = .ref a ∧ TabK X.K a T ∧ Q (.bl (KTD.inKeys k T)) H) := by
  intro pins s σ H x y v u Q I rx ry h
  obtain ⟨k, a, T, ex, ey, t, q⟩ := h
  subst ex ey
  obtain ⟨tk, rfl⟩ := rx
  cases ry
  exact KTD.in_text (h₀ := s.heap) ⟨t _ I.kIn, fun _ _ e => e⟩ ⟨.bl _, H, I.tok _, rfl, q⟩
def rIxTab (K : PySem.W.Frag) : R2 := fun x y H Q => ∃ a k T i, x = .ref a ∧ y = .str k ∧ TabK K a T ∧ (T.all fun p => KTD.plain p.2) = true ∧ KTD.datumAt k T = some (.flat (.int i)) ∧ Q (.int i) H
theorem ix_tab : IxR X (rIxTab X.K) := by
  intro value slice pins s σ H x y v u Q I rx ry h hs
  obtain ⟨a, k, T, i, ex, ey, t, hp, hd, q⟩ := h
  subst ex ey
  obtain ⟨tk, rfl⟩ := ry
  cases rx
  have hm : KTD.inKeys k T = true := by rw [← KTD.isSome_datumAt, hd]; rfl
  refine KTD.item_textA (h₀ := s.heap) ⟨t _ I.kIn, fun _ _ e => e⟩ hp hm ?_ hs
  exact each T hd fun v hv => by
    obtain ⟨t', rfl⟩ := PyProof.V.Flat.int_inv hv
    exact ⟨.int i, H, I.tok _, ⟨t', rfl⟩, q⟩
where
  each {h : Heap} {k : Str} {P : Value → Prop} {i : Int} : ∀ (T : List (Str × KTD.Dat)), KTD.datumAt k T = some (.flat (.int i)) → (∀ v, PyProof.V.Flat v (.int i) → P v) → KTD.EachL h k P T
    | [], hd, _ => by simp [KTD.datumAt] at hd
    | (x, d) :: T, hd, hP => by
      have hd' : (if decide (k = x) = true then some d else KTD.datumAt k T) = some (.flat (.int i)) := hd
      by_cases hx : k = x
      · rw [if_pos (decide_eq_true hx)] at hd'
        cases hd'
        refine KTD.eachL_hit hx ?_
        exact opened hP
      · rw [if_neg (by simp [hx])] at hd'
        exact KTD.eachL_miss hx (each T hd' hP)
  opened {h : Heap} {P : Value → Prop} {i : Int} (hP : ∀ v, PyProof.V.Flat v (.int i) → P v) : KTD.Opened h P (.flat (.int i)) := by
    first
      | exact KTD.opened_int fun t => hP _ (PyProof.V.Flat.int i t)
      | exact fun t => hP _ (PyProof.V.Flat.int i t)
end
end L2
end
section
set_option Elab.async false
set_option linter.all false
set_option maxRecDepth 100000
set_option maxHeartbeats 4000000
/-! SHORT WORDS for data, draws and comprehensions. -/
namespace L2
open PySem PySem.Spec PyProof.Rows

/-! ### heaps that grow -/
section
variable {K : PySem.W.Frag} {H H' H2 : Hp}
theorem Same.sqT {a : Addr} {xs : List V} (e : Same H H') (h : SqT K H a xs) : SqT K H' a xs := by
  rcases h with (h | ⟨o, h⟩) | h
  · exact .inl (.inl (e _ _ h))
  · exact .inl (.inr ⟨o, e _ _ h⟩)
  · exact .inr h
theorem Same.grow (e : Same H H') : Grow K H H' := ⟨fun _ _ h => e.sqT h, fun _ xs h => ⟨xs, e.seq h⟩⟩
theorem Same.dat {d : D} {v : V} (e : Same H H') (h : Dat K H d v) : Dat K H' d v := Dat.mono e.grow d h
theorem Same.dats {ds : List D} {vs : List V} (e : Same H H') (h : Dats K H ds vs) : Dats K H' ds vs := Dats.mono e.grow ds h
theorem same_new {p : Addr} (h : H p = none) (o : HO) : Same H (upd H p o) := fun b u q => by rw [upd_ne (ne_of_none q h)]; exact q
/-- all but the object at t stays -/
def But (t : Addr) (H H' : Hp) : Prop := ∀ b o, b ≠ t → H b = some o → H' b = some o
theorem Same.but {t : Addr} (e : Same H H') : But t H H' := fun b o _ h => e b o h
theorem But.trans {t : Addr} (a : But t H H') (b : But t H' H2) : But t H H2 := fun c o n h => b c o n (a c o n h)
theorem But.upd {t : Addr} {o : HO} (a : But t H H') : But t H (upd H' t o) := fun b u n h => by rw [upd_ne n]; exact a b u n h
theorem But.sqT {t a : Addr} {xs : List V} {zs : List V} (e : But t H H') (ht : H t = some (.lst zs)) (h : SqT K H a xs) : SqT K H' a xs := by
  rcases h with (h | ⟨o, h⟩) | h
  · exact .inl (.inl (e _ _ (fun z => by rw [z, ht] at h; cases h) h))
  · exact .inl (.inr ⟨o, e _ _ (fun z => by rw [z, ht] at h; cases h) h⟩)
  · exact .inr h
theorem But.sqL {t a : Addr} {xs : List V} (e : But t H H') (n : a ≠ t) (h : SqL K H a xs) : SqL K H' a xs := by
  rcases h with (h | ⟨o, h⟩) | h
  · exact .inl (.inl (e _ _ n h))
  · exact .inl (.inr ⟨o, e _ _ n h⟩)
  · exact .inr h
theorem But.grow {t : Addr} {zs zs' : List V} (e : But t H H') (ht : H t = some (.lst zs)) (ht' : H' t = some (.lst zs')) : Grow K H H' :=
  ⟨fun _ _ h => e.sqT ht h, fun a xs h => by
    by_cases n : a = t
    · subst n; exact ⟨zs', SqL.of ht'⟩
    · exact ⟨xs, e.sqL n h⟩⟩
end

/-! ### isinstance: what the deciders answer -/
section
variable {K : PySem.W.Frag}
theorem hi_int (d : D) : PySem.W.kitOne K (.type (tyD d)) (.type "int") = some (isiD d "int") := by cases d <;> rfl
theorem hi_bool (d : D) : PySem.W.kitOne K (.type (tyD d)) (.type "bool") = some (isiD d "bool") := by cases d <;> rfl
theorem hi_str (d : D) : PySem.W.kitOne K (.type (tyD d)) (.type "str") = some (isiD d "str") := by cases d <;> rfl
theorem hi_tuple (d : D) : PySem.W.kitOne K (.type (tyD d)) (.type "tuple") = some (isiD d "tuple") := by cases d <;> rfl
end

/-! ### a def upon data: it makes nothing that is seen but its answer -/
def spD (K : PySem.W.Frag) (R : List D → D → Prop) : Sp := fun vs H Q _ => ∃ ds d, Dats K H ds vs ∧ R ds d ∧ ∀ v H', Same H H' → Dat K H' d v → Q v H'
theorem dats1 {K : PySem.W.Frag} {H : Hp} {a : D} {vs : List V} (h : Dats K H [a] vs) : ∃ u, vs = [u] ∧ Dat K H a u := by
  obtain ⟨u, r, e, h1, h⟩ := h.consE
  have z := h.nilE
  subst z e
  exact ⟨u, rfl, h1⟩
theorem dats2 {K : PySem.W.Frag} {H : Hp} {a b : D} {vs : List V} (h : Dats K H [a, b] vs) : ∃ u v, vs = [u, v] ∧ Dat K H a u ∧ Dat K H b v := by
  obtain ⟨u, r, e, h1, h⟩ := h.consE
  obtain ⟨v, q, h2⟩ := dats1 h
  subst q e
  exact ⟨u, v, rfl, h1, h2⟩
theorem dats3 {K : PySem.W.Frag} {H : Hp} {a b c : D} {vs : List V} (h : Dats K H [a, b, c] vs) : ∃ u v w, vs = [u, v, w] ∧ Dat K H a u ∧ Dat K H b v ∧ Dat K H c w := by
  obtain ⟨u, r, e, h1, h⟩ := h.consE
  obtain ⟨v, w, q, h2⟩ := dats2 h
  subst q e
  exact ⟨u, v, w, rfl, h1, h2⟩

/-! ### a comprehension over so many items -/
theorem set_set_none {σ : St} {j : Nat} {z : Option V} {x : Option V} : (σ.set j z).set j x = σ.set j x := by rw [List.set_set]
theorem comp_items {J : It} {n : Nat} {item : Nat → V} {j : Nat} {te : TE} {σ0 : St} {H1 : Hp} {Q : VK} (Ok : Hp → Prop)
    (go : ∀ i H', Ok H' → i < n → J.go i H' ∧ ∀ x H'', J.yld i H' x H'' → H'' = H' ∧ x = item i) (stop : ∀ H', Ok H' → J.stop n H') (h0 : σ0.set j none = σ0)
    (D : Addr) (Pn : Nat → Hp → Prop) (p0 : Pn 0 (upd H1 D (.lst []))) (ok : ∀ i H', i ≤ n → Pn i H' → Ok H')
    (turn : ∀ i H', i < n → Pn i H' → te (σ0.set j (some (item i))) H' fun v H4 => ∃ ys, H4 D = some (.lst ys) ∧ ys.length < sizeLine ∧ (∃ z, σ0.set j (some (item i)) = σ0.set j z) ∧ Pn (i + 1) (upd H4 D (.lst (ys ++ [v]))))
    (fin : ∀ H', Pn n H' → Q (.ref D) H') :
    ∃ W : Nat → Nat → St → Hp → Prop, (∃ m, W 0 m σ0 (upd H1 D (.lst []))) ∧ ∀ i m σ' H', W i m σ' H' →
      (J.stop i H' ∧ Q (.ref D) H') ∨
      (J.go i H' ∧ ∃ Nx : St → Hp → Prop, (∀ σ'' H'', Nx σ'' H'' → ∃ m', m' < m ∧ W (i + 1) m' σ'' H'') ∧ ∀ x H'', J.yld i H' x H'' → gName j x σ' H'' fun σ2 H2 => tTrue σ2 H2 fun b H3 =>
        if b = true then te σ2 H3 fun v H4 => ∃ ys, H4 D = some (.lst ys) ∧ ys.length < sizeLine ∧ Nx σ2 (upd H4 D (.lst (ys ++ [v]))) else Nx σ2 H3) := by
  refine ⟨fun i m σ' H' => m = n - i ∧ i ≤ n ∧ (∃ z, σ' = σ0.set j z) ∧ Pn i H', ⟨n, by omega, Nat.zero_le _, ⟨none, h0.symm⟩, p0⟩, ?_⟩
  rintro i m σ' H' ⟨rfl, hi, ⟨z, rfl⟩, p⟩
  have o := ok i H' hi p
  by_cases hlt : i < n
  · obtain ⟨g, y⟩ := go i H' o hlt
    refine .inr ⟨g, fun σ'' H'' => (∃ z, σ'' = σ0.set j z) ∧ Pn (i + 1) H'', fun σ'' H'' q => ⟨n - (i + 1), by omega, rfl, hlt, q.1, q.2⟩, fun x H'' yx => ?_⟩
    obtain ⟨e1, e2⟩ := y x H'' yx
    subst e1 e2
    simp only [gName, tTrue, if_true, set_set_none]
    exact turn i _ hlt p
  · have e : i = n := by omega
    subst e
    exact .inl ⟨stop H' o, fin H' p⟩
theorem go_tup {K : PySem.W.Frag} {a : Addr} {xs : List V} (i : Nat) (H' : Hp) (h : SqT K H' a xs) (hi : i < xs.length) : (Itt K a).go i H' ∧ ∀ x H'', (Itt K a).yld i H' x H'' → H'' = H' ∧ x = xs.getD i .non := by
  refine ⟨⟨xs, xs[i], h, List.getElem?_eq_getElem hi⟩, fun x H'' y => ⟨y.1, ?_⟩⟩
  have q := y.2 xs h
  rw [List.getD_eq_getElem?_getD, q]
  rfl
theorem go_rng {n : Nat} (i : Nat) (H' : Hp) (hi : i < n) : (Itr 0 n).go i H' ∧ ∀ x H'', (Itr 0 n).yld i H' x H'' → H'' = H' ∧ x = .int i := by
  refine ⟨hi, fun x H'' y => ⟨y.1, ?_⟩⟩
  have q := y.2
  rw [q]
  simp

/-! ### items, products -/
section
variable {X : Cx}
def rGetL (K : PySem.W.Frag) : V → V → Hp → VK → Prop := fun o i H Q => ∃ p xs k v, o = .ref p ∧ i = .int k ∧ 0 ≤ k ∧ SqL K H p xs ∧ xs[k.toNat]? = some v ∧ Q v H
theorem get_list : PGet X (rGetL X.K) := by
  intro pins s σ H o i ov iv Q I r1 r2 h
  obtain ⟨p, xs, k, v, eo, ei, h0, hq, he, q⟩ := h
  subst eo ei
  cases r1
  obtain ⟨t, rfl⟩ := r2
  obtain ⟨its, r, pl, hz⟩ := I.list hq
  obtain ⟨w, ew, rw'⟩ := r.get he
  have hl := r.length
  have hlt : k.toNat < xs.length := (List.getElem?_eq_some_iff.mp he).1
  have hn := line63
  exact wpAny_getItem_list pl.isList h0 (by omega) (by simpa using ew) ⟨v, H, I, rw', q⟩
theorem op_mulB : OpR X (binaryOp .Mult) (rI IntMulOk fun i j => .int (i * j)) := opI fun _ _ _ _ _ _ _ hc q => mul_int q hc
end
theorem ixN_nat {n j : Nat} (h : j < n) : ixN n (j : Int) = some j := by
  unfold ixN
  rw [if_pos (by omega), if_pos (by omega)]
  simp
theorem at0 {α : Type} {x : α} {r : List α} : atI (x :: r) 0 = some x := atI_nat (j := 0) rfl
theorem at1 {α : Type} {x y : α} {r : List α} : atI (x :: y :: r) 1 = some y := atI_nat (j := 1) rfl
theorem at2 {α : Type} {x y z : α} {r : List α} : atI (x :: y :: z :: r) 2 = some z := atI_nat (j := 2) rfl
theorem ix0 {n : Nat} : ixN (n + 1) 0 = some 0 := ixN_nat (j := 0) (by omega)
theorem ix1 {n : Nat} : ixN (n + 2) 1 = some 1 := ixN_nat (j := 1) (by omega)
theorem ix2 {n : Nat} : ixN (n + 3) 2 = some 2 := ixN_nat (j := 2) (by omega)
/-- a list of ints as data -/
theorem dats_ints {K : PySem.W.Frag} {H : Hp} : ∀ ns : List Int, Dats K H (ns.map D.int) (ns.map V.int)
  | [] => Dats.nil
  | n :: ns => Dats.cons (Dat.intI n) (dats_ints ns)
theorem noLs_ints : ∀ ns : List Int, noLs (ns.map D.int) = true
  | [] => by unfold noLs; rfl
  | n :: ns => by
    show noLs (D.int n :: ns.map D.int) = true
    unfold noLs
    rw [noLs_ints ns]
    unfold noL
    rfl
theorem deepDs_ints : ∀ ns : List Int, deepDs (ns.map D.int) = 0
  | [] => by unfold deepDs; rfl
  | n :: ns => by
    show deepDs (D.int n :: ns.map D.int) = 0
    unfold deepDs
    rw [deepDs_ints ns]
    unfold deepD
    rfl
theorem eqDs_nil (ns : List Int) : eqDs (ns.map D.int) [] = ns.isEmpty := by
  cases ns with
  | nil => unfold eqDs; rfl
  | cons n ns => show eqDs (D.int n :: ns.map D.int) [] = false; unfold eqDs; rfl
theorem small {n : Nat} (h : n ≤ 1000) : n ≤ sizeLine := Nat.le_of_lt (small1000 h)

/-- the script: known to the object, or an object of the module; never written -/
def Scr (K : PySem.W.Frag) (H : Hp) (a : Addr) (ns : List Int) : Prop := (∃ o, H a = some (.frz o (.lst (ns.map V.int)))) ∨
  ∃ (o : Obj) (its : Array Value) (n : Nat), K.lookup a = some o ∧ o.cls = .type "list" ∧ o.dict = none ∧ o.data = .seq its n ∧ its.size ≤ sizeLine ∧ Vals (ns.map V.int) its.toList
theorem Scr.sqL {K : PySem.W.Frag} {H : Hp} {a : Addr} {ns : List Int} (h : Scr K H a ns) : SqL K H a (ns.map V.int) := by
  rcases h with ⟨o, h⟩ | h
  · exact .inl (.inr ⟨o, h⟩)
  · exact .inr h
theorem Scr.but {K : PySem.W.Frag} {H H' : Hp} {a t : Addr} {ns : List Int} {zs : List V} (h : Scr K H a ns) (e : But t H H') (ht : H t = some (.lst zs)) : Scr K H' a ns := by
  rcases h with ⟨o, h⟩ | h
  · exact .inl ⟨o, e _ _ (fun z => by rw [z, ht] at h; cases h) h⟩
  · exact .inr h
theorem Scr.same {K : PySem.W.Frag} {H H' : Hp} {a : Addr} {ns : List Int} (h : Scr K H a ns) (e : Same H H') : Scr K H' a ns := by
  rcases h with ⟨o, h⟩ | h
  · exact .inl ⟨o, e _ _ h⟩
  · exact .inr h
theorem scr_of {K : PySem.W.Frag} {H : Hp} {a : Addr} {ns : List Int} (hO : Only H) (h : SqL K H a (ns.map V.int)) : Scr K H a ns := by
  rcases h with (h | ⟨o, h⟩) | h
  · rcases hO a with z | ⟨o, xs, z⟩
    · rw [h] at z; cases z
    · rw [h] at z; cases z
  · exact .inl ⟨o, h⟩
  · exact .inr h

/-! ### a draw: a number below so many, whatever the script says -/
def spDraw (K : PySem.W.Frag) : Sp := fun vs H Q _ => ∃ (a t : Addr) (ns : List Int) (m p q : Int) (rest : List V), vs = [.ref a, .ref t, .int m] ∧ Scr K H a ns ∧ H t = some (.lst (.int p :: .int q :: rest)) ∧ 0 ≤ p ∧ 0 < m ∧ m ≤ 1000000 ∧
  ∀ (r : Int) (H' : Hp) (p' q' : Int), But t H H' → H' t = some (.lst (.int p' :: .int q' :: rest)) → 0 ≤ p' → 0 ≤ r → r < m → Q (.int r) H'
end L2
end
section
set_option Elab.async false
set_option linter.all false
set_option maxRecDepth 100000
set_option maxHeartbeats 4000000
/-! READINGS BY DATA: what an expression that changes nothing is worth. -/
namespace L2
open PySem PySem.Spec PyProof.Rows

def RE (K : PySem.W.Frag) (t : TE) (σ : St) (H : Hp) (d : D) : Prop := ∀ H1, Same H H1 → ∀ Q : VK, (∀ v H', Same H1 H' → Dat K H' d v → Q v H') → t σ H1 Q
def RT (t : TT) (σ : St) (H : Hp) (b : Bool) : Prop := ∀ H1, Same H H1 → ∀ Q : Bool → Hp → Prop, (∀ H', Same H1 H' → Q b H') → t σ H1 Q
def RA (K : PySem.W.Frag) (t : TA) (σ : St) (H : Hp) (ds : List D) : Prop := ∀ H1, Same H H1 → ∀ Q : List V → Hp → Prop, (∀ vs H', Same H1 H' → Dats K H' ds vs → Q vs H') → t σ H1 Q
section
variable {K : PySem.W.Frag} {σ : St} {H H' : Hp} {d d' : D} {ds : List D} {t u ta tb : TE} {tt uu : TT} {tA : TA} {i j : Int} {b c : Bool}
theorem RE.mono (h : RE K t σ H d) (e : Same H H') : RE K t σ H' d := fun H1 s Q q => h H1 (e.trans s) Q q
theorem RE.as (h : RE K t σ H d) (e : d = d') : RE K t σ H d' := e ▸ h
theorem RT.as (h : RT tt σ H b) (e : b = c) : RT tt σ H c := e ▸ h
theorem RE.use {Q : VK} (h : RE K t σ H d) (q : ∀ v H', Same H H' → Dat K H' d v → Q v H') : t σ H Q := h H (Same.refl H) Q q
theorem RT.use {Q : Bool → Hp → Prop} (h : RT tt σ H b) (q : ∀ H', Same H H' → Q b H') : tt σ H Q := h H (Same.refl H) Q q
theorem RA.use {Q : List V → Hp → Prop} (h : RA K tA σ H ds) (q : ∀ vs H', Same H H' → Dats K H' ds vs → Q vs H') : tA σ H Q := h H (Same.refl H) Q q
/-! ### values -/
theorem re_int : RE K (tC (.int i)) σ H (.int i) := fun H1 _ Q q => q _ _ (Same.refl _) (Dat.intI i)
theorem re_str {x : Str} : RE K (tC (.str x)) σ H (.str x) := fun H1 _ Q q => q _ _ (Same.refl _) (Dat.strI x)
theorem re_bl : RE K (tC (.bl b)) σ H (.bl b) := fun H1 _ Q q => q _ _ (Same.refl _) (Dat.blI b)
theorem re_non : RE K (tC .non) σ H .non := fun H1 _ Q q => q _ _ (Same.refl _) Dat.nonI
theorem re_var {k : Nat} {v : V} (h : Dat K H d v) (e : σ[k]? = some (some v) := by rfl) : RE K (tVar k) σ H d := fun H1 s Q q => ⟨v, e, q _ _ (Same.refl _) (s.dat h)⟩
theorem ra_nil : RA K tNil σ H [] := fun H1 _ Q q => q _ _ (Same.refl _) Dats.nil
theorem ra_cons (h : RE K t σ H d) (r : RA K tA σ H ds) : RA K (tCons t tA) σ H (d :: ds) := fun H1 s Q q =>
  h H1 s _ fun v H2 s2 q2 => r H2 (s.trans s2) _ fun vs H3 s3 q3 => q _ _ (s2.trans s3) (Dats.cons (s3.dat q2) q3)
theorem re_tup (h : RA K tA σ H ds) (hl : ds.length ≤ 1000 := by simp) : RE K (tTup tA) σ H (.tup ds) := fun H1 s Q q =>
  h H1 s _ fun vs H2 s2 q2 => ⟨by rw [← q2.length]; exact small hl, fun p hp => q _ _ (s2.trans (same_new hp _)) (Dat.tupI (SqT.of upd_same) ((same_new hp _).dats q2))⟩
theorem re_un {g : Int → Int} (h : RE K t σ H (.int i)) : RE K (tUn (rU fun i => .int (g i)) t) σ H (.int (g i)) := fun H1 s Q q =>
  h H1 s _ fun v H2 s2 q2 => ⟨i, q2.intE, q _ _ s2 (Dat.intI _)⟩
theorem re_op0 {g : Int → Int → V} (h1 : RE K ta σ H (.int i)) (h2 : RE K tb σ H (.int j)) (hd : ∀ H, Dat K H d (g i j)) : RE K (tOp (rI0 g) ta tb) σ H d := fun H1 s Q q =>
  h1 H1 s _ fun v H2 s2 q2 => h2 H2 (s.trans s2) _ fun w H3 s3 q3 => ⟨i, j, q2.intE, q3.intE, q _ _ (s2.trans s3) (hd _)⟩
theorem re_opC {C : Int → Int → Prop} {g : Int → Int → V} (h1 : RE K ta σ H (.int i)) (h2 : RE K tb σ H (.int j)) (hc : C i j) (hd : ∀ H, Dat K H d (g i j)) : RE K (tOp (rI C g) ta tb) σ H d := fun H1 s Q q =>
  h1 H1 s _ fun v H2 s2 q2 => h2 H2 (s.trans s2) _ fun w H3 s3 q3 => ⟨i, j, q2.intE, q3.intE, hc, q _ _ (s2.trans s3) (hd _)⟩
theorem re_add (h1 : RE K ta σ H (.int i)) (h2 : RE K tb σ H (.int j)) : RE K (tOp (rI0 fun i j => .int (i + j)) ta tb) σ H (.int (i + j)) := re_op0 h1 h2 fun _ => Dat.intI _
theorem re_sub (h1 : RE K ta σ H (.int i)) (h2 : RE K tb σ H (.int j)) : RE K (tOp (rI0 fun i j => .int (i - j)) ta tb) σ H (.int (i - j)) := re_op0 h1 h2 fun _ => Dat.intI _
theorem re_cmp {p : Int → Int → Bool} (h1 : RE K ta σ H (.int i)) (h2 : RE K tb σ H (.int j)) : RE K (tOp (rI0 fun i j => .bl (p i j)) ta tb) σ H (.bl (p i j)) := re_op0 h1 h2 fun _ => Dat.blI _
theorem re_eqI (h1 : RE K ta σ H (.int i)) (h2 : RE K tb σ H (.int j)) : RE K (tOp rEq ta tb) σ H (.bl (decide (i = j))) := fun H1 s Q q =>
  h1 H1 s _ fun v H2 s2 q2 => h2 H2 (s.trans s2) _ fun w H3 s3 q3 => by
    rw [q2.intE, q3.intE]
    refine ⟨rfl, ?_⟩
    have e : decide (V.int i = V.int j) = decide (i = j) := by by_cases z : i = j <;> simp [z]
    rw [e]
    exact q _ _ (s2.trans s3) (Dat.blI _)
theorem re_neI (h1 : RE K ta σ H (.int i)) (h2 : RE K tb σ H (.int j)) : RE K (tOp rNe ta tb) σ H (.bl (!decide (i = j))) := fun H1 s Q q =>
  h1 H1 s _ fun v H2 s2 q2 => h2 H2 (s.trans s2) _ fun w H3 s3 q3 => by
    rw [q2.intE, q3.intE]
    refine ⟨rfl, ?_⟩
    have e : decide (V.int i = V.int j) = decide (i = j) := by by_cases z : i = j <;> simp [z]
    rw [e]
    exact q _ _ (s2.trans s3) (Dat.blI _)
theorem re_eqS {x y : Str} (h1 : RE K ta σ H (.str x)) (h2 : RE K tb σ H (.str y)) : RE K (tOp rEq ta tb) σ H (.bl (decide (x = y))) := fun H1 s Q q =>
  h1 H1 s _ fun v H2 s2 q2 => h2 H2 (s.trans s2) _ fun w H3 s3 q3 => by
    rw [q2.strE, q3.strE]
    refine ⟨rfl, ?_⟩
    have e : decide (V.str x = V.str y) = decide (x = y) := by by_cases z : x = y <;> simp [z]
    rw [e]
    exact q _ _ (s2.trans s3) (Dat.blI _)
theorem re_ix {k : Nat} (h1 : RE K ta σ H (.tup ds)) (h2 : RE K tb σ H (.int k)) (e : ds[k]? = some d) : RE K (tOp (rIxT K) ta tb) σ H d := fun H1 s Q q =>
  h1 H1 s _ fun v H2 s2 q2 => h2 H2 (s.trans s2) _ fun w H3 s3 q3 => by
    obtain ⟨a, vs, ev, hq, hd⟩ := (s3.dat q2).tupE
    obtain ⟨x, ex, hx⟩ := hd.get e
    exact ⟨a, vs, k, x, ev, q3.intE, hq, atI_nat ex, q _ _ (s2.trans s3) hx⟩
theorem re_len (h : RE K t σ H (.tup ds)) : RE K (tCB (fun xs H Q => ∃ p ys, xs = [.ref p] ∧ (SqL K H p ys ∨ SqT K H p ys) ∧ Q (.int ys.length) H) (tCons t tNil)) σ H (.int ds.length) := fun H1 s Q q =>
  h H1 s _ fun v H2 s2 q2 => by
    obtain ⟨a, vs, ev, hq, hd⟩ := q2.tupE
    subst ev
    refine ⟨a, vs, rfl, .inr hq, ?_⟩
    rw [← hd.length]
    exact q _ _ s2 (Dat.intI _)
theorem re_isi {T : String} (h : RE K t σ H d) : RE K (tCB (fun xs H Q => ∃ x d, xs = [x, .ty T] ∧ Dat K H d x ∧ Q (.bl (isiD d T)) H) (tCons t (tCons (tC (.ty T)) tNil))) σ H (.bl (isiD d T)) := fun H1 s Q q =>
  h H1 s _ fun v H2 s2 q2 => ⟨v, d, rfl, q2, q _ _ s2 (Dat.blI _)⟩
theorem re_call {R : List D → D → Prop} {E : XK} (h : RA K tA σ H ds) (e : R ds d) : RE K (tCall (spD K R) [] E tA) σ H d := fun H1 s Q q =>
  h H1 s _ fun vs H2 s2 q2 => ⟨ds, d, by rw [List.append_nil]; exact q2, e, fun v H3 s3 q3 => q _ _ (s2.trans s3) q3⟩
theorem re_inTab {k : Str} {a : Addr} {T : List (Str × KTD.Dat)} (h : RE K t σ H (.str k)) (ht : TabK K a T) : RE K (tOp (fun x y H Q => ∃ k a T, x = .str k ∧ y = .ref a ∧ TabK K a T ∧ Q (.bl (KTD.inKeys k T)) H) t (tC (.ref a))) σ H (.bl (KTD.inKeys k T)) := fun H1 s Q q =>
  h H1 s _ fun v H2 s2 q2 => ⟨k, a, T, q2.strE, rfl, ht, q _ _ s2 (Dat.blI _)⟩
theorem re_ixTab {k : Str} {a : Addr} {T : List (Str × KTD.Dat)} (h : RE K t σ H (.str k)) (ht : TabK K a T) (hp : (T.all fun p => KTD.plain p.2) = true) (e : KTD.datumAt k T = some (.flat (.int i))) : RE K (tOp (rIxTab K) (tC (.ref a)) t) σ H (.int i) := fun H1 s Q q =>
  h H1 s _ fun v H2 s2 q2 => ⟨a, k, T, i, rfl, q2.strE, ht, hp, e, q _ _ s2 (Dat.intI _)⟩
theorem sIx1 {n : Nat} : HT.sIx (n + 1) 0 (some 1) = 1 := by
  have := HT.sIx_nat (n + 1) 0 1
  simpa using this
theorem cut1 (v : V) (r : List V) : cutV (v :: r) (some 1) none = r := by
  unfold cutV
  rw [List.length_cons, sIx1, HT.sIx_none]
  simp
/-- t[1:] -/
theorem re_slice1 (h : RE K t σ H (.tup (d' :: ds))) : RE K (tSl (rSlT K) t (tPart (tC (.int 1))) tNoPart) σ H (.tup ds) := fun H1 s Q q =>
  h H1 s _ fun v H2 s2 q2 => by
    obtain ⟨a, vs, ev, hq, hd⟩ := q2.tupE
    obtain ⟨w, r, er, h1, h2⟩ := hd.consE
    subst ev er
    refine ⟨1, rfl, a, w :: r, rfl, hq, fun z => ?_, fun p hp => ?_⟩
    · rw [List.length_cons, sIx1] at z
      exact absurd z.1 (by decide)
    · rw [cut1]
      exact q _ _ (s2.trans (same_new hp _)) (Dat.tupI (SqT.of upd_same) ((same_new hp _).dats h2))
theorem re_and (h1 : RE K ta σ H (.bl b)) (h2 : b = true → RE K tb σ H (.bl c)) : RE K (tAndV ta tb) σ H (.bl (b && c)) := fun H1 s Q q =>
  h1 H1 s _ fun v H2 s2 q2 => ⟨b, q2.blE, by
    cases b with
    | true => rw [if_pos rfl]; exact h2 rfl H2 (s.trans s2) _ fun w H3 s3 q3 => q _ _ (s2.trans s3) q3
    | false => rw [if_neg Bool.false_ne_true]; exact q _ _ s2 (Dat.blI _)⟩
theorem re_not (h : RE K t σ H (.bl b)) : RE K (tNotV t) σ H (.bl (!b)) := fun H1 s Q q =>
  h H1 s _ fun v H2 s2 q2 => ⟨b, q2.blE, q _ _ s2 (Dat.blI _)⟩
theorem re_chain {p r : Int → Int → Bool} {k : Int} {tc : TE} (h1 : RE K ta σ H (.int i)) (h2 : RE K tb σ H (.int j)) (h3 : p i j = true → RE K tc σ H (.int k)) :
    RE K (tChain (rI0 fun i j => .bl (p i j)) (rI0 fun i j => .bl (r i j)) ta tb tc) σ H (.bl (p i j && r j k)) := fun H1 s Q q =>
  h1 H1 s _ fun v H2 s2 q2 => h2 H2 (s.trans s2) _ fun w H3 s3 q3 => by
    refine ⟨i, j, q2.intE, q3.intE, p i j, rfl, ?_⟩
    cases hp : p i j with
    | true =>
      simp only [if_true, Bool.true_and]
      exact h3 hp H3 (s.trans (s2.trans s3)) _ fun z H4 s4 q4 => ⟨j, k, q3.intE, q4.intE, q _ _ (s2.trans (s3.trans s4)) (by rw [hp]; exact Dat.blI _)⟩
    | false =>
      simp only [Bool.false_eq_true, if_false, Bool.false_and]
      exact q _ _ (s2.trans s3) (by rw [hp]; exact Dat.blI _)
theorem re_if (h : RT tt σ H b) (h1 : b = true → RE K ta σ H d) (h2 : b = false → RE K tb σ H d) : RE K (tIf tt ta tb) σ H d := fun H1 s Q q =>
  h H1 s _ fun H2 s2 => by
    cases b with
    | true => rw [if_pos rfl]; exact h1 rfl H2 (s.trans s2) _ fun w H3 s3 q3 => q _ _ (s2.trans s3) q3
    | false => rw [if_neg Bool.false_ne_true]; exact h2 rfl H2 (s.trans s2) _ fun w H3 s3 q3 => q _ _ (s2.trans s3) q3
/-! ### tests -/
theorem rt_test (h : RE K t σ H (.bl b)) : RT (tTest t) σ H b := fun H1 s Q q => h H1 s _ fun v H2 s2 q2 => ⟨b, q2.blE, q _ s2⟩
theorem rt_truth (h : RE K t σ H (.bl b)) : RT (fun σ H Q => t σ H fun x H' => ∃ k, TruV K x H' k ∧ Q k H') σ H b := fun H1 s Q q => h H1 s _ fun v H2 s2 q2 => by
  rw [q2.blE]
  exact ⟨b, rfl, q _ s2⟩
theorem rt_not (h : RT tt σ H b) : RT (tNot tt) σ H (!b) := fun H1 s Q q => h H1 s _ fun H2 s2 => q _ s2
theorem rt_or (h : RT tt σ H b) (h2 : b = false → RT uu σ H c) : RT (tOr tt uu) σ H (b || c) := fun H1 s Q q => h H1 s _ fun H2 s2 => by
  cases b with
  | true => rw [if_pos rfl]; exact q _ s2
  | false => rw [if_neg Bool.false_ne_true]; exact h2 rfl H2 (s.trans s2) _ fun H3 s3 => q _ (s2.trans s3)
/-! ### statements -/
theorem rs_ret {En : Ends} (h : RE K t σ H d) (q : ∀ v H', Same H H' → Dat K H' d v → En.rt v H') : tRet t En σ H := h.use q
theorem rs_set {En : Ends} {k : Nat} (h : RE K t σ H d) (q : ∀ v H', Same H H' → Dat K H' d v → En.nx (σ.set k (some v)) H') : tAsg t (gName k) En σ H := h.use q
theorem rs_if {En : Ends} {ts us : TS} (h : RT tt σ H b) (h1 : b = true → ∀ H', Same H H' → ts En σ H') (h2 : b = false → ∀ H', Same H H' → us En σ H') : tIfS tt ts us En σ H := h.use fun H' s => by
  cases b with
  | true => rw [if_pos rfl]; exact h1 rfl H' s
  | false => rw [if_neg Bool.false_ne_true]; exact h2 rfl H' s
end

/-! ### the names of built-ins -/
theorem bo_len : bootBuiltins "len" = some (.builtin "len") := by decide +kernel
theorem bo_isinstance : bootBuiltins "isinstance" = some (.builtin "isinstance") := by decide +kernel
theorem bo_all : bootBuiltins "all" = some (.builtin "all") := by decide +kernel
theorem bo_int : bootBuiltins "int" = some (.type "int") := by decide +kernel
theorem bo_bool : bootBuiltins "bool" = some (.type "bool") := by decide +kernel
theorem bo_str : bootBuiltins "str" = some (.type "str") := by decide +kernel
theorem bo_tuple : bootBuiltins "tuple" = some (.type "tuple") := by decide +kernel
theorem bo_ValueError : bootBuiltins "ValueError" = some (.type "ValueError") := by decide +kernel
/-- a list display -/
theorem rl_lst {K : PySem.W.Frag} {σ : St} {H : Hp} {tA : TA} {ds : List D} {Q : VK} (h : RA K tA σ H ds) (q : ∀ p vs H1, Same H H1 → H1 p = none → Dats K H1 ds vs → Q (.ref p) (upd H1 p (.lst vs))) (hl : ds.length ≤ 1000 := by simp) : tLst tA σ H Q :=
  h.use fun vs H1 s1 q1 => ⟨by rw [← q1.length]; exact small hl, fun p hp => q p vs H1 s1 hp q1⟩
/-- a comprehension whose element changes nothing -/
theorem comp_pure {K : PySem.W.Frag} {J : It} {n : Nat} {item : Nat → V} {j : Nat} {te : TE} {σ0 : St} {H1 : Hp} {Q : VK} (go : ∀ i H', Same H1 H' → i < n → J.go i H' ∧ ∀ x H'', J.yld i H' x H'' → H'' = H' ∧ x = item i) (stop : ∀ H', Same H1 H' → J.stop n H')
    (h0 : σ0.set j none = σ0) (es : List D) (hn : es.length = n) (hb : n ≤ 1000) (turn : ∀ i d, es[i]? = some d → RE K te (σ0.set j (some (item i))) H1 d)
    (fin : ∀ l ys H', H1 l = none → Same H1 H' → H' l = some (.lst ys) → Dats K H' es ys → Q (.ref l) H') (l : Addr) (hl : H1 l = none) :
    ∃ W : Nat → Nat → St → Hp → Prop, (∃ m, W 0 m σ0 (upd H1 l (.lst []))) ∧ ∀ i m σ' H', W i m σ' H' →
      (J.stop i H' ∧ Q (.ref l) H') ∨
      (J.go i H' ∧ ∃ Nx : St → Hp → Prop, (∀ σ'' H'', Nx σ'' H'' → ∃ m', m' < m ∧ W (i + 1) m' σ'' H'') ∧ ∀ x H'', J.yld i H' x H'' → gName j x σ' H'' fun σ2 H2 => tTrue σ2 H2 fun b H3 =>
        if b = true then te σ2 H3 fun v H4 => ∃ ys, H4 l = some (.lst ys) ∧ ys.length < sizeLine ∧ Nx σ2 (upd H4 l (.lst (ys ++ [v]))) else Nx σ2 H3) := by
  refine comp_items (fun H' => Same H1 H') go stop h0 l (fun i H' => Same H1 H' ∧ ∃ ys, H' l = some (.lst ys) ∧ Dats K H' (es.take i) ys) ?_ ?_ ?_ ?_
  · exact ⟨same_new hl _, [], upd_same, by rw [List.take_zero]; exact Dats.nil⟩
  · intro i H' _ p
    exact p.1
  · intro i H' hi ⟨s1, ys, hy, hd⟩
    have hi' : i < es.length := by omega
    refine ((turn i es[i] (List.getElem?_eq_getElem hi')).mono s1).use fun v H4 s4 q4 => ?_
    have hy4 := s4 _ _ hy
    have lys : ys.length = i := by rw [← hd.length, List.length_take]; omega
    refine ⟨ys, hy4, small1000 (by omega), ⟨_, rfl⟩, fun b o hb => ?_, ys ++ [v], upd_same, ?_⟩
    · rw [upd_ne (ne_of_none hb hl)]
      exact s4 _ _ (s1 _ _ hb)
    · have g : Grow K H4 (upd H4 l (.lst (ys ++ [v]))) := But.grow (t := l) (But.upd (Same.refl H4).but) hy4 upd_same
      rw [List.take_add_one, List.getElem?_eq_getElem hi']
      exact Dats.append (Dats.mono g _ (s4.dats hd)) (Dats.cons (Dat.mono g _ q4) Dats.nil)
  · intro H' ⟨s1, ys, hy, hd⟩
    rw [List.take_of_length_le (by omega)] at hd
    exact fin l ys H' hl s1 hy hd
/-- if c: .. (that leaves), then the rest -/
theorem rs_ifr {K : PySem.W.Frag} {σ : St} {H : Hp} {tt : TT} {b : Bool} {En : Ends} {ts us : TS} (h : RT tt σ H b) (h1 : b = true → ∀ H', Same H H' → ts { En with nx := us En } σ H') (h2 : b = false → ∀ H', Same H H' → us En σ H') : tSeq (tIfS tt ts tNext) us En σ H :=
  rs_if h h1 h2
theorem rs_setr {K : PySem.W.Frag} {σ : St} {H : Hp} {t : TE} {d : D} {En : Ends} {us : TS} {k : Nat} (h : RE K t σ H d) (q : ∀ v H', Same H H' → Dat K H' d v → us En (σ.set k (some v)) H') : tSeq (tAsg t (gName k)) us En σ H := h.use q
/-- x = e, then the rest; e, then the rest; return e -/
theorem rs_asg {σ : St} {H : Hp} {te : TE} {En : Ends} {us : TS} {k : Nat} (h : te σ H fun x H1 => us En (σ.set k (some x)) H1) : tSeq (tAsg te (gName k)) us En σ H := h
theorem rs_exp {σ : St} {H : Hp} {te : TE} {En : Ends} {us : TS} (h : te σ H fun _ H1 => us En σ H1) : tSeq (tDrop te) us En σ H := h
theorem rs_tc {σ : St} {H : Hp} {v : V} {Q : VK} (h : Q v H) : tC v σ H Q := h
theorem rs_seq {σ : St} {H : Hp} {En : Ends} {ts us : TS} (h : ts { En with nx := us En } σ H) : tSeq ts us En σ H := h
/-- a comprehension over a tuple of data -/
theorem rcomp_tup {K : PySem.W.Frag} {tl te : TE} {mk : St → St} {j : Nat} {σ : St} {H : Hp} {Q : VK} {cs : List D} (h : RE K tl σ H (.tup cs)) (hc : cs.length ≤ 1000) (es : List D) (hl : es.length = cs.length) (h0 : (mk σ).set j none = mk σ)
    (turn : ∀ H1 (i : Nat) c v d, Same H H1 → cs[i]? = some c → es[i]? = some d → Dat K H1 c v → RE K te ((mk σ).set j (some v)) H1 d)
    (fin : ∀ l ys H', H l = none → Same H H' → H' l = some (.lst ys) → Dats K H' es ys → Q (.ref l) H') : tComp (iTup K tl) mk (gName j) tTrue te σ H Q := by
  refine h.use fun v4 H4 s4 q4 => ?_
  obtain ⟨a, vs, e, hq, hd⟩ := q4.tupE
  subst e
  have l4 := hd.length
  refine ⟨a, rfl, ⟨vs, hq⟩, ?_⟩
  refine comp_pure (K := K) (Q := Q) (n := vs.length) (item := fun i => vs.getD i .non) (fun i H' s hi => go_tup i H' (s.sqT hq) hi) (fun H' s => ⟨vs, s.sqT hq, Nat.le_refl _⟩) h0 es (by omega) (by omega) (fun i d hi => ?_) (fun l ys H5 hl5 s5 => fin l ys H5 (s4.free hl5) (s4.trans s5))
  have hi' : i < es.length := (List.getElem?_eq_some_iff.mp hi).1
  have hic : i < cs.length := by omega
  obtain ⟨vz, ez, hz⟩ := hd.get (List.getElem?_eq_getElem hic)
  have q := turn H4 i cs[i] vz d s4 (List.getElem?_eq_getElem hic) hi hz
  rw [List.getD_eq_getElem?_getD, ez]
  exact q
end L2
end
section
set_option Elab.async false
set_option linter.all false
set_option maxRecDepth 100000
set_option maxHeartbeats 4000000
namespace L2
open PySem PySem.Spec PyProof.Rows
theorem rg_name {j : Nat} {v : V} {σ : St} {H : Hp} {Q : St → Hp → Prop} (h : Q (σ.set j (some v)) H) : gName j v σ H Q := h
/-- what both ways of an if come to -/
theorem rs_join {ts us : TS} {En : Ends} {σ : St} {H : Hp} (M : St → Hp → Prop) (hr : ∀ σ' H', M σ' H' → us En σ' H') (h : (∀ σ' H', M σ' H' → us En σ' H') → ts { En with nx := us En } σ H) : tSeq ts us En σ H := h hr
theorem fn_false {P : Program} {w : World} {K : PySem.W.Frag} {mg : Str → Option Value} {base : Heap} {CX : CXT} {k : Nat} {f : Addr} {fd : FuncData} {ps : List Str} {sp : Sp} (no : ∀ vs H Q E, ¬ sp vs H Q E) : FnOk P w K mg base CX k f fd ps sp :=
  ⟨fun vs H Q E h => absurd h (no vs H Q E), fun A outer s H args us vs Q E _ _ _ _ h => absurd h (no vs H Q E)⟩
/-- a comprehension over range(n), its elements drawn -/
theorem rcomp_rngI {tA : TA} {te : TE} {mk : St → St} {j : Nat} {σ : St} {H : Hp} {Q : VK} (n : Nat) (h : ∀ R : List V → Hp → Prop, R [.int n] H → tA σ H R) (hc : n ≤ 1000) (h0 : (mk σ).set j none = mk σ) (Pn : Addr → Nat → Hp → Prop)
    (p0 : ∀ l, H l = none → Pn l 0 (upd H l (.lst [])))
    (turn : ∀ l i G, H l = none → i < n → Pn l i G → te ((mk σ).set j (some (.int i))) G fun v H4 => ∃ ys, H4 l = some (.lst ys) ∧ ys.length < sizeLine ∧ (∃ z, (mk σ).set j (some (.int i)) = (mk σ).set j z) ∧ Pn l (i + 1) (upd H4 l (.lst (ys ++ [v]))))
    (fin : ∀ l G, H l = none → Pn l n G → Q (.ref l) G) : tComp (iRng1 tA) mk (gName j) tTrue te σ H Q := by
  refine h _ ⟨n, rfl, by omega, by omega, fun l hl => ?_⟩
  rw [Int.toNat_natCast]
  exact comp_items (fun _ => True) (item := fun i => .int i) (fun i H' _ hi => go_rng i H' hi) (fun H' _ => Nat.le_refl _) h0 l (Pn l) (p0 l hl) (fun _ _ _ _ => trivial) (fun i G hi p => turn l i G hl hi p) (fun G p => fin l G hl p)
theorem r_cb1 {ta : TE} {r : List V → Hp → VK → Prop} {σ : St} {H : Hp} {Q : VK} (h : ta σ H fun x H1 => r [x] H1 Q) : tCB r (tCons ta tNil) σ H Q := h
/-- a list display, seen as some list -/
theorem re_lst {K : PySem.W.Frag} {tA : TA} {σ : St} {H : Hp} {ds : List D} (h : RA K tA σ H ds) (hl : ds.length ≤ 1000 := by simp) : RE K (tLst tA) σ H .lst := fun H1 s Q q =>
  h H1 s _ fun vs H2 s2 q2 => ⟨by rw [← q2.length]; exact small hl, fun p hp => q _ _ (s2.trans (same_new hp _)) (Dat.lstI (SqL.of upd_same))⟩
/-- xs.extend([..]) -/
theorem rs_extl {K : PySem.W.Frag} {tA : TA} {us : TS} {En : Ends} {σ : St} {G : Hp} {j : Nat} {l : Addr} {xs : List V} {es : List D} (h : RA K tA σ G es) (hl : G l = some (.lst xs)) (hx : xs.length ≤ 900)
    (q : ∀ ys G', But l G G' → G' l = some (.lst (xs ++ ys)) → Dats K G' es ys → us En σ G') (hv : σ[j]? = some (some (.ref l)) := by rfl) (he : es.length ≤ 100 := by simp) : tSeq (tDrop (tBM K "list" rExtend (tVar j) (tCons (tLst tA) tNil))) us En σ G := by
  refine ⟨_, hv, .inl ⟨rfl, _, SqL.of hl⟩, ?_⟩
  refine rl_lst h (fun p vs H1 s1 hp q1 => ?_) (by omega)
  have hlp : l ≠ p := ne_of_none (s1 _ _ hl) hp
  have hl1 : upd H1 p (.lst vs) l = some (.lst xs) := by rw [upd_ne hlp]; exact s1 _ _ hl
  have lv := q1.length
  refine ⟨l, p, xs, vs, rfl, rfl, hl1, upd_same, small (by omega), ?_⟩
  have b : But l (upd H1 p (.lst vs)) (upd (upd H1 p (.lst vs)) l (.lst (xs ++ vs))) := But.upd (Same.refl _).but
  have g : Grow K (upd H1 p (.lst vs)) (upd (upd H1 p (.lst vs)) l (.lst (xs ++ vs))) := b.grow hl1 upd_same
  exact q vs _ ((s1.trans (same_new hp _)).but.trans b) upd_same (Dats.mono g _ ((same_new hp _).dats q1))
/-- a, b = a pair of data, unpacked -/
theorem rs_unp2 {K : PySem.W.Frag} {te : TE} {us : TS} {En : Ends} {σ : St} {H : Hp} {i j : Nat} {d e : D} (h : RE K te σ H (.tup [d, e])) (q : ∀ v w H', Same H H' → Dat K H' d v → Dat K H' e w → us En ((σ.set i (some v)).set j (some w)) H') :
    tSeq (tAsg te (gTup K 2 (gCons (gName i) (gCons (gName j) gNil)))) us En σ H :=
  h.use fun x H1 s1 q1 => by
    obtain ⟨a, vs, e1, hq, hd⟩ := q1.tupE
    obtain ⟨v, w, e2, hv, hw⟩ := dats2 hd
    subst e1 e2
    exact ⟨a, _, rfl, hq, rfl, v, _, rfl, w, _, rfl, rfl, q v w H1 s1 hv hw⟩
/-! ### argument lists: no star, seen once for all -/
def nStar : Expr → Bool
  | .Starred .. => false
  | _ => true
theorem star_cons {e : Expr} {es : List Expr} {env : Env} (h : nStar e = true) : starEach (e :: es) env = (false, eval e env) :: starEach es env := by
  cases e <;> first | rfl | cases h
theorem pa_c {X : Cx} {e : Expr} {es : List Expr} {te : TE} {t : TA} (ha : PE X e te) (hr : PA X es t) (h : nStar e = true := by rfl) : PA X (e :: es) (tCons te t) := pa_cons ha hr (star_cons h)
end L2
end
section
set_option Elab.async false
set_option linter.all false
set_option maxRecDepth 100000
set_option maxHeartbeats 4000000
/-! all, any; keywords and defaults; more readings. -/
namespace L2
open PySem PySem.Spec PyProof.Rows
theorem vals_bools {bs : List Bool} {us : List Value} : Vals (bs.map V.bl) us → us = bs.map Value.bool := by
  intro h
  induction bs generalizing us with
  | nil => cases h; rfl
  | cons b bs ih =>
    cases h with
    | cons r t => cases r; rw [ih t]; rfl
theorem rangeB (bs : List Bool) (d : Bool) : (List.range bs.length).map (fun i => (bs[i]?).getD d) = bs := by
  apply List.ext_getElem
  · simp
  · intro i h1 h2
    simp at h1
    simp [h1]
section
variable {X : Cx}
theorem call_all (hc : X.calm = true) : CallR X (.builtin "all") (fun xs H Q => ∃ (l : Addr) (bs : List Bool), xs = [.ref l] ∧ SqL X.K H l (bs.map V.bl) ∧ Q (.bl (bs.all id)) H) := by
  intro pins s σ H xs us Q I r h
  obtain ⟨l, bs, rfl, hq, q⟩ := h
  obtain ⟨u, rfl, ru⟩ := vals1 r
  cases ru
  obtain ⟨its, rv, p, hz⟩ := I.list hq
  have ei := vals_bools rv
  have hl := p.isList
  have hlt : l < s.heap.objs.size := by obtain ⟨_, e, _⟩ := hl; exact Heap.lt_size e
  refine call_all_walk (wpAny_pyIter_list hl ?_)
  refine ⟨s.heap.objs.size, [s.heap.objs.size, l], [s.heap.objs.size], its.toArray.size, _, _, fun i => (bs[i]?).getD true, rfl, Walks.list (A := X.A.in1) (I.ok.hd hc) _ l (Nat.ne_of_lt hlt) its.toArray,
    ⟨⟨_, Heap.get?_push_size _ rfl, rfl, rfl⟩, hl.push _⟩, fun i v s' Q' E' hP hQ => ?_, fun h' tk hk => ?_⟩
  · subst ei
    have hP' : (bs.map Value.bool)[i]? = some v := by simpa using hP
    rw [List.getElem?_map] at hP'
    cases hb : bs[i]? with
    | none => rw [hb] at hP'; cases hP'
    | some b =>
      rw [hb] at hP'
      cases hP'
      simp only [hb, Option.getD_some] at hQ
      exact wpAny_truthy_bool hQ
  · have e : ((List.range its.toArray.size).all fun i => (bs[i]?).getD true) = bs.all id := by
      subst ei
      rw [List.size_toArray, List.length_map]
      conv => rhs; rw [← rangeB bs true]
      rw [List.all_map]
      rfl
    rw [e]
    exact ⟨.bl _, H, I.kept (t' := tk) fun b x e => hk b x (fun hm => by rw [List.mem_singleton.mp hm] at e; exact Nat.lt_irrefl _ (Heap.lt_size e)) (Heap.get?_push_of_some _ e), rfl, q⟩
end
/-! ### a def with defaults, with keywords -/
structure FunD (K : PySem.W.Frag) (x qual : Str) (st : Stmt) (f : Addr) (fd : FuncData) (T : Addr) (ds : List Value) : Prop where
  ex : ∃ (oc : Value) (od : Option Addr) (kV doc pm : Value) (an : Option Addr) (cdv ct : Value) (osl : Array (Option Value)),
    fd = PySem.W.fnOf x qual (defArgs st) (defBody st) (defScope st) (.ref T) kV doc pm an cdv ct ∧ K.lookup f = some ⟨oc, od, .func fd, osl⟩ ∧ PySem.W.codeIn K cdv qual = true
  kp : PySem.W.keepIn K (.ref f) = true
  df : ∃ (o : Obj) (n : Nat), K.lookup T = some o ∧ o.data = .seq ds.toArray n
section
variable {P : Program} {w : World} {K : PySem.W.Frag} {mg : Str → Option Value} {base : Heap}
end
/-! ### readings -/
section
variable {K : PySem.W.Frag} {σ : St} {H H' : Hp} {d d' : D} {ds : List D} {t u ta tb : TE} {tt uu : TT} {tA : TA} {i j : Int} {b c : Bool}
theorem re_mod (h1 : RE K ta σ H (.int i)) (h2 : RE K tb σ H (.int j)) (hj : 0 < j) : RE K (tOp (rI (fun _ j => 0 < j) fun i j => .int (i % j)) ta tb) σ H (.int (i % j)) := re_opC h1 h2 hj fun _ => Dat.intI _
theorem re_mul (h1 : RE K ta σ H (.int i)) (h2 : RE K tb σ H (.int j)) (hc : CMul i j) : RE K (tOp (rI CMul fun i j => .int (i * j)) ta tb) σ H (.int (i * j)) := re_opC h1 h2 hc fun _ => Dat.intI _
theorem datBs : ∀ {bs : List Bool} {vs : List V}, Dats K H (bs.map D.bl) vs → vs = bs.map V.bl
  | [], vs, h => by rw [Dats.nilE h]; rfl
  | b :: bs, vs, h => by
    obtain ⟨v, r, e, h1, h2⟩ := h.consE
    rw [e, h1.blE, datBs h2]
    rfl
/-- all([.. for x in a tuple]) -/
theorem re_all_tup {te tl : TE} {mk : St → St} {jj : Nat} {cs : List D} (h : RE K tl σ H (.tup cs)) (hc : cs.length ≤ 1000) (bs : List Bool) (hl : bs.length = cs.length) (h0 : (mk σ).set jj none = mk σ)
    (turn : ∀ H1 (i : Nat) c v b, Same H H1 → cs[i]? = some c → bs[i]? = some b → Dat K H1 c v → RE K te ((mk σ).set jj (some v)) H1 (.bl b)) :
    RE K (tCB (fun xs H Q => ∃ (l : Addr) (bs : List Bool), xs = [.ref l] ∧ SqL K H l (bs.map V.bl) ∧ Q (.bl (bs.all id)) H) (tCons (tComp (iTup K tl) mk (gName jj) tTrue te) tNil)) σ H (.bl (bs.all id)) := fun H1 s Q q =>
  r_cb1 (rcomp_tup (K := K) (h.mono s) hc (bs.map D.bl) (by rw [List.length_map, hl]) h0 (fun H2 i c v d s2 hc2 hd2 hv => by
    rw [List.getElem?_map] at hd2
    cases hb : bs[i]? with
    | none => rw [hb] at hd2; cases hd2
    | some b => rw [hb] at hd2; cases hd2; exact turn H2 i c v b (s.trans s2) hc2 hb hv) (fun l ys H' hl' s' hy hd => by
    have e := datBs hd
    subst e
    exact ⟨l, bs, rfl, SqL.of hy, q _ _ s' (Dat.blI _)⟩))
end
end L2
end
section
set_option Elab.async false
set_option linter.all false
set_option maxRecDepth 100000
set_option maxHeartbeats 4000000
/-! more readings: in, tuple(..) of a comprehension. -/
namespace L2
open PySem PySem.Spec PyProof.Rows
section
variable {K : PySem.W.Frag} {σ : St} {H H' : Hp} {d d' : D} {ds : List D} {t u ta tb : TE} {tt uu : TT} {tA : TA} {i j : Int} {b c : Bool}
end
end L2
end
section
set_option Elab.async false
set_option linter.all false
set_option maxRecDepth 100000
set_option maxHeartbeats 4000000
/-! a try that nothing leaves by an exception; texts walked; tables of the module: get, not in, texts, their keys. -/
namespace L2
open PySem PySem.Spec PyProof.Rows
section
variable {X : Cx}
variable {tg : Expr}
/-! ### tables of the module -/
end
end L2
end
section
set_option Elab.async false
set_option linter.all false
set_option maxRecDepth 100000
set_option maxHeartbeats 4000000
/-! the keys of a table of the module, walked; readings. -/
namespace L2
open PySem PySem.Spec PyProof.Rows
section
variable {X : Cx} {tg : Expr}
end
end L2
end
section
set_option Elab.async false
set_option linter.all false
set_option maxRecDepth 100000
set_option maxHeartbeats 4000000
/-! NEW LISTS OF DATA: what makes one, what is made of one. -/
namespace L2
open PySem PySem.Spec PyProof.Rows
section
variable {K : PySem.W.Frag} {σ : St} {H H' : Hp} {d d' : D} {ds es : List D} {t u ta tb te tl : TE} {tt uu : TT} {tA : TA} {i j : Int} {b c : Bool} {mk : St → St} {jj : Nat}
/-! ### makers -/
/-! ### uses -/
/-! ### texts in order -/
/-! ### tables -/
/-! ### a slice of a tuple -/
end
/-! ### data of the module -/
end L2
end
section
set_option Elab.async false
set_option linter.all false
set_option maxRecDepth 100000
set_option maxHeartbeats 4000000
/-! ranges as things, list(range(n)); lists put together, of the module too. -/
namespace L2
open PySem PySem.Spec PyProof.Rows
section
variable {X : Cx}
end
section
variable {K : PySem.W.Frag} {σ : St} {H : Hp} {t : TE} {n : Nat}
end
end L2
end
section
set_option Elab.async false
set_option linter.all false
set_option maxRecDepth 100000
set_option maxHeartbeats 4000000
/-! three lists that are filled. -/
namespace L2
open PySem PySem.Spec PyProof.Rows
section
variable {K : PySem.W.Frag} {l0 l1 l2 : Addr} {H H' H2 : Hp} {a b c a' b' c' : List V} {v : V}
end
end L2
end
section
set_option Elab.async false
set_option linter.all false
set_option maxRecDepth 100000
set_option maxHeartbeats 4000000
/-! sum, index of data, reversed. -/
namespace L2
open PySem PySem.Spec PyProof.Rows
section
variable {X : Cx}
variable {tg : Expr}
end
end L2
end
section
set_option Elab.async false
set_option linter.all false
set_option maxRecDepth 100000
set_option maxHeartbeats 4000000
/-! set(a list of texts), its length. -/
namespace L2
open PySem PySem.Spec PyProof.Rows
section
variable {X : Cx}
end
end L2
end
section
set_option Elab.async false
set_option linter.all false
set_option maxRecDepth 100000
set_option maxHeartbeats 4000000
/-! LISTS OF DATA AS ARGUMENTS: a list that stays as it is, read; what is made of it. -/
namespace L2
open PySem PySem.Spec PyProof.Rows
section
variable {K : PySem.W.Frag} {σ : St} {H H' : Hp} {d d' : D} {ds es : List D} {t u ta tb te tl : TE} {tt uu : TT} {tA : TA} {i j : Int} {b c : Bool} {mk : St → St} {jj : Nat} {ar : List Ar}
/-! ### uses of a list -/
end
/-! ### xs[::-1] -/
section
variable {K : PySem.W.Frag} {σ : St} {H H' : Hp} {d d' : D} {ds es : List D} {t u ta tb te tl : TE}
end
/-! ### xs.index(y) of a list in a name -/
section
variable {X : Cx}
end
section
variable {K : PySem.W.Frag} {σ : St} {H : Hp} {te : TE}
end
/-! ### equality of data, by rows -/
end L2
end
section
set_option Elab.async false
set_option linter.all false
set_option maxRecDepth 100000
set_option maxHeartbeats 4000000
/-! THE RUN OF THE TEXT AT ONCE, upon a tree of objects: no written states, no twins. -/
namespace LT
open PySem PySem.W PyProof.Rows
/-- so many steps upon a tree, by the library's quick words -/
noncomputable def ran (p : Program) (w : World) (n₀ : Nat) (ann : Option Value) : Nat → SharedT → Thread → Option SharedT
  | 0, _, _ => none
  | k + 1, s, t => bif through t then some s else bif Fast.tw6613529449190102663 n₀ ann t then
      (Fast.tw10156331382660048174 (Fast.tw11892475500146522536 Fast.tw14364793385576792824) p w s t).bind fun x => ran p w n₀ ann k x.1 x.2
    else none
theorem ran_top {p : Program} {w : World} {n₀ : Nat} {ann : Option Value} (k : Nat) : ∀ {s s' : SharedT} {t : Thread}, ran p w n₀ ann k s t = some s' → topRun treeTable p w n₀ ann k s.abs t = some s'.abs := by
  induction k with
  | zero => intro s s' t h; cases h
  | succ k ih =>
    intro s s' t h
    unfold ran at h
    rw [← Fast.te6613529449190102663, ← Fast.te10156331382660048174, ← Fast.te11892475500146522536, ← Fast.te14364793385576792824] at h
    unfold topRun
    cases c1 : through t
    · cases c2 : stepOk n₀ ann t
      · rw [c1, c2] at h; cases h
      · rw [c1, c2] at h
        obtain ⟨x, hx, hr⟩ := Option.bind_eq_some_iff.mp (show (stepT (denote treeTable) p w s t).bind _ = some s' from h)
        rw [stepT_spec (s' := x.1) (t' := x.2) hx]
        exact ih hr
    · rw [c1] at h
      cases h
      rfl
noncomputable def bootT (P : Params) : BT := ((boot_heap P).objs.toList.foldl (fun (x : BT × Nat) o => (x.1.ins x.2 o, x.2 + 1)) (BT.nil, 0)).1
theorem bootT_ok : ∀ P, absHeap (bootT P) 11 {} = boot_heap P := fun P => by kernel_rfl
noncomputable abbrev boot (P : Params) (os : OsState) : SharedT := ⟨bootT P, 11, {}, #[], boot_drawn, boot_toks, os⟩
theorem boot_abs (P : Params) (os : OsState) : (boot P os).abs = ⟨boot_heap P, #[], boot_drawn, boot_toks, os⟩ := by
  show (⟨absHeap (bootT P) 11 {}, #[], boot_drawn, boot_toks, os⟩ : Shared) = _
  rw [bootT_ok]
/-- what is looked at behind the run -/
noncomputable def seenT (p q : Program) (loose : List Str) (Xt : Shared → Bool) (P : Params) (s : Shared) :=
  (staticsOk (Fast.tw5923862056798008813 p.main.body) (boot_heap P) s.heap && namesBound p s.heap && gensDone s && laidKept (boot_heap P) s.heap, Fast.tw4187177175401517315 q loose (Fast.tw5923862056798008813 p.main.body) Xt true s)
theorem size_ok : ∀ P : Params, ((boot_heap P).isNs mainGlobals && (#[] : Array GenState).size == 0, (boot_heap P).objs.size, (boot_heap P).nsMap mainGlobals "__annotations__") = (true, 11, some (.ref 6)) := fun P => by kernel_rfl
theorem left {p q : Program} {loose : List Str} {Xt : Shared → Bool} {α : Type} {Yf : Shared → α} {Ya : World → α} {N : Nat} (e : opening p = plainProg p.main.scope.names) (hN : Nat.ble 600 N = true) (f : ∀ s, fenceModules? p s = some s)
    (h : ∀ (w : World) (os : OsState), (ran p w 11 (some (.ref 6)) N (boot w.params os) (topStub p)).map (fun s => (seenT p q loose Xt w.params s.abs, Yf s.abs)) = some ((true, openGood q loose), Ya w)) : LeftO p q loose Xt Yf Ya N := fun w => by
  obtain ⟨⟨h0, gs, d, k, os⟩, e, e'⟩ := Option.map_eq_some_iff.mp (boot_open e hN f w)
  obtain ⟨rfl, rfl, rfl, rfl⟩ : h0 = boot_heap w.params ∧ gs = Array.mk [] ∧ d = boot_drawn ∧ k = boot_toks := by simpa using e'
  obtain ⟨s1, hr, hs⟩ := Option.map_eq_some_iff.mp (h w os)
  have r := ran_top N hr
  rw [boot_abs] at r
  obtain ⟨hs, hy⟩ := Prod.mk.inj hs
  unfold seenT at hs
  rw [← Fast.te4187177175401517315, ← Fast.te5923862056798008813] at hs
  obtain ⟨hl, hg⟩ := Prod.mk.inj (show (staticsOk (importedModules p.main.body) (boot_heap w.params) s1.abs.heap && namesBound p s1.abs.heap && gensDone s1.abs && laidKept (boot_heap w.params) s1.abs.heap, openSeen q loose (importedModules p.main.body) Xt true s1.abs) = (true, openGood q loose) from hs)
  obtain ⟨z1, z2, z3⟩ : _ ∧ _ ∧ _ := by simpa only [Prod.mk.injEq] using size_ok w.params
  have t : topFrom treeTable p w N ⟨boot_heap w.params, Array.mk [], boot_drawn, boot_toks, os⟩ = some s1.abs := by
    unfold topFrom
    dsimp only
    rw [z1, z2, z3, r]
    show (match staticsOk (importedModules p.main.body) (boot_heap w.params) s1.abs.heap && namesBound p s1.abs.heap && gensDone s1.abs && laidKept (boot_heap w.params) s1.abs.heap with | true => _ | false => _) = _
    rw [hl]
  unfold openEnds
  rw [e]
  show (topFrom treeTable p w N _).map _ = _
  rw [t]
  exact congrArg some (Prod.ext hg hy)
end LT
end
section
set_option maxRecDepth 100000
namespace L2
open PySem PySem.Spec PyProof.Rows

/-! ### exceptions: how one lies behind a call -/
section
variable {P : Program} {w : World} {H H' : Hp} {h h1 h2 : Heap} {a b T : Addr} {o : HO} {fs : List Addr}
theorem ObjOk.has (x : ObjOk P w H h a o) : ∃ u, h.get? a = some u := by
  cases o with
  | lst xs => obtain ⟨_, _, _, _, e⟩ := x; exact ⟨_, e⟩
  | tup xs => obtain ⟨_, _, _, ob, e, _⟩ := x; exact ⟨ob, e⟩
  | dK kvs => obtain ⟨_, _, _, _, o, _, _, e, _⟩ := x; exact ⟨_, e⟩
  | dT kvs => obtain ⟨_, _, _, _, o, _, _, e, _⟩ := x; exact ⟨_, e⟩
  | set S n => obtain ⟨o, _, _, _, e, _⟩ := x; exact ⟨_, e⟩
  | ins C dx fs => obtain ⟨_, _, _, e, _⟩ := x; exact ⟨_, e⟩
  | own y => exact x
  | xd fs => obtain ⟨_, ⟨_, _, _, e, _⟩, _⟩ := x; exact ⟨_, e⟩
  | rng lo hi => obtain ⟨_, _, _, e⟩ := x; exact ⟨_, e⟩
  | frz ob u => obtain ⟨e, _⟩ := x; exact ⟨_, e⟩
  | tbl ps => exact ⟨_, (show h.get? a = some _ from x)⟩
  | met f y => exact ⟨_, (show h.get? a = some _ from x)⟩
  | ext φ => obtain ⟨_, e, _⟩ := x; exact e
theorem HOk.empty (x : HOk P w H h) (e : h.get? a = none) : H a = none := by
  cases q : H a with
  | none => rfl
  | some u =>
    obtain ⟨v, r⟩ := (x a u q).has
    rw [e] at r; cases r

/-- an exception on its way: its object e, its traceback at T -/
def Trc (h : Heap) (e T : Addr) (cls a0 : Value) : Prop :=
  ∃ oe vs oT ts, h.get? e = some oe ∧ (oe.cls = cls ∧ vs[0]? = some a0) ∧ oe.data = .fields vs ∧ vs[1]? = some (.ref T) ∧ T ≠ e ∧ h.get? T = some oT ∧ oT.data = .fields ts ∧ ts[3]? = some .none

/-- how an exception lies behind a call: it is new, all the rest is as behind a call that answers -/
def CX1 (P : Program) (w : World) : CXT := fun outer H s E e s' =>
  ∃ a T cls a0 H', e = .ref a ∧ s'.os = s.os ∧ AllBare s'.gens ∧ Un (frs outer) [] H H' s.heap s'.heap ∧ HOk P w H' s'.heap ∧
    (s.heap.get? a = none ∧ s.heap.get? T = none ∧ H' a = none ∧ H' T = none) ∧ Trc s'.heap a T cls a0 ∧ E cls none H'

theorem un_on (U : Un fs [] H H' h h1) (ha : h.get? a = none) (hT : h.get? T = none) (k : ∀ b o, h1.get? b = some o → b ≠ a → b ≠ T → b ∉ fs → h2.get? b = some o)
    (sl : ∀ b o, h1.get? b = some o → b ∈ fs → ∃ sl, h2.get? b = some { o with slots := sl }) : Un fs [] H H' h h2 := by
  have na : ∀ b o, h.get? b = some o → b ≠ a := fun b o q z => by rw [z, ha] at q; cases q
  have nT : ∀ b o, h.get? b = some o → b ≠ T := fun b o q z => by rw [z, hT] at q; cases q
  refine ⟨fun b o q n hb hx => k b o (U.keep b o q n hb hx) (na b o q) (nT b o q) hb, fun b o q n hb hx => ?_, U.free, fun b o q hx => ?_, U.tups, U.frzs, U.tbls⟩
  · obtain ⟨s1, e1⟩ := U.slot b o q n hb hx
    obtain ⟨s2, e2⟩ := sl b _ e1 hb
    exact ⟨s2, e2⟩
  · obtain ⟨o1, e1⟩ := U.there b o q hx
    by_cases hb : b ∈ fs
    · obtain ⟨s2, e2⟩ := sl b _ e1 hb
      exact ⟨_, e2⟩
    · exact ⟨o1, k b o1 e1 (na b o q) (nT b o q) hb⟩
theorem hok_on (O : HOk P w H h1) (ha : H a = none) (hT : H T = none) (hf : ∀ b ∈ fs, H b = none) (k : ∀ b o, h1.get? b = some o → b ≠ a → b ≠ T → b ∉ fs → h2.get? b = some o) : HOk P w H h2 := fun c u e =>
  (O c u e).stay (fun b v hb q => by
    have hn : H b ≠ none := by
      rcases hb with z | z
      · rw [z, e]; exact fun y => nomatch y
      · rw [z]; exact fun y => nomatch y
    exact k b v q (fun z => hn (by rw [z]; exact ha)) (fun z => hn (by rw [z]; exact hT)) fun z => hn (hf b z)) (fun _ q => q) fun _ _ q => q
theorem fly_of {base : Heap} {l : List Env} {cls a0 : Value} (F : h.FunFrames base l) (t : Trc h a T cls a0) : Heap.FlyingW (PySem.W.hideAll h (a :: T :: frs l)) l a cls a0 h := by
  obtain ⟨oe, vs, oT, ts, he, hc, hd, hv, hne, hT, hdT, h3⟩ := t
  exact ⟨fun b o q => PySem.W.of_hideAll _ q, PySem.W.hideAll_none _ (.head _), PySem.W.funFrames_hide F fun env hm b hb => .tail _ (.tail _ (List.mem_filterMap.mpr ⟨env, hm, hb⟩)),
    oe, vs, T, oT, ts, he, hc, hd, hv, PySem.W.hideAll_none _ (.tail _ (.head _)), hne, hT, hdT, h3⟩
theorem fly_back {base : Heap} {l l' : List Env} {cls a0 : Value} (F : h.FunFrames base l) (x : Heap.FlyingW (PySem.W.hideAll h (a :: T :: frs l)) l' a cls a0 h2) (U : h.UpToSlots h2) :
    ∃ T2, Trc h2 a T2 cls a0 ∧ (T2 = T ∨ h.get? T2 = none) ∧ (∀ b o, h.get? b = some o → b ≠ a → b ≠ T → b ∉ frs l → h2.get? b = some o) ∧ (∀ b o, h.get? b = some o → b ∈ frs l → ∃ sl, h2.get? b = some { o with slots := sl }) := by
  obtain ⟨f1, f2, f3, oe, vs, T2, oT, ts, he, hc, hd, hv, hn, hne, hT, hdT, h3⟩ := x
  have sl : ∀ b o, h.get? b = some o → b ∈ frs l → ∃ sl, h2.get? b = some { o with slots := sl } := fun b o q hb => by
    obtain ⟨_, o', ho', hnf⟩ := F.mem hb
    rw [q] at ho'; cases ho'
    exact U b o q hnf
  refine ⟨T2, ⟨oe, vs, oT, ts, he, hc, hd, hv, hne, hT, hdT, h3⟩, ?_, fun b o q n1 n2 n3 => f1 b o (PySem.W.hideAll_get _ q fun z => ?_), sl⟩
  · cases q : h.get? T2 with
    | none => exact .inr rfl
    | some o =>
      refine .inl ?_
      by_cases m : T2 ∈ a :: T :: frs l
      · rcases List.mem_cons.mp m with z | m
        · exact absurd z hne
        · rcases List.mem_cons.mp m with z | m
          · exact z
          · obtain ⟨_, o', ho', hnf⟩ := F.mem m
            rw [q] at ho'; cases ho'
            obtain ⟨s2, e2⟩ := sl T2 o q m
            rw [hT] at e2; cases e2
            exact absurd hdT (hnf ts)
      · rw [PySem.W.hideAll_get _ q m] at hn; cases hn
  · rcases List.mem_cons.mp z with z | z
    · exact n1 z
    · rcases List.mem_cons.mp z with z | z
      · exact n2 z
      · exact n3 z
end

section
variable {X : Cx} {pins : List (Addr × Obj)} {σ : St} {H : Hp} {s s' : Shared} {E : XK} {e : Value}
/-- behind a call that ends with an exception: the body's frame, the way on -/
theorem CX1.behind (I : Inv X pins σ H s) (x : CX1 X.prog X.w X.stack H s E e s') : ∃ a T cls a0 H', e = .ref a ∧ E cls none H' ∧ s.heap.get? a = none ∧ H' a = none ∧ Inv X pins σ H' s' ∧
    Heap.FlyingW (PySem.W.hideAll s'.heap (a :: T :: frs X.stack)) X.stack a cls a0 s'.heap ∧
    ∀ h2 l', Heap.FlyingW (PySem.W.hideAll s'.heap (a :: T :: frs X.stack)) l' a cls a0 h2 → s'.heap.UpToSlots h2 →
      ∃ T2, Inv X pins σ H' { s' with heap := h2 } ∧ Trc h2 a T2 cls a0 ∧ s.heap.get? T2 = none ∧ H' T2 = none ∧ Un (frs X.stack) [] H H' s.heap h2 := by
  obtain ⟨a, T, cls, a0, H', he, os, bare, un, hok, ⟨sa, sT, na, nT⟩, tr, q⟩ := x
  have J : Inv X pins σ H' s' := I.call' (ch := []) os un hok bare (fun b z => absurd z (by simp))
  refine ⟨a, T, cls, a0, H', he, q, sa, na, J, fly_of J.stack tr, fun h2 l' fl up => ?_⟩
  obtain ⟨T2, t2, hT2, k2, sl2⟩ := fly_back J.stack fl up
  have nT2 : H' T2 = none := by
    rcases hT2 with z | z
    · rw [z]; exact nT
    · exact hok.empty z
  have sT2 : s.heap.get? T2 = none := by
    rcases hT2 with z | z
    · rw [z]; exact sT
    · cases q : s.heap.get? T2 with
      | none => rfl
      | some o =>
        obtain ⟨o', r⟩ := un.there T2 o q (by simp)
        rw [z] at r; cases r
  exact ⟨T2, I.call' (s' := { s' with heap := h2 }) (ch := []) os (un_on un sa sT k2 sl2) (hok_on hok na nT J.stkFree k2) bare (fun b z => absurd z (by simp)), t2, sT2, nT2, un_on un sa sT k2 sl2⟩
end

/-- a def lets an exception through -/
theorem pass1 {P : Program} {w : World} {K : PySem.W.Frag} {mg : Str → Option Value} {base : Heap} {N : List Str} {qual : Str} {scope : Scope} {f : Addr} {cd : Value} {A : Around} {outer : List Env} {s : Shared} {H : Hp} {E : XK} :
    Passes (CX1 P w) (cxOf (CX1 P w) P w K mg base N qual scope f cd A outer s H E) E := by
  intro pins σ H1 s1 e s' I x
  obtain ⟨a, T, cls, a0, H', rfl, q, sa, na, J, fl, back⟩ := CX1.behind I x
  refine wpAny_leaves_onW (L := s.heap.objs.size) I.ok.frames rfl fl fun h2 f2 up => ?_
  obtain ⟨T2, J2, t2, sT2, nT2, _⟩ := back h2 _ f2 up
  have up0 : ∀ b, s1.heap.get? b = none → s.heap.get? b = none := fun b z => by
    cases q : s.heap.get? b with
    | none => rfl
    | some o =>
      obtain ⟨o', r⟩ := I.base.there b o q (by show b ∉ ([] : List Addr); simp)
      rw [z] at r; cases r
  exact ⟨a, T2, cls, a0, H', rfl, J2.os, J2.bare, J2.base, J2.hok, ⟨up0 a sa, up0 T2 sT2, na, nT2⟩, t2, q⟩

/-! ### raise -/
/-- an exception as it is made: no traceback yet -/
def Fre (h : Heap) (e : Addr) (cls a0 : Value) : Prop := ∃ oe vs, h.get? e = some oe ∧ (oe.cls = cls ∧ vs[0]? = some a0) ∧ oe.data = .fields vs ∧ vs[1]? = some .none
def CXn (P : Program) (w : World) : CXT := fun outer H s E e s' =>
  ∃ a cls a0 H', e = .ref a ∧ s'.os = s.os ∧ AllBare s'.gens ∧ Un (frs outer) [] H H' s.heap s'.heap ∧ HOk P w H' s'.heap ∧
    (s.heap.get? a = none ∧ H' a = none) ∧ Fre s'.heap a cls a0 ∧ E cls none H'
theorem throw1 {P : Program} {w : World} {K : PySem.W.Frag} {mg : Str → Option Value} {base : Heap} {N : List Str} {qual : Str} {scope : Scope} {f : Addr} {cd : Value} {A : Around} {outer : List Env} {s : Shared} {H : Hp} {E : XK} :
    Passes (CXn P w) (cxOf (CX1 P w) P w K mg base N qual scope f cd A outer s H E) E := by
  intro pins σ H1 s1 e s' I x
  obtain ⟨a, cls, a0, H', rfl, os, bare, un, hok, ⟨sa, na⟩, ⟨oe, vs, he, ⟨hc, h0⟩, hd, hv⟩, q⟩ := x
  have J : Inv (cxOf (CX1 P w) P w K mg base N qual scope f cd A outer s H E) pins σ H' s' := I.call' (ch := []) os un hok bare (fun b z => absurd z (by simp))
  subst hc
  refine wpAny_leaving_firstW (base := PySem.W.hideAll s'.heap (a :: a :: frs (envOfC qual scope s.heap.objs.size f cd :: outer))) (L := s.heap.objs.size) (a0 := a0) I.ok.frames
    (PySem.W.funFrames_hide J.stack fun env hm b hb => .tail _ (.tail _ (List.mem_filterMap.mpr ⟨env, hm, hb⟩))) rfl he (fun b o q => PySem.W.of_hideAll _ q) (PySem.W.hideAll_none _ (.head _)) hd hv h0 fun h2 L2 => ?_
  obtain ⟨k1, k2, k3, k4⟩ := L2
  obtain ⟨T2, t2, hT2, kk, sl2⟩ := fly_back (T := a) J.stack (show Heap.FlyingW _ _ a oe.cls a0 h2 from ⟨k1, PySem.W.hideAll_none _ (.head _), k2, k3⟩) k4
  have neT : T2 ≠ a := by obtain ⟨_, _, _, _, _, _, _, _, z, _⟩ := t2; exact z
  have nT : s'.heap.get? T2 = none := hT2.resolve_left neT
  have sT : s1.heap.get? T2 = none := by
    cases q : s1.heap.get? T2 with
    | none => rfl
    | some o =>
      obtain ⟨o', r⟩ := un.there T2 o q (by simp)
      rw [nT] at r; cases r
  have up0 : ∀ b, s1.heap.get? b = none → s.heap.get? b = none := fun b z => by
    cases q : s.heap.get? b with
    | none => rfl
    | some o =>
      obtain ⟨o', r⟩ := I.base.there b o q (by show b ∉ ([] : List Addr); simp)
      rw [z] at r; cases r
  have J2 : Inv (cxOf (CX1 P w) P w K mg base N qual scope f cd A outer s H E) pins σ H' { s' with heap := h2 } :=
    I.call' (s' := { s' with heap := h2 }) (ch := []) os (un_on un sa sa kk sl2) (hok_on hok na na J.stkFree kk) bare (fun b z => absurd z (by simp))
  exact ⟨a, T2, oe.cls, a0, H', rfl, J2.os, J2.bare, J2.base, J2.hok, ⟨up0 a sa, up0 T2 sT, na, hok.empty nT⟩, t2, q⟩

/-- an own exception class of the module, by the fragment: its bases' row, its maker, its own __init__ -/
def excAt (K : PySem.W.Frag) (C : Addr) (bmB : List Value) (newId : String) (ini : Option Value) : Bool := match K.lookup C with
  | some ⟨.type "type", _, .cls cd, slots⟩ => (match cd.mro, slots.toList with
    | .ref C' :: bm, [_, _, _, _, some (.builtin n), _] => C' == C && n == newId && !cd.hasDel && PySem.W.tailIn K bmB bm && PySem.W.nsOkIn K cd.ns && PySem.W.nsIn K cd.ns "__init__" == some ini
    | _, _ => false)
  | _ => false

theorem ns_some_of {K : PySem.W.Frag} {h : Heap} {N : Addr} {mg : Str → Option Value} {n : Str} {v : Value} (X : K.In h) (G : h.Ns N mg) (e : PySem.W.nsIn K N n = some (some v)) : mg n = some v := by
  obtain ⟨o, es, ep, ho, hd, _, hf⟩ := G
  unfold PySem.W.nsIn at e
  split at e
  · rename_i c d es' n' sl q
    have := X _ _ q
    rw [ho] at this
    cases this
    cases hd
    split at e
    · rename_i en he
      rw [← hf]
      unfold nsFind findBy
      rw [← Array.find?_toList, he]
      cases e
      rfl
    · split at e <;> cases e
  · cases e
theorem exc_of {K : PySem.W.Frag} {h : Heap} {C : Addr} {bmB : List Value} {newId : String} {ini : Option Value} (X : K.In h) (q : excAt K C bmB newId ini = true) :
    ∃ bm N nm qn bs hd sn sub ab col dd k0 k1 k2 k3 k5 mN, h.get? C = some (excClassObj nm qn C N bs bm hd sn sub ab col dd k0 k1 k2 k3 k5 newId) ∧ h.Ns N mN ∧ mN "__init__" = ini ∧ OwnTail h bmB bm := by
  unfold excAt at q
  split at q
  · rename_i dd cd sl ho
    split at q
    · rename_i C' bm k0 k1 k2 k3 n k5 hm hs
      rw [Bool.and_eq_true, Bool.and_eq_true, Bool.and_eq_true, Bool.and_eq_true, Bool.and_eq_true] at q
      obtain ⟨⟨⟨⟨⟨e1, e2⟩, hdel⟩, ht⟩, hok⟩, hni⟩ := q
      obtain rfl := beq_iff_eq.mp e1
      obtain rfl := beq_iff_eq.mp e2
      have hni := beq_iff_eq.mp hni
      obtain ⟨cnm, cbs, mro, ns, cqn, chd, csn, csub, cab, ccol, del⟩ := cd
      have hsl : sl.toList.toArray = [k0, k1, k2, k3, some (.builtin n), k5].toArray := by rw [hs]
      rw [Array.toArray_toList] at hsl
      subst hsl
      have hm : mro = .ref C' :: bm := hm
      have hde : del = false := by
        have z : (!del) = true := hdel
        cases del with
        | true => cases z
        | false => rfl
      clear hdel
      subst hm hde
      have hN : h.Ns ns (h.nsMap ns) := .of_isNs (PySem.W.isNs_of_in X hok)
      refine ⟨bm, ns, cnm, cqn, cbs, chd, csn, csub, cab, ccol, dd, k0, k1, k2, k3, k5, _, X _ _ ho, hN, ?_, PySem.W.tail_of_in X ht⟩
      cases ini with
      | none => exact PySem.W.ns_none_of X hN hni
      | some v => exact ns_some_of X hN hni
    · cases q
  · cases q

/-- raise C(e, ..), C an own exception without __init__ -/
theorem ps_raise {X : Cx} {C : Addr} {E : XK} {x : Str} {np cpos pos : Pos} {e₀ : Expr} {rest : List Expr} {ta : TA} {B Bn newId nid initId inN : String} {bmB bmN : List Value}
    (Fn : ExcBaseFacts Bn newId inN bmN) (hBn : bmB.contains (.type Bn) = true) (F : ExcBaseFacts B nid initId bmB) (hc : excAt X.K C bmB newId none = true)
    (ht : Passes (CXn X.prog X.w) X E) (hg : Gl X x) (hm : X.mg x = some (.ref C)) (ha : PA X (e₀ :: rest) ta) (hcalm : X.calm = true := by rfl)
    (he : starEach (e₀ :: rest) X.env = (false, eval e₀ X.env) :: starEach rest X.env := by rfl)
    (hplain : (backTo cpos (starEach rest X.env)).any (·.1) = false := by rfl) (hd : (x == ("__debug__" : Str)) = false := by decide) :
    PS X (.Raise (some (.Call (.Name x np) (e₀ :: rest) [] cpos)) none pos) (fun _ σ H => ta σ H fun vs H1 => vs.length ≤ sizeLine ∧ E (.ref C) none H1) := by
  intro pins s σ H D I h
  obtain ⟨bm, N, nm, qn, bs, hdd, sn, sub, ab, col, dd, k0, k1, k2, k3, k5, mN, hC, hN, hni, T⟩ := exc_of I.mod.kin hc
  refine wpAny_Raise_call_subU (C := C) (nm := nm) (q := qn) (N := N) (bs := bs) (bm := bm) (hdct := hdd) (sn := sn) (sub := sub) (ab := ab) (col := col) (dd := dd) (k0 := k0) (k1 := k1) (k2 := k2) (k3 := k3) (k5 := k5)
    Fn hBn F (mN := mN) (T.hasType F.hasBase) (I.ok.hd hcalm) (by rw [he]; show (false || (backTo cpos (starEach rest X.env)).any (·.1)) = false; rw [hplain]; rfl) hni (ld_glob I hg hm ⟨rfl, ?_⟩ hd)
  have w := ha cpos pins s σ H _ I h
  rw [he] at w ⊢
  refine Calls.evalArgs_plain (thn w fun us s2 ⟨vs, H1, I1, r, z, q⟩ => ⟨rfl, by rw [← r.length]; exact z, I1.bk _ _ hC, hN.keeps I1.bk, T.keeps I1.bk, fun h' e hm => ?_⟩)
  obtain ⟨t, h1, h2, h3⟩ := hm.there
  exact ht pins σ H1 s2 _ _ I1 ⟨e, .ref C, .ref t, H1, rfl, rfl, I1.bare, Un.kept hm.keeps, I1.hok.kept hm.keeps, ⟨hm.new, I1.hok.empty hm.new⟩, ⟨_, _, h1, ⟨rfl, rfl⟩, rfl, rfl⟩, q⟩

/-! ### a call whose wish for an exception knows the names' values -/
def PassesS (CX : CXT) (X : Cx) (E : St → XK) : Prop := ∀ (pins : List (Addr × Obj)) (σ : St) (H : Hp) (s : Shared) (e : Value) (s' : Shared), Inv X pins σ H s → CX X.stack H s (E σ) e s' → X.xe e s'
section
variable {X : Cx} {CX : CXT} {k : Nat} {f C : Addr} {fd : FuncData} {ps : List Str} {sp : Sp} {dvs : List V} {ds : List Value} {E : St → XK} {x m : Str} {p pos apos : Pos} {e o : Expr} {es : List Expr} {ta : TE} {t : TA}
theorem run_fnS {pins : List (Addr × Obj)} {σ : St} {H : Hp} {s : Shared} {Q : VK} {us : List Value} {vs : List V} (F : FnOk X.prog X.w X.K X.mg X.base CX k f fd ps sp) (hr : Room k X.A) (hb : Binds X.K fd ps ds) (hd : Vals dvs ds) (hx : PassesS CX X E)
    (I : Inv X pins σ H s) (r : Vals vs us) (h : sp (vs ++ dvs) H Q (E σ)) : wpAny (model X.prog X.w) X.A (call (.ref f) us) (EP X pins σ Q) X.xe s := by
  have r2 : Vals (vs ++ dvs) (us ++ ds) := r.append hd
  have hl : (us ++ ds).length = ps.length := by rw [← r2.length]; exact F.len _ _ _ _ h
  refine wpAny_call (codeAny_mono (F.run X.A X.stack s H ⟨us, []⟩ (us ++ ds) (vs ++ dvs) Q (E σ) hr I.env0 (hb s us I.kIn hl) r2 h) fun r s' hq => ?_)
  cases r with
  | error e => exact hx pins σ H s e s' I hq
  | ok fl =>
    cases fl with
    | ret u => exact I.after hq
    | next => exact False.elim hq
    | brk => exact False.elim hq
    | cont => exact False.elim hq
theorem pe_callS (F : FnOk X.prog X.w X.K X.mg X.base CX k f fd ps sp) (hr : Room k X.A) (hg : Gl X x) (hm : X.mg x = some (.ref f)) (hk : PySem.W.keepIn X.K (.ref f) = true) (hb : Binds X.K fd ps ds) (hd : Vals dvs ds) (hx : PassesS CX X E)
    (ha : PA X (e :: es) t) (hdb : (x == ("__debug__" : Str)) = false := by decide) (he : starEach (e :: es) X.env = (false, eval e X.env) :: starEach es X.env := by rfl) (hpl : (backTo pos (starEach es X.env)).any (·.1) = false := by rfl) :
    PE X (.Call (.Name x p) (e :: es) [] pos) (fun σ => tCall sp dvs (E σ) t σ) := by
  intro pins s σ H Q I h
  refine wpAny_Call_Name_kw (ld_glob I hg hm ?_ hdb)
  refine PySem.W.callWith_K (h₀ := X.base) I.ok.mod.kin hk (thn (ha pos pins s σ H _ I h) fun us s1 ⟨vs, H1, I1, r, q⟩ => ⟨I1.kIn, ?_⟩) he hpl
  exact run_fnS F hr hb hd hx I1 r q
end

/-! ### try .. except C -/
/-- the context of a handler's body -/
def Cx.hand (X : Cx) (e : Value) : Cx := { X with A := X.A.mark (some e), calm := false, xe := fun _ _ => False }
theorem Cx.Ok.hand {X : Cx} {e : Value} (o : X.Ok) : (X.hand e).Ok :=
  ⟨o.mod, o.kind, o.glob, o.blt, o.above, o.inj, o.has, o.cab, (fun z => nomatch z), o.frames, o.stk, o.exf, o.bs, o.bsz, o.noex, o.exfs, o.funs, o.frf⟩
section
variable {X : Cx} {pins pins' : List (Addr × Obj)} {σ : St} {H : Hp} {s : Shared} {xe : Value → Shared → Prop} {e : Value}
theorem Inv.hand (I : Inv X pins σ H s) : Inv (X.hand e) pins σ H s := ⟨I.ok.hand, I.os, I.bare, I.base, I.loc, I.cell, I.free, I.freeC, I.pin, I.hok, I.len⟩
theorem Inv.unhand (o : X.Ok) (I : Inv (X.hand e) pins σ H s) : Inv X pins σ H s := ⟨o, I.os, I.bare, I.base, I.loc, I.cell, I.free, I.freeC, I.pin, I.hok, I.len⟩
theorem Inv.inTry (I : Inv X pins σ H s) : Inv { X with pn := X.pn ++ pins, xe := xe } [] σ H s :=
  ⟨⟨I.ok.mod, I.ok.kind, I.ok.glob, I.ok.blt, I.ok.above, I.ok.inj, I.ok.has, I.ok.cab, I.ok.hd, I.ok.frames, I.ok.stk, I.ok.exf, I.ok.bs, I.ok.bsz, I.ok.noex, I.ok.exfs, I.ok.funs, I.ok.frf⟩, I.os, I.bare, I.base, I.loc, I.cell, I.free, I.freeC,
    fun p hp => I.pin p (by simpa using hp), I.hok, I.len⟩
theorem Inv.outTry (o : X.Ok) (I : Inv { X with pn := X.pn ++ pins, xe := xe } pins' σ H s) : Inv X pins σ H s :=
  ⟨o, I.os, I.bare, I.base, I.loc, I.cell, I.free, I.freeC, fun p hp => I.pin p (List.mem_append_left _ hp), I.hok, I.len⟩
end
end L2
end
section
set_option maxRecDepth 100000
namespace L2
open PySem PySem.Spec PySem.Calls PyProof.Rows PySem.W PySem.Builtin PySem.Builtin.ObjectAttr PySem.Builtin.Getset_descriptor

/-! ### isinstance of an exception -/
section
variable {prog : Program} {w : World} {A : Around} {E : Value → Shared → Prop} {s : Shared} {K : Frag} {x D : Addr} {ox : Obj} {od : Option Obj} {name : Str}
theorem bga_bind (o : Value) : bindSpecial (.builtin "BaseException.__getattribute__") o = pure (.builtin "BaseException.__getattribute__", [o]) := PySem.F.attr_ValueError.ga.bind o
/-- what the fragment says of an own exception class, for isinstance -/
structure ExcK (K : Frag) (D : Addr) : Prop where
  ga : findIn K (.ref D) "__getattribute__" = some (some (.builtin "BaseException.__getattribute__"))
  gt : findIn K (.ref D) "__getattr__" = some none
  dct : hasDictIn K D = true
  a : findIn K (.ref D) "__class__" = some (some (.builtin "object.__class__"))
  n : specialIn K (.builtin "object.__class__") "__get__" = some (some (.builtin "getset_descriptor.__get__"))
  tk : takesIn K (.builtin "object.__class__") = some true
  m : mroIn K D (.type "object") = some true
  b : mroIn K D (.type "BaseException") = some true
/-- object.__class__ of an exception -/
theorem kex_get {R : Result → Shared → Prop} {tp : Value} (X : K.In s.heap) (L0 : Looks (model prog w) s.heap (typeOf (.ref x)) (.ref D)) (hm : mroIn K D (.type "object") = some true)
    (h : R (.ok (.ret (.ref D))) s) : codeAny (model prog w) A (.call (.builtin "getset_descriptor.__get__") ⟨[.builtin "object.__class__", .ref x, tp], []⟩) R s := by
  obtain ⟨hh, g, dr, t, os⟩ := s
  have L1 := looks_mroIn (M := model prog w) X hm
  refine codeAny_call_builtin KF.slot_gs.plain KF.entry_gs ?_
  refine KF.slot_gs.check _ _ _ _ _ _ _ _ KF.type_class (KF.args_gs _ _ _) ?_
  unfold «getset_descriptor.__get__»
  unfold descrGet
  rw [dga_obj]
  refine wpAny_bind (wpAny_pure ?_)
  unfold descrGetter descrCheckInstance
  unfold descrNameAndClass isInstance
  simp only [KF.owner_class]
  repeat lk
  refine ⟨Code.quiet_builtin _ (by decide +kernel), ?_⟩
  refine codeAny_builtin KF.entry_class ?_
  unfold Builtin.«object.__class__» shownTypeOf
  repeat lk
  exact h
theorem kex_find {M : Model} {h : Heap} (X : K.In h) (kx : ExcK K D) : Looks M h (Builtin.ObjectAttr.find (.ref x) (.ref D) "__class__") (.bind (.builtin "getset_descriptor.__get__") (.builtin "object.__class__")) := by
  have L1 := looks_findIn (M := M) X kx.a
  have L2 : Looks M h (Builtin.ObjectAttr.getOf (some (.builtin "object.__class__"))) (some (.builtin "getset_descriptor.__get__")) := looks_specialIn X kx.n
  have L3 := looks_takesIn (M := M) X kx.tk
  unfold Builtin.ObjectAttr.find
  refine L1.andThen (L2.andThen ?_)
  unfold Builtin.ObjectAttr.dataDescriptor?
  refine Looks.andThen (a := some (.builtin "getset_descriptor.__get__", .builtin "object.__class__")) (L3.andThen .now) ?_
  exact Looks.tag .now
theorem kex_class {Q : Option Value → Shared → Prop} (X : K.In s.heap) (L0 : Looks (model prog w) s.heap (typeOf (.ref x)) (.ref D)) (kx : ExcK K D)
    (h : Q (some (.ref D)) { s with toks := s.toks + 1 }) : wpAny (model prog w) A (getAttr? (.ref x) "__class__") Q E s := by
  obtain ⟨hh, g, d, t, os⟩ := s
  have L1 := looks_findIn (M := model prog w) X kx.ga
  have L2 := looks_findIn (M := model prog w) X kx.gt
  have L3 := kex_find (M := model prog w) (x := x) X kx
  have L4 : Looks (model prog w) hh (isInstance (.ref x) (.type "BaseException")) true := L0.andThen (looks_mroIn X kx.b)
  unfold getAttr? getAttrBy? getAttrBy
  refine wpAny_bind (wpAny_mkText (wpAny_bind (wpAny_attempt (wpAny_holding ?_))))
  refine wpAny_bind (L0.at ?_)
  refine wpAny_bind (L1.at ?_)
  show wpAny _ _ (getAttrByItsOwn _ _ _ _ _ _) _ _ _
  unfold getAttrByItsOwn hookBefore
  refine wpAny_bind ?_
  show wpAny _ _ (typeLookup (.ref D) "__getattr__") _ _ _
  refine L2.at (wpAny_bind (wpAny_attempt (wpAny_holding ?_)))
  show wpAny _ _ (boundAndCalled _ _ _) _ _ _
  unfold boundAndCalled
  rw [bga_bind]
  refine wpAny_bind (wpAny_pure (wpAny_call ?_))
  refine codeAny_call_builtin PySem.F.attr_ValueError.ga.plain PySem.F.entry_bexc_ga (@check_slot (model prog w) _ _ _ "BaseException.__getattribute__" "BaseException" "__getattribute__" (.ref x) _ [] _ (by decide +kernel) (by decide +kernel) L4 (PySem.F.args_bexc_ga _ _) ?_)
  refine wpAny_bind (wpAny_pure (wpAny_bind (wpAny_pure (wpAny_bind (L0.at (wpAny_bind (L3.at ?_)))))))
  show wpAny _ _ (holding [Value.builtin "object.__class__"] (call (.builtin "getset_descriptor.__get__") [.builtin "object.__class__", .ref x, .ref D]) >>= ret) _ _ _
  refine wpAny_bind (wpAny_holding (wpAny_call (kex_get (s := ⟨hh, g, d, t + 1, os⟩) X L0 kx.m ?_)))
  refine wpAny_pure ?_
  refine handed_on rfl ?_
  exact wpAny_pure h
end
/-- an exception, its class is D -/
def ExcO (x : Addr) (D : Addr) : HO := .ext fun h => ∃ oe, h.get? x = some oe ∧ oe.cls = .ref D
theorem exc_ty {M : Model} {h : Heap} {x D : Addr} (q : ∃ oe, h.get? x = some oe ∧ oe.cls = .ref D) : Looks M h (typeOf (.ref x)) (.ref D) := by
  obtain ⟨oe, he, hc⟩ := q
  rw [← hc]
  exact (Looks.ld he).andThen .now
theorem kitx_exc {K : Frag} {x D : Addr} (kx : ExcK K D) : KitX K (.ref x) (.ref D) (fun h => ∃ oe, h.get? x = some oe ∧ oe.cls = .ref D) where
  ty := fun _ _ _ q => exc_ty q
  it := fun _ _ X _ => by
    obtain ⟨cdD, hcD, _⟩ := any_some kx.dct
    unfold clsIn at hcD
    split at hcD
    · rename_i c' d' cd' sl' ho
      intro A' Q' E' s' k q
      unfold isType loadHead
      have ho' := k _ _ (X _ _ ho)
      exact wpAny_bind (wpAny_loadPart ho' (wpAny_pure q))
    · cases hcD
  ne := fun h tp dd its n sl X htp => by
    obtain ⟨cdD, hcD, _⟩ := any_some kx.dct
    refine Bool.eq_false_iff.mpr fun q => ?_
    cases beq_iff_eq.mp q
    unfold clsIn at hcD
    split at hcD
    · rename_i c' d' cd' sl' ho
      have z := (X _ _ ho).symm.trans htp
      cases z
    · cases hcD
  ca := fun X q k => kex_class X (exc_ty q) kx k
theorem isinst_exc {X : Cx} {pins : List (Addr × Obj)} {σ : St} {H : Hp} {s : Shared} {A : Around} {E : Value → Shared → Prop} {Q : Value → Shared → Prop} {c : Value} {b : Bool} {x D : Addr} (I : Inv X pins σ H s) (hx : H x = some (ExcO x D)) (kx : ExcK X.K D)
    (e : kitOne X.K (.ref D) c = some b) (h : ∀ tk, Q (.bool b) { s with toks := tk }) : wpAny (model X.prog X.w) A (call (.builtin "isinstance") [.ref x, c]) Q E s := by
  obtain ⟨q, _, _⟩ := (show ObjOk X.prog X.w H s.heap x (ExcO x D) from I.hok x _ hx)
  exact kia_one (kitx_exc kx) I.kIn q e (fun z => nomatch z) h

/-! ### try .. except C as n -/
section
variable {X : Cx} {pins : List (Addr × Obj)} {σ : St} {H H' : Hp} {s s2 : Shared} {a : Addr} {o : HO}
theorem HOk.track {P : Program} {w : World} {h : Heap} (hok : HOk P w H h) (na : H a = none) (new : ObjOk P w (upd H a o) h a o) : HOk P w (upd H a o) h := fun b u e => by
  by_cases hb : b = a
  · subst hb
    rw [upd_same] at e; cases e
    exact new
  · rw [upd_ne hb] at e
    exact (hok b u e).stay (fun _ _ _ q => q) (fun c q => by rw [upd_ne (ne_of_none q na)]; exact q) fun c xs q => by rw [upd_ne (ne_of_none q na)]; exact q
theorem Inv.track (I : Inv X pins σ H s) (J : Inv X pins σ H' s2) (un : Un (frs X.stack) [] H H' s.heap s2.heap) (sa : s.heap.get? a = none) (na : H' a = none) (new : ObjOk X.prog X.w (upd H' a o) s2.heap a o) : Inv X pins σ (upd H' a o) s2 := by
  have nb : ∀ b u, s.heap.get? b = some u → b ≠ a := fun b u q z => by rw [z, sa] at q; cases q
  refine I.call' (ch := []) (J.os.trans I.os.symm) ⟨un.keep, un.slot, fun b u q n hx => by rw [upd_ne (nb b u q)]; exact un.free b u q n hx, un.there, fun b xs q => ?_, fun b u xs q => ?_, fun b ps q => ?_⟩ (J.hok.track na new) J.bare (fun b z => absurd z (by simp))
  · have z := un.tups b xs q
    rw [upd_ne (ne_of_none z na)]; exact z
  · have z := un.frzs b u xs q
    rw [upd_ne (ne_of_none z na)]; exact z
  · obtain ⟨m, z⟩ := un.tbls b ps q
    exact ⟨m, by rw [upd_ne (ne_of_none z na)]; exact z⟩
/-- the name of an except clause goes -/
theorem Inv.gone {M : Model} {A : Around} {E : Value → Shared → Prop} {i : Nat} {n : Str} {pos : Pos} {Q : Unit → Shared → Prop} (I : Inv X pins σ H s) (hN : X.N.Nodup) (hi : X.N[i]? = some n) (hl : X.env.kindOf n = some .local)
    (h : ∀ s', Inv X pins (σ.set i none) H s' → Q () s') : wpAny M A (do bindName X.env n .none; unbindBehindTheSuite X.env n pos) Q E s := by
  obtain ⟨m, hn, hlo⟩ := id I.loc
  obtain ⟨oL, _, _, hoL, _⟩ := id hn
  have cne := I.cne
  refine wpAny_nameGoes_keeps hl hn (by rw [I.ok.kind]; rfl) fun h' v hn' hs => h _ ?_
  have hok : HOk X.prog X.w H h' := fun b ob e => by
    refine (I.hok b ob e).stay (fun c w' hc q => (hs.2 c ?_).trans q) (fun _ q => q) fun _ _ q => q
    rintro rfl
    rcases hc with z | z
    · rw [← z, I.free] at e; cases e
    · rw [I.free] at z; cases z
  refine ⟨I.ok, I.os, I.bare, ⟨fun b o e n hb hx => ?_, fun b o e n hb hx => ?_, I.base.free, fun b o e hx => ?_, I.base.tups, I.base.frzs, I.base.tbls⟩, ⟨_, hn', fun j y v' e1 e2 e3 => ?_⟩, fun y c e => ?_, I.free, I.freeC, fun p hp => ?_, hok, by simpa using I.len⟩
  · exact (hs.2 b (Nat.ne_of_lt (Nat.lt_of_lt_of_le (Heap.lt_size e) I.ok.above))).trans (I.base.keep b o e n hb hx)
  · obtain ⟨sl, e1⟩ := I.base.slot b o e n hb hx
    exact ⟨sl, (hs.2 b (Nat.ne_of_lt (Nat.lt_of_lt_of_le (Heap.lt_size e) I.ok.above))).trans e1⟩
  · obtain ⟨o', e1⟩ := I.base.there b o e hx
    exact ⟨o', (hs.2 b (Nat.ne_of_lt (Nat.lt_of_lt_of_le (Heap.lt_size e) I.ok.above))).trans e1⟩
  · by_cases hj : j = i
    · subst hj
      rw [List.getElem?_set] at e2
      simp at e2
    · rw [List.getElem?_set_ne (Ne.symm hj)] at e2
      obtain ⟨u', r', q⟩ := hlo j y v' e1 e2 e3
      refine ⟨u', r', ?_⟩
      rcases q with ⟨k, e⟩ | ⟨k, c, e, z⟩
      · refine .inl ⟨k, ?_⟩
        have : y ≠ n := fun e => hj (nodup_ix hN e1 (e ▸ hi))
        simp [this, e]
      · exact .inr ⟨k, c, e, z.sameBut hs (cne y c e)⟩
  · obtain ⟨w', z⟩ := I.cell y c e
    exact ⟨w', z.sameBut hs (cne y c e)⟩
  · obtain ⟨e, n, ne, nf, d⟩ := I.pin p hp
    exact ⟨(hs.2 p.1 ne).trans e, n, ne, nf, d⟩
end
/-- behind the handler its name is gone -/
def Ends.gone (D : Ends) (i : Nat) : Ends := { nx := fun σ H => D.nx (σ.set i none) H, rt := D.rt, bk := fun σ H => D.bk (σ.set i none) H, ct := fun σ H => D.ct (σ.set i none) H }
theorem ps_tryAs {X : Cx} {body : List Stmt} {t : (St → XK) → TS} {th : TS} {x n : Str} {i : Nat} {C : Value} {np hpos pos : Pos} {b₀ : Stmt} {suite : List Stmt}
    (hb : ∀ (pn : List (Addr × Obj)) (xe : Value → Shared → Prop) (E : St → XK), PassesS (CX1 X.prog X.w) { X with pn := pn, xe := xe } E → PSs { X with pn := pn, xe := xe } body (t E))
    (hg : Gl X x) (hm : X.mg x = some C) (hN : X.N.Nodup) (hi : X.N[i]? = some n) (hl : X.env.kindOf n = some .local) (hh : ∀ e : Value, PSs (X.hand e) (b₀ :: suite) th)
    (hst : X.stack = X.env :: X.outer := by rfl) (hfr : X.env.frame = some X.env.locals := by rfl) (hd : (x == ("__debug__" : Str)) = false := by decide) :
    PS X (.Try body [.ExceptHandler (some (.Name x np)) (some n) (b₀ :: suite) hpos] [] [] pos)
      (fun D σ H => t (fun σ' cls _ H' => PySem.W.exmOne X.K cls C = some true ∧ ∃ Dx, cls = .ref Dx ∧ ∀ a, H' a = none → th (D.gone i) (σ'.set i (some (.ref a))) (upd H' a (ExcO a Dx))) D σ H) := by
  intro pins s σ H D I h
  refine wpAny_Try_except (wpAny_mono (hb (X.pn ++ pins) (fun e s₁ => wpAny (model X.prog X.w) X.A (noteFrame e X.env) (fun _ s₂ => wpAny (model X.prog X.w) X.A (setFlight e none) (fun _ s₃ =>
    wpAny (model X.prog X.w) X.A (handleBy e X.env [.ExceptHandler (some (.Name x np)) (some n) (b₀ :: suite) hpos]) (SP X pins D) X.xe s₃) X.xe s₂) X.xe s₁) _ ?_ [] s σ H D I.inTry h) (fun f s1 hf => ?_) fun e s1 z => z)
  · intro pins' σ' H1 s1 e s2 I1 x1
    obtain ⟨a, T, cls, a0, H', rfl, ⟨hx, Dx, rfl, q⟩, sa, na, J, fl, back⟩ := CX1.behind I1 x1
    have ok := I.ok
    have fr : X.A.frames = some (X.env :: X.outer) := by rw [← hst]; exact ok.frames
    refine wpAny_looks_onW fr hfr (by rw [← hst]; exact fl) fun h4 held up4 => wpAny_landsW held fun h5 fl5 up5 => ?_
    obtain ⟨T5, J5, t5, sT5, nT5, _⟩ := back h5 _ fl5 (up4.trans up5)
    have I5 : Inv X pins σ' H' { s2 with heap := h5 } := J5.outTry ok
    have LT : PySem.W.Looks (model X.prog X.w) h5 (typeOf (.ref a)) (.ref Dx) := by
      obtain ⟨oe, vs, oT, ts, he, ⟨hc, _⟩, _⟩ := t5
      exact exc_ty ⟨oe, he, hc⟩
    refine wpAny_handleBy_cons (codeAny_handlers_test (ld_glob (X := X.hand (.ref a)) I5.hand hg hm ?_ hd)) (by intro q; cases q)
    refine (PySem.W.exm_one I5.kIn LT hx).here ?_
    refine codeAny_handlers_suite_as (lands_againW fl5 fun h6 fl6 up6 => ?_)
    obtain ⟨T6, J6, t6, _, _, un6⟩ := back h6 _ fl6 ((up4.trans up5).trans up6)
    have I6 : Inv X pins σ' (upd H' a (ExcO a Dx)) { s2 with heap := h6 } := by
      refine Inv.track (s := s1) (H := H1) (I1.outTry ok) (J6.outTry ok) un6 sa na ?_
      obtain ⟨oe, vs, oT, ts, he, ⟨hc, _⟩, _⟩ := t6
      exact ⟨⟨oe, he, hc⟩, ⟨oe, he⟩, fun h1 h2 ⟨o1, e1, c1⟩ k => ⟨o1, k o1 e1, c1⟩⟩
    refine store_ok (X := X.hand (.ref a)) (v := .ref a) (I6.hand (e := .ref a)) hN hi (.inl hl) rfl (fun s7 I7 => ?_) (.inr hl)
    refine wpAny_mono (hh (.ref a) pins s7 _ _ (D.gone i) I7 (q a na)) (fun f s3 hs => ?_) (fun _ _ z => z.elim)
    cases f with
    | next => obtain ⟨σ3, H3, I3, q3⟩ := hs; exact Inv.gone (I3.unhand ok) hN hi hl fun s' J' => ⟨_, H3, J', q3⟩
    | brk => obtain ⟨σ3, H3, I3, q3⟩ := hs; exact Inv.gone (I3.unhand ok) hN hi hl fun s' J' => ⟨_, H3, J', q3⟩
    | cont => obtain ⟨σ3, H3, I3, q3⟩ := hs; exact Inv.gone (I3.unhand ok) hN hi hl fun s' J' => ⟨_, H3, J', q3⟩
    | ret u => obtain ⟨v, σ3, H3, I3, r3, q3⟩ := hs; exact Inv.gone (I3.unhand ok) hN hi hl fun s' J' => ⟨v, _, H3, J', r3, q3⟩
  · cases f with
    | next => obtain ⟨σ3, H3, I3, q3⟩ := hf; exact pss_nil pins s1 σ3 H3 D (I3.outTry I.ok) q3
    | brk => obtain ⟨σ3, H3, I3, q3⟩ := hf; exact ⟨σ3, H3, I3.outTry I.ok, q3⟩
    | cont => obtain ⟨σ3, H3, I3, q3⟩ := hf; exact ⟨σ3, H3, I3.outTry I.ok, q3⟩
    | ret u => obtain ⟨v, σ3, H3, I3, r3, q3⟩ := hf; exact ⟨v, σ3, H3, I3.outTry I.ok, r3, q3⟩
end L2
end
section
set_option maxRecDepth 100000
namespace L2
open PySem PySem.Spec PySem.Calls PyProof.Rows
section
variable {P : Program} {w : World} {K : PySem.W.Frag} {mg : Str → Option Value} {base : Heap}
/-- THE RULE for a def that may raise -/
theorem Fun.ok1 {x qual : Str} {st : Stmt} {f : Addr} {fd : FuncData} {N ps : List Str} {k : Nat} {sp : Sp} (F : Fun K x qual st f fd) (S : FnScope N ps (defScope st)) (len : ∀ vs H Q E, sp vs H Q E → vs.length = ps.length)
    (hbody : ∀ (cdv : Value) (A : Around) (outer : List Env) (s : Shared) (H : Hp) (vs : List V) (Q : VK) (E : XK), Room k (A.deeper (envOfC qual (defScope st) s.heap.objs.size f cdv)) → sp vs H Q E →
      ∃ t, PSs (cxOf (CX1 P w) P w K mg base N qual (defScope st) f cdv A outer s H E) (defBody st) t ∧ t { nx := fun _ H' => Q .non H', rt := Q } (start N vs) H) : FnOk P w K mg base (CX1 P w) (k + 1) f fd ps sp := by
  obtain ⟨oc, od, kV, doc, pm, an, cdv, ct, osl, rfl, lk, hcd⟩ := F.ex
  exact fn_of lk hcd S len fun A outer s H vs Q E hr hsp => hbody cdv A outer s H vs Q E hr hsp

/-! ### a def that a handler calls: an exception is being handled -/
structure RoomH (k : Nat) (A : Around) : Prop where
  dp : A.depth + 3 * k + 5 < recursionLimit
  un : A.units + 16 * k + 200 < cLine
theorem Room.h {k : Nat} {A : Around} (r : Room k A) : RoomH k A := ⟨r.dp, r.un⟩
theorem RoomH.mark {k : Nat} {A : Around} {e : Option Value} (r : RoomH k A) : RoomH k (A.mark e) := ⟨r.dp, r.un⟩
theorem RoomH.deeper {k : Nat} {A : Around} (r : RoomH (k + 1) A) (env : Env) : RoomH k (A.deeper env) :=
  ⟨by have := r.dp; show A.depth + 1 + 3 * k + 5 < _; omega, by have := r.un; show A.units + 3 + 16 * k + 200 < _; omega⟩
structure FnOkH (P : Program) (w : World) (K : PySem.W.Frag) (mg : Str → Option Value) (base : Heap) (k : Nat) (f : Addr) (fd : FuncData) (ps : List Str) (sp : Sp) : Prop where
  len : ∀ vs H Q E, sp vs H Q E → vs.length = ps.length
  run : ∀ (A : Around) (outer : List Env) (s : Shared) (H : Hp) (args : Args) (us : List Value) (vs : List V) (Q : VK) (E : XK), RoomH k A → Env0 P w K mg base A outer s H → BindsTo s fd args (ps.zip us) → Vals vs us → sp vs H Q E →
    codeAny (model P w) A (.call (.ref f) args) (CR CX0 outer P w H s Q E) s
/-- the body's context: nothing leaves it, an exception may be being handled -/
def Cx.uncalm (X : Cx) : Cx := { X with calm := false, xe := fun _ _ => False }
theorem Fun.okH {x qual : Str} {st : Stmt} {f : Addr} {fd : FuncData} {N ps : List Str} {k : Nat} {sp : Sp} (F : Fun K x qual st f fd) (S : FnScope N ps (defScope st)) (len : ∀ vs H Q E, sp vs H Q E → vs.length = ps.length)
    (hbody : ∀ (cdv : Value) (A : Around) (outer : List Env) (s : Shared) (H : Hp) (vs : List V) (Q : VK) (E : XK), RoomH k (A.deeper (envOfC qual (defScope st) s.heap.objs.size f cdv)) → sp vs H Q E →
      ∃ t, PSs (cxOf CX0 P w K mg base N qual (defScope st) f cdv A outer s H E).uncalm (defBody st) t ∧ t { nx := fun _ H' => Q .non H', rt := Q } (start N vs) H) : FnOkH P w K mg base (k + 1) f fd ps sp := by
  obtain ⟨oc, od, kV, doc, pm, an, cdv, ct, osl, rfl, lk, hcd⟩ := F.ex
  refine ⟨len, fun A outer s H args us vs Q E hr e0 hb r hsp => ?_⟩
  have hl := len _ _ _ _ hsp
  have KX : K.In s.heap := e0.mod.kin.keeps fun b o e => (e0.bs b o e).1
  have lim : s.heap.NoLimit := e0.mod.nolimit.keeps fun b o e => (e0.bs b o e).1
  have hkind : ∀ y ∈ ps.zip us, (defScope st).names.lookup y.1 = some .local ∨ ((defScope st).names.lookup y.1 = some .cell ∧ ((cellsFrom (s.heap.objs.size + 1) (defScope st).names []).lookup y.1).isSome = true) := fun ⟨n, v⟩ hy => by
    rcases S.par n (List.of_mem_zip hy).1 with q | q
    · exact .inl q
    · exact .inr ⟨q, PySem.W.cellsFrom_some _ _ _ (.inl q)⟩
  refine codeAny_call_function (by have := hr.dp; omega) (KX _ _ lk) rfl S.co S.gen rfl (PySem.W.codeRec_of KX hcd) (hb _ _ _ _ ?_)
  refine wpAny_newFunctionEnv_cells S.kind hkind fun env he s1 x => ?_
  subst he
  refine ⟨lim.keeps x.toInCall.keep, codeAny_func ?_⟩
  obtain ⟨t, ht, hq⟩ := hbody cdv A outer s H vs Q E (hr.deeper _) hsp
  have e1 : Env0 P w K mg base { A with handled := none } outer s H := ⟨e0.frames, e0.mod, e0.bs, e0.bsz, e0.funs, e0.frf, e0.hok, e0.bare⟩
  have I0 : Inv (cxOf CX0 P w K mg base N qual (defScope st) f cdv { A with handled := none } outer s H E) [] (start N vs) H s1 := inv_start S rfl e1 hl r x
  have I : Inv (cxOf CX0 P w K mg base N qual (defScope st) f cdv A outer s H E).uncalm [] (start N vs) H s1 :=
    ⟨⟨I0.ok.mod, I0.ok.kind, I0.ok.glob, I0.ok.blt, I0.ok.above, I0.ok.inj, I0.ok.has, I0.ok.cab, (fun z => nomatch z), Around.frames_deeper e0.frames, I0.ok.stk, I0.ok.exf, I0.ok.bs, I0.ok.bsz, I0.ok.noex, I0.ok.exfs, I0.ok.funs, I0.ok.frf⟩,
      I0.os, I0.bare, I0.base, I0.loc, I0.cell, I0.free, I0.freeC, I0.pin, I0.hok, I0.len⟩
  refine wpAny_mono (ht [] s1 (start N vs) H _ I hq) (fun fl s' hs => ?_) fun e s' hs => hs.elim
  have fin : ∀ {σ' : St} {H' : Hp} {v : V} {u : Value}, Inv (cxOf CX0 P w K mg base N qual (defScope st) f cdv A outer s H E).uncalm [] σ' H' s' → RelV v u → Q v H' → CE outer P w H s Q u s' :=
    fun {σ' H' v u} J rv q => ⟨v, H', J.os, J.bare, J.base, J.hok, rv, q⟩
  cases fl with
  | ret u =>
    obtain ⟨v, σ', H', J, rv, q⟩ := hs
    exact fin J rv q
  | next =>
    obtain ⟨σ', H', J, q⟩ := hs
    exact fin (v := V.non) (u := Value.none) J rfl q
  | brk =>
    obtain ⟨_, _, _, q⟩ := hs
    exact False.elim q
  | cont =>
    obtain ⟨_, _, _, q⟩ := hs
    exact False.elim q
end
section
variable {X : Cx} {k : Nat} {f : Addr} {fd : FuncData} {ps : List Str} {sp : Sp} {dvs : List V} {ds : List Value} {E : XK} {x : Str} {p pos : Pos} {e : Expr} {es : List Expr} {t : TA}
theorem pe_callH (F : FnOkH X.prog X.w X.K X.mg X.base k f fd ps sp) (hr : RoomH k X.A) (hg : Gl X x) (hm : X.mg x = some (.ref f)) (hk : PySem.W.keepIn X.K (.ref f) = true) (hb : Binds X.K fd ps ds) (hd : Vals dvs ds)
    (ha : PA X (e :: es) t) (hdb : (x == ("__debug__" : Str)) = false := by decide) (he : starEach (e :: es) X.env = (false, eval e X.env) :: starEach es X.env := by rfl) (hpl : (backTo pos (starEach es X.env)).any (·.1) = false := by rfl) :
    PE X (.Call (.Name x p) (e :: es) [] pos) (tCall sp dvs E t) := by
  intro pins s σ H Q I h
  refine wpAny_Call_Name_kw (ld_glob I hg hm ?_ hdb)
  refine PySem.W.callWith_K (h₀ := X.base) I.ok.mod.kin hk (thn (ha pos pins s σ H _ I h) fun us s1 ⟨vs, H1, I1, r, q⟩ => ⟨I1.kIn, ?_⟩) he hpl
  have r2 : Vals (vs ++ dvs) (us ++ ds) := r.append hd
  have hl : (us ++ ds).length = ps.length := by rw [← r2.length]; exact F.len _ _ _ _ q
  refine wpAny_call (codeAny_mono (F.run X.A X.stack s1 H1 ⟨us, []⟩ (us ++ ds) (vs ++ dvs) Q E hr I1.env0 (hb s1 us I1.kIn hl) r2 q) fun r s' hq => ?_)
  cases r with
  | error e => exact False.elim hq
  | ok fl =>
    cases fl with
    | ret u => exact I1.after hq
    | next => exact False.elim hq
    | brk => exact False.elim hq
    | cont => exact False.elim hq
end

/-! ### f'text {int}' : some text -/
theorem pe_fstr2 {X : Cx} {x : Str} {j : Nat} {p1 p2 pos : Pos} {e : Expr} {te : TE} (he : PE X e te) (hx : x.length ≤ 1000) :
    PE X (.JoinedStr [.Constant (.str x) j p1, .FormattedValue e (-1) none p2] pos) (fun σ H Q => te σ H fun v H1 => ∃ i : Int, v = .int i ∧ i.natAbs.log2 < 1920 ∧ ∀ y : Str, Q (.str y) H1) := by
  intro pins s σ H Q I h
  have z0 : (Str.empty ++ x).length ≤ 1000 := by rw [Str.append_left_empty (by rfl)]; exact hx
  refine wpAny_JoinedStr ?_
  refine Calls.Constant_str ⟨x, _, rfl, by rw [sizeLine_eq]; omega, ?_⟩
  refine wpAny_FormattedValue_plain (thn (he pins _ σ H _ (I.tok _) h) fun u s1 ⟨v, H1, I1, r1, i, ei, hi, q⟩ => ?_)
  subst ei
  obtain ⟨t, rfl⟩ := (show ∃ t, u = Value.int i t from r1)
  refine wpAny_formatField_int hi ?_
  have e := int_text_length_le (k := 1920) (by decide) hi
  have z1 : ((Str.empty ++ x) ++ Str.ofString (toString i)).length ≤ sizeLine := by
    have l : ((Str.empty ++ x) ++ Str.ofString (toString i)).length = (Str.empty ++ x).length + (Str.ofString (toString i)).length := Array.size_append
    rw [l, PySem.ofString_length, sizeLine_eq]; omega
  exact ⟨_, _, rfl, z1, z1, .str _, H1, I1.tok _, ⟨_, rfl⟩, q _⟩
end L2
end
section
set_option maxRecDepth 100000
namespace L2
open PySem PySem.Spec PySem.Calls PyProof.Rows
/-! ### lists of truth values: xs.count(True), xs.index(True) -/
def blV (bs : List Bool) : List V := bs.map V.bl
theorem vals_bl : ∀ {bs : List Bool} {us : List Value}, Vals (blV bs) us → us = bs.map Value.bool
  | [], _, .nil => rfl
  | b :: bs, _, .cons r t => by
    have e := vals_bl (bs := bs) t
    rw [e, show _ = Value.bool b from r]
    rfl
theorem reads_bl {h : Heap} : ∀ (bs : List Bool), ∃ as, ReadsAll h (bs.map Value.bool) (bs.map PyData.bool) as
  | [] => ⟨_, .nil⟩
  | b :: bs => let ⟨_, r⟩ := reads_bl bs; ⟨_, .cons (.bool b) r⟩
theorem all_bl : ∀ (bs : List Bool), (bs.map PyData.bool).all Shape.bool.has = true
  | [] => rfl
  | b :: bs => by rw [List.map_cons, List.all_cons, all_bl bs]; rfl
theorem count_bl : ∀ (bs : List Bool), (bs.map Value.bool).countP (isBoolOf true) = bs.count true
  | [] => rfl
  | b :: bs => by
    rw [List.map_cons, List.countP_cons, count_bl bs, List.count_cons]
    cases b <;> rfl
section
variable {X : Cx}
theorem mt_countB : MtM X "list.count" (fun x vs H Q => ∃ l bs, x = .ref l ∧ vs = [.bl true] ∧ H l = some (.lst (blV bs)) ∧ Q (.int (bs.count true : Nat)) H) := by
  intro pins s σ H x vs v us Q I rx rv h
  obtain ⟨l, bs, rfl, rfl, hH, q⟩ := h
  cases rx
  obtain ⟨u, rfl, ru⟩ := vals1 rv
  obtain rfl : u = Value.bool true := ru
  obtain ⟨_, its, n, r, e⟩ := (show ObjOk X.prog X.w H s.heap l (.lst (blV bs)) from I.hok l _ hH)
  obtain rfl := vals_bl r
  obtain ⟨as, ra⟩ := reads_bl (h := s.heap) bs
  refine call_meets PySem.F.slot_list_count ⟨_, e, rfl⟩ PySem.F.entry_list_count (PySem.F.args_list_count_2 _ _) (SeqAt.list_countAt l (bs.map Value.bool).toArray n none #[] (.bool true) (isBoolOf true)) ⟨e, fun y hy => eq_isBoolOf true ra (all_bl bs) y (by simpa using hy) _ _, ?_⟩
  rw [show ∀ (x : List Value), x.toArray.toList = x from fun _ => rfl, count_bl]
  exact ⟨.int _, H, I.tok _, ⟨_, rfl⟩, q⟩
theorem mt_indexB : MtM X "list.index" (fun x vs H Q => ∃ l bs j, x = .ref l ∧ vs = [.bl true] ∧ H l = some (.lst (blV bs)) ∧ bs.length ≤ 1000 ∧ bs[j]? = some true ∧ (∀ m, m < j → bs[m]? = some false) ∧ Q (.int (j : Nat)) H) := by
  intro pins s σ H x vs v us Q I rx rv h
  obtain ⟨l, bs, j, rfl, rfl, hH, hlen, hj, hno, q⟩ := h
  cases rx
  obtain ⟨u, rfl, ru⟩ := vals1 rv
  obtain rfl : u = Value.bool true := ru
  obtain ⟨_, its, n, r, e⟩ := (show ObjOk X.prog X.w H s.heap l (.lst (blV bs)) from I.hok l _ hH)
  obtain rfl := vals_bl r
  obtain ⟨as, ra⟩ := reads_bl (h := s.heap) bs
  obtain ⟨hj', hjt⟩ := List.getElem?_eq_some_iff.mp hj
  refine call_meets PySem.F.slot_list_index ⟨_, e, rfl⟩ PySem.F.entry_list_index (PySem.F.args_list_index_2 _ _) (SeqAt.list_indexAt l (bs.map Value.bool).toArray n none #[] (.bool true) (isBoolOf true) j (by simpa using hj') (by omega) ?_ ?_) ⟨e, fun y hy => eq_isBoolOf true ra (all_bl bs) y (by simpa using hy) _ _, ?_⟩
  · simp [hjt, isBoolOf]
  · intro m hm hmj
    obtain ⟨hm', hmf⟩ := List.getElem?_eq_some_iff.mp (hno m hmj)
    simp [hmf, isBoolOf]
  · exact ⟨.int _, H, I.tok _, ⟨_, rfl⟩, q⟩
end

/-! ### isinstance(e, C) of an exception e, C an own class (.ref) or a built-in type (.ty) -/
def clV : V → Value
  | .ref a => .ref a
  | .ty n => .type n
  | _ => .none
theorem call_isExc {X : Cx} : CallR X (.builtin "isinstance") (fun xs H Q => ∃ x D c b, xs = [.ref x, c] ∧ ((∃ a, c = .ref a) ∨ ∃ n, c = .ty n) ∧ H x = some (ExcO x D) ∧ ExcK X.K D ∧ PySem.W.kitOne X.K (.ref D) (clV c) = some b ∧ Q (.bl b) H) := by
  intro pins s σ H xs us Q I r h
  obtain ⟨x, D, c, b, rfl, hc, hx, kx, e, q⟩ := h
  cases r with
  | cons r1 rt =>
    obtain ⟨u, rfl, ru⟩ := vals1 rt
    obtain rfl := (show _ = Value.ref x from r1)
    have hu : u = clV c := by
      rcases hc with ⟨a, rfl⟩ | ⟨n, rfl⟩
      · exact ru
      · exact ru
    subst hu
    exact isinst_exc I hx kx e fun tk => ⟨.bl b, H, I.tok _, rfl, q⟩
end L2
end
section
set_option maxRecDepth 100000
namespace L2
open PySem PySem.Spec PySem.Calls PyProof.Rows
/-! ### defs with defaults that may raise; keyword calls -/
section
variable {P : Program} {w : World} {K : PySem.W.Frag} {mg : Str → Option Value} {base : Heap}
theorem FunD.ok1 {x qual : Str} {st : Stmt} {f T : Addr} {fd : FuncData} {ds : List Value} {N ps : List Str} {k : Nat} {sp : Sp} (F : FunD K x qual st f fd T ds) (S : FnScope N ps (defScope st)) (len : ∀ vs H Q E, sp vs H Q E → vs.length = ps.length)
    (hbody : ∀ (cdv : Value) (A : Around) (outer : List Env) (s : Shared) (H : Hp) (vs : List V) (Q : VK) (E : XK), Room k (A.deeper (envOfC qual (defScope st) s.heap.objs.size f cdv)) → sp vs H Q E →
      ∃ t, PSs (cxOf (CX1 P w) P w K mg base N qual (defScope st) f cdv A outer s H E) (defBody st) t ∧ t { nx := fun _ H' => Q .non H', rt := Q } (start N vs) H) : FnOk P w K mg base (CX1 P w) (k + 1) f fd ps sp := by
  obtain ⟨oc, od, kV, doc, pm, an, cdv, ct, osl, rfl, lk, hcd⟩ := F.ex
  exact fn_of lk hcd S len fun A outer s H vs Q E hr hsp => hbody cdv A outer s H vs Q E hr hsp
end
section
variable {X : Cx} {CX : CXT} {k : Nat} {f C : Addr} {fd : FuncData} {ps ks : List Str} {sp : Sp} {E : St → XK} {x m : Str} {p pos apos kpos : Pos} {e o : Expr} {es : List Expr} {kws : List Keyword} {te ta : TE} {t tk : TA} {nm : Option Str}
  {g : List Value → List Value → List Value} {gV : List V → List V → List V}
theorem pe_callKS (F : FnOk X.prog X.w X.K X.mg X.base CX k f fd ps sp) (hr : Room k X.A) (hg : Gl X x) (hm : X.mg x = some (.ref f)) (hk : PySem.W.keepIn X.K (.ref f) = true) (hb : KBinds X.K fd ps ks g gV) (hx : PassesS CX X E)
    (ha : PA X (e :: es) t) (hkw : PK X kws tk) (hall : (backToKw pos (keywordEach kws X.env)).all (·.1.isSome) = true := by rfl) (hks : (backToKw pos (keywordEach kws X.env)).filterMap (·.1) = ks := by rfl)
    (hdb : (x == ("__debug__" : Str)) = false := by decide) (he : starEach (e :: es) X.env = (false, eval e X.env) :: starEach es X.env := by rfl)
    (hpl : ((backTo pos (starEach (e :: es) X.env)).any (·.1) || (backToKw pos (keywordEach kws X.env)).any (·.1.isNone)) = false := by rfl) :
    PE X (.Call (.Name x p) (e :: es) kws pos) (fun σ => tCallK sp gV (E σ) t tk σ) := by
  intro pins s σ H Q I h
  refine wpAny_Call_Name_kw (ld_glob I hg hm ?_ hdb)
  refine PySem.W.callWith_KW (h₀ := X.base) I.ok.mod.kin hk hall (thn (ha pos pins s σ H _ I h) fun us s1 ⟨vs, H1, I1, r, q⟩ => ?_) hpl he
  refine thn (hkw pos pins s1 σ H1 _ I1 q) fun ws s2 ⟨zs, H2, I2, rz, q2⟩ => ⟨I2.kIn, ?_⟩
  rw [hks]
  have r2 := hb.rel r rz
  have hl : (g us ws).length = ps.length := by rw [← r2.length]; exact F.len _ _ _ _ q2
  refine wpAny_call (codeAny_mono (F.run X.A X.stack s2 H2 ⟨us, ks.zip ws⟩ (g us ws) (gV vs zs) Q (E σ) hr I2.env0 (hb.to s2 us ws I2.kIn hl) r2 q2) fun r s' hq => ?_)
  cases r with
  | error e => exact hx pins σ H2 s2 e s' I2 hq
  | ok fl =>
    cases fl with
    | ret u => exact I2.after hq
    | next => exact False.elim hq
    | brk => exact False.elim hq
    | cont => exact False.elim hq
end
/-! ### a def upon data that answers with data or raises -/
def spE (K : PySem.W.Frag) (R : List D → D → Prop) (B : List D → Addr → Prop) : Sp := fun vs H Q E =>
  ∃ ds, Dats K H ds vs ∧ ((∃ d, R ds d ∧ ∀ v H', Same H H' → Dat K H' d v → Q v H') ∨ ∃ C, B ds C ∧ ∀ H', Same H H' → E (.ref C) none H')
section
variable {K : PySem.W.Frag} {σ : St} {H : Hp} {tA tK : TA} {ds es fs : List D} {d e : D} {dvs : List V} {R : List D → D → Prop} {B : List D → Addr → Prop} {E : XK} {Q : VK} {C : Addr} {gV : List V → List V → List V} {ta tb : TE}
theorem re_callE (h : RA K tA σ H ds) (r : R ds d) : RE K (tCall (spE K R B) [] E tA) σ H d := fun H1 s Q q =>
  h H1 s _ fun vs H2 s2 q2 => ⟨ds, by rw [List.append_nil]; exact q2, .inl ⟨d, r, fun v H3 s3 q3 => q _ _ (s2.trans s3) q3⟩⟩
theorem rx_callE (h : RA K tA σ H ds) (r : B ds C) (q : ∀ H', Same H H' → E (.ref C) none H') : tCall (spE K R B) [] E tA σ H Q :=
  h.use fun vs H2 s2 q2 => ⟨ds, by rw [List.append_nil]; exact q2, .inr ⟨C, r, fun H3 s3 => q _ (s2.trans s3)⟩⟩
theorem re_callED (h : RA K tA σ H ds) (hd : ∀ H, Dats K H es dvs) (r : R (ds ++ es) d) : RE K (tCall (spE K R B) dvs E tA) σ H d := fun H1 s Q q =>
  h H1 s _ fun vs H2 s2 q2 => ⟨ds ++ es, Dats.append q2 (hd _), .inl ⟨d, r, fun v H3 s3 q3 => q _ _ (s2.trans s3) q3⟩⟩
theorem rx_callED (h : RA K tA σ H ds) (hd : ∀ H, Dats K H es dvs) (r : B (ds ++ es) C) (q : ∀ H', Same H H' → E (.ref C) none H') : tCall (spE K R B) dvs E tA σ H Q :=
  h.use fun vs H2 s2 q2 => ⟨ds ++ es, Dats.append q2 (hd _), .inr ⟨C, r, fun H3 s3 => q _ (s2.trans s3)⟩⟩
theorem re_callEK (h : RA K tA σ H ds) (hk : RA K tK σ H es) (hg : ∀ H vs zs, Dats K H ds vs → Dats K H es zs → Dats K H fs (gV vs zs)) (r : R fs d) : RE K (tCallK (spE K R B) gV E tA tK) σ H d := fun H1 s Q q =>
  h H1 s _ fun vs H2 s2 q2 => hk H2 (s.trans s2) _ fun zs H3 s3 q3 => ⟨fs, hg _ _ _ (s3.dats q2) q3, .inl ⟨d, r, fun v H4 s4 q4 => q _ _ (s2.trans (s3.trans s4)) q4⟩⟩
theorem rx_callEK (h : RA K tA σ H ds) (hk : RA K tK σ H es) (hg : ∀ H vs zs, Dats K H ds vs → Dats K H es zs → Dats K H fs (gV vs zs)) (r : B fs C) (q : ∀ H', Same H H' → E (.ref C) none H') : tCallK (spE K R B) gV E tA tK σ H Q :=
  h.use fun vs H2 s2 q2 => hk H2 s2 _ fun zs H3 s3 q3 => ⟨fs, hg _ _ _ (s3.dats q2) q3, .inr ⟨C, r, fun H4 s4 => q _ (s2.trans (s3.trans s4))⟩⟩
theorem re_neDD (h1 : RE K ta σ H d) (h2 : RE K tb σ H e) (n1 : noL d = true) (n2 : noL e = true) (dp : deepD d ≤ 20) : RE K (tOp (rEqD K true) ta tb) σ H (.bl (!eqD d e)) := fun H1 s Q q =>
  h1 H1 s _ fun v H2 s2 q2 => h2 H2 (s.trans s2) _ fun w H3 s3 q3 => ⟨d, e, s3.dat q2, q3, n1, n2, dp, q _ _ (s2.trans s3) (Dat.blI _)⟩
theorem re_eqDD (h1 : RE K ta σ H d) (h2 : RE K tb σ H e) (n1 : noL d = true) (n2 : noL e = true) (dp : deepD d ≤ 20) : RE K (tOp (rEqD K false) ta tb) σ H (.bl (eqD d e)) := fun H1 s Q q =>
  h1 H1 s _ fun v H2 s2 q2 => h2 H2 (s.trans s2) _ fun w H3 s3 q3 => ⟨d, e, s3.dat q2, q3, n1, n2, dp, q _ _ (s2.trans s3) (Dat.blI _)⟩
/-- isinstance(e, C) of an exception -/
theorem re_isExc {x D : Addr} {c : V} {b : Bool} {i : Nat} (hx : H x = some (ExcO x D)) (kx : ExcK K D) (kit : PySem.W.kitOne K (.ref D) (clV c) = some b) (hc : (∃ a, c = .ref a) ∨ ∃ n, c = .ty n) (e : σ[i]? = some (some (.ref x)) := by rfl) :
    RE K (tCB (fun xs H Q => ∃ x D c b, xs = [.ref x, c] ∧ ((∃ a, c = .ref a) ∨ ∃ n, c = .ty n) ∧ H x = some (ExcO x D) ∧ ExcK K D ∧ PySem.W.kitOne K (.ref D) (clV c) = some b ∧ Q (.bl b) H) (tCons (tVar i) (tCons (tC c) tNil))) σ H (.bl b) := fun H1 s Q q =>
  ⟨_, e, x, D, c, b, rfl, hc, s _ _ hx, kx, kit, q _ _ (Same.refl _) (Dat.blI _)⟩
/-- xs.count(True), xs.index(True) -/
theorem re_countB {i : Nat} {l : Addr} {bs : List Bool} (hl : H l = some (.lst (blV bs))) (e : σ[i]? = some (some (.ref l)) := by rfl) :
    RE K (tBM K "list" (fun x vs H Q => ∃ l bs, x = .ref l ∧ vs = [.bl true] ∧ H l = some (.lst (blV bs)) ∧ Q (.int (bs.count true : Nat)) H) (tVar i) (tCons (tC (.bl true)) tNil)) σ H (.int (bs.count true : Nat)) := fun H1 s Q q =>
  ⟨_, e, .inl ⟨rfl, _, SqL.of (s _ _ hl)⟩, l, bs, rfl, rfl, s _ _ hl, q _ _ (Same.refl _) (Dat.intI _)⟩
theorem re_indexB {i j : Nat} {l : Addr} {bs : List Bool} (hl : H l = some (.lst (blV bs))) (hn : bs.length ≤ 1000) (h1 : bs[j]? = some true) (h2 : ∀ m, m < j → bs[m]? = some false) (e : σ[i]? = some (some (.ref l)) := by rfl) :
    RE K (tBM K "list" (fun x vs H Q => ∃ l bs j, x = .ref l ∧ vs = [.bl true] ∧ H l = some (.lst (blV bs)) ∧ bs.length ≤ 1000 ∧ bs[j]? = some true ∧ (∀ m, m < j → bs[m]? = some false) ∧ Q (.int (j : Nat)) H) (tVar i) (tCons (tC (.bl true)) tNil)) σ H (.int (j : Nat)) := fun H1 s Q q =>
  ⟨_, e, .inl ⟨rfl, _, SqL.of (s _ _ hl)⟩, l, bs, j, rfl, rfl, s _ _ hl, hn, h1, h2, q _ _ (Same.refl _) (Dat.intI _)⟩
end
/-! ### a tuple of one, times an int -/
section
variable {X : Cx}
theorem noFill_tuple_mul : fillsNumberSlot (.type "tuple") "mul" = pure false :=
  PySem.fillsNumberSlot_seq (id := "tuple.__mul__") (r := some (.builtin "tuple.__rmul__")) PySem.F.slot_tuple_mul.lookup (by decide +kernel) PySem.F.slot_tuple_rmul.lookup (by decide +kernel)
theorem repeat_tuple : seqRepeat? (.type "tuple") = pure (some (.builtin "tuple.__mul__")) := by
  unfold seqRepeat?
  rw [PySem.seqSlot_of (T := "tuple") (name := "__mul__") (id := "tuple.__mul__") PySem.F.slot_tuple_mul.lookup (by decide +kernel), PySem.seqSlot_of (T := "tuple") (name := "__rmul__") (id := "tuple.__rmul__") PySem.F.slot_tuple_rmul.lookup (by decide +kernel)]
  rfl
theorem int_rmul_tuple (a : Int) (t : Tok) (l : Addr) (items : Array Value) (n : Nat) (dd : Option Addr) (sl : Array (Option Value)) :
    Meets (Builtin.«int.__rmul__» ⟨[.int a t, .ref l], []⟩) (fun _ R s => s.heap.get? l = some { cls := .type "tuple", dict := dd, data := .seq items n, slots := sl } ∧ R (.ok (.ret Value.notImplemented)) s) :=
  .of_wp fun _ _ _ _ s q => by
    obtain ⟨h0, g0, d0, t0, o0⟩ := s
    obtain ⟨at_l, q⟩ := q
    wp_walk
    exact ⟨_, rfl, q⟩
theorem tuple_mul5 (l : Addr) (v : Value) (n : Nat) (dd : Option Addr) (sl : Array (Option Value)) (u : Tok) :
    Meets (Builtin.«tuple.__mul__» ⟨[.ref l, .int 5 u], []⟩) (fun _ R s => s.heap.get? l = some { cls := .type "tuple", dict := dd, data := .seq #[v] n, slots := sl } ∧ R (.ok (.ret (Value.ref s.heap.objs.size))) { s with heap := s.heap.push { cls := .type "tuple", data := .seq #[v, v, v, v, v] } }) :=
  .of_wp fun _ _ _ _ s q => by
    obtain ⟨h0, g0, d0, t0, o0⟩ := s
    obtain ⟨at_l, q⟩ := q
    wp_walk
    exact ⟨_, rfl, q⟩
def rRep5 (K : PySem.W.Frag) : R2 := fun x y H Q => ∃ a v, x = .ref a ∧ y = .int 5 ∧ SqT K H a [v] ∧ ∀ p, H p = none → Q (.ref p) (upd H p (.tup [v, v, v, v, v]))
theorem op_repT : OpR X (binaryOp .Mult) (rRep5 X.K) := by
  intro pins s σ H x y v u Q I rx ry h
  obtain ⟨a, z, rfl, rfl, ha, q⟩ := h
  cases rx
  obtain ⟨t, rfl⟩ := ry
  obtain ⟨its, r, p, _⟩ := I.tuple ha
  obtain ⟨z', rfl, rz⟩ := vals1 r
  obtain ⟨⟨cls, dd, data, sl⟩, ho, hc, n, hd⟩ := id p
  simp only at hc hd
  subst hc hd
  refine wpAny_binaryOp_repeat_ref (T := "tuple") (U := "int") (by decide) ⟨_, ho, rfl⟩ (fun s' => typeIs_int s' 5 t) noFill_tuple_mul PySem.F.fills_int_mul PySem.F.slot_int_rmul repeat_tuple PySem.F.slot_int_index.lookup
    (call_meets PySem.F.slot_int_rmul (typeIs_int s 5 t) PySem.F.entry_int_rmul (PySem.F.args_int_rmul_2 _ _) (int_rmul_tuple 5 t a _ n dd sl)
      ⟨ho, rfl, ⟨_, ho, rfl⟩, call_meets PySem.F.slot_tuple_mul ⟨_, ho, rfl⟩ PySem.F.entry_tuple_mul (PySem.F.args_tuple_mul_2 _ _) (tuple_mul5 a z' n dd sl t) ⟨ho, ?_⟩⟩)
  refine ⟨.ref s.heap.objs.size, _, I.laid (t' := s.toks) (o := .tup [z, z, z, z, z]) (fun b ob q => Heap.get?_push_of_some _ q) (Nat.le_refl _) ?_, rfl, q _ (I.hok.fresh (Nat.le_refl _))⟩
  exact ⟨by rw [sizeLine_eq]; simp, [z', z', z', z', z'], .cons rz (.cons rz (.cons rz (.cons rz (.cons rz .nil)))), IsTup.new _ _⟩
theorem re_rep {K : PySem.W.Frag} {σ : St} {H : Hp} {ta : TE} {d : D} (h : RE K ta σ H (.tup [d])) : RE K (tOp (rRep5 K) ta (tC (.int 5))) σ H (.tup [d, d, d, d, d]) := fun H1 s Q q =>
  h H1 s _ fun v H2 s2 q2 => by
    obtain ⟨a, vs, rfl, hq, hd⟩ := q2.tupE
    obtain ⟨y, rfl, hy⟩ := dats1 hd
    refine ⟨a, y, rfl, rfl, hq, fun p hp => q _ _ (s2.trans (same_new hp _)) (Dat.tupI (SqT.of upd_same) ?_)⟩
    have hy' := (same_new hp (.tup [y, y, y, y, y])).dat hy
    exact Dats.cons hy' (Dats.cons hy' (Dats.cons hy' (Dats.cons hy' (Dats.cons hy' Dats.nil))))
end
end L2
end
section
set_option Elab.async false
set_option linter.all false
set_option maxRecDepth 100000
set_option maxHeartbeats 4000000
namespace My
open PySem L2 PyProof.Rows
def top (i : Nat) : Stmt := PySem.Challenge.pw_piecelay_k04_trees_refused.main.body.getD i (.Pass ⟨0, 0, 0, 0⟩)
abbrev TL : List (Str × KTD.Dat) := [("num", .flat (.int 9999)), ("arg", .flat (.int 3))]
abbrev TB : List (Str × KTD.Dat) := [("add", .flat (.int 2)), ("sub", .flat (.int 2)), ("mul", .flat (.int 2)), ("less", .flat (.int 2)), ("pick", .flat (.int 3))]
abbrev s_is_whole : Stmt := top 19
theorem sc_is_whole : FnScope ["thing", "low", "high"] ["thing", "low", "high"] (defScope s_is_whole) := ⟨rfl, rfl, rfl, by decide +kernel, rfl, by decide +kernel, by decide +kernel⟩
abbrev s_is_tagged : Stmt := top 20
theorem sc_is_tagged : FnScope ["thing"] ["thing"] (defScope s_is_tagged) := ⟨rfl, rfl, rfl, by decide +kernel, rfl, by decide +kernel, by decide +kernel⟩
abbrev s_is_node : Stmt := top 28
theorem sc_is_node : FnScope ["thing", "kind"] ["thing"] (defScope s_is_node) := ⟨rfl, rfl, rfl, by decide +kernel, rfl, by decide +kernel, by decide +kernel⟩
abbrev s_trees_within : Stmt := top 29
theorem sc_trees_within : FnScope ["tree"] ["tree"] (defScope s_trees_within) := ⟨rfl, rfl, rfl, by decide +kernel, rfl, by decide +kernel, by decide +kernel⟩
abbrev s_is_tree : Stmt := top 30
theorem sc_is_tree : FnScope ["thing", "waiting", "parts", "part", "deep"] ["thing"] (defScope s_is_tree) := ⟨rfl, rfl, rfl, by decide +kernel, rfl, by decide +kernel, by decide +kernel⟩
abbrev s_need_tree : Stmt := top 31
theorem sc_need_tree : FnScope ["tree"] ["tree"] (defScope s_need_tree) := ⟨rfl, rfl, rfl, by decide +kernel, rfl, by decide +kernel, by decide +kernel⟩
abbrev s_walked : Stmt := top 35
abbrev s_parts_of : Stmt := top 36
theorem sc_parts_of : FnScope ["tree"] ["tree"] (defScope s_parts_of) := ⟨rfl, rfl, rfl, by decide +kernel, rfl, by decide +kernel, by decide +kernel⟩
abbrev s_need_size : Stmt := top 21
theorem sc_need_size : FnScope ["size", "most"] ["size", "most"] (defScope s_need_size) := ⟨rfl, rfl, rfl, by decide +kernel, rfl, by decide +kernel, by decide +kernel⟩
abbrev s_need_args : Stmt := top 22
theorem sc_need_args : FnScope ["args", "size"] ["args", "size"] (defScope s_need_args) := ⟨rfl, rfl, rfl, by decide +kernel, rfl, by decide +kernel, by decide +kernel⟩
abbrev s_worth_of_both : Stmt := top 32
theorem sc_worth_of_both : FnScope ["kind", "first", "second", "size"] ["kind", "first", "second", "size"] (defScope s_worth_of_both) := ⟨rfl, rfl, rfl, by decide +kernel, rfl, by decide +kernel, by decide +kernel⟩
abbrev s_reckoned : Stmt := top 33
theorem sc_reckoned : FnScope ["tree", "args", "size", "kind", "first"] ["tree", "args", "size"] (defScope s_reckoned) := ⟨rfl, rfl, rfl, by decide +kernel, rfl, by decide +kernel, by decide +kernel⟩
abbrev s_worth : Stmt := top 34
theorem sc_worth : FnScope ["tree", "args", "size"] ["tree", "args", "size"] (defScope s_worth) := ⟨rfl, rfl, rfl, by decide +kernel, rfl, by decide +kernel, by decide +kernel⟩
abbrev s__law_draw : Stmt := top 38
theorem sc__law_draw : FnScope ["_law_script", "_law_town", "_law_many", "_law_one", "_law_at", "_law_mixed"] ["_law_script", "_law_town", "_law_many"] (defScope s__law_draw) := ⟨rfl, rfl, rfl, by decide +kernel, rfl, by decide +kernel, by decide +kernel⟩
abbrev s__law_pick : Stmt := top 39
theorem sc__law_pick : FnScope ["_law_script", "_law_town", "_law_some"] ["_law_script", "_law_town", "_law_some"] (defScope s__law_pick) := ⟨rfl, rfl, rfl, by decide +kernel, rfl, by decide +kernel, by decide +kernel⟩
abbrev s__law_tree : Stmt := top 40
theorem sc__law_tree : FnScope ["_law_script", "_law_town", "_law_room", "_law_leaf", "_law_name", "_law_many"] ["_law_script", "_law_town", "_law_room"] (defScope s__law_tree) := ⟨rfl, rfl, rfl, by decide +kernel, rfl, by decide +kernel, by decide +kernel⟩
abbrev s__law_no_tree : Stmt := top 43
theorem sc__law_no_tree : FnScope ["_law_script", "_law_town", "_law_num", "_law_arg", "_law_low", "_law_k", "_law_wide", "_law_bad"] ["_law_script", "_law_town"] (defScope s__law_no_tree) := ⟨rfl, rfl, rfl, by decide +kernel, rfl, by decide +kernel, by decide +kernel⟩
abbrev s__law_which : Stmt := top 44
theorem sc__law_which : FnScope ["_law_e", "_law_own"] ["_law_e"] (defScope s__law_which) := ⟨rfl, rfl, rfl, by decide +kernel, rfl, by decide +kernel, by decide +kernel⟩
abbrev s__law_ask : Stmt := top 45
theorem sc__law_ask : FnScope ["_law_what", "_law_tree_here", "_law_args_here", "_law_base", "_law_e"] ["_law_what", "_law_tree_here", "_law_args_here", "_law_base"] (defScope s__law_ask) := ⟨rfl, rfl, rfl, by decide +kernel, rfl, by decide +kernel, by decide +kernel⟩
abbrev s_law : Stmt := top 46
theorem sc_law : FnScope ["_law_script", "_law_town", "_law_bad", "_law_tree_here", "_law_odd", "_law_wrong"] ["_law_script"] (defScope s_law) := ⟨rfl, rfl, rfl, by decide +kernel, rfl, by decide +kernel, by decide +kernel⟩
structure Txt (K : PySem.W.Frag) (mg : Str → Option Value) where
  a_is_whole : Addr
  d_is_whole : FuncData
  f_is_whole : Fun K "is_whole" "is_whole" s_is_whole a_is_whole d_is_whole
  m_is_whole : mg "is_whole" = some (.ref a_is_whole)
  a_is_tagged : Addr
  d_is_tagged : FuncData
  f_is_tagged : Fun K "is_tagged" "is_tagged" s_is_tagged a_is_tagged d_is_tagged
  m_is_tagged : mg "is_tagged" = some (.ref a_is_tagged)
  a_is_node : Addr
  d_is_node : FuncData
  f_is_node : Fun K "is_node" "is_node" s_is_node a_is_node d_is_node
  m_is_node : mg "is_node" = some (.ref a_is_node)
  a_trees_within : Addr
  d_trees_within : FuncData
  f_trees_within : Fun K "trees_within" "trees_within" s_trees_within a_trees_within d_trees_within
  m_trees_within : mg "trees_within" = some (.ref a_trees_within)
  a_is_tree : Addr
  d_is_tree : FuncData
  f_is_tree : Fun K "is_tree" "is_tree" s_is_tree a_is_tree d_is_tree
  m_is_tree : mg "is_tree" = some (.ref a_is_tree)
  a_need_tree : Addr
  d_need_tree : FuncData
  f_need_tree : Fun K "need_tree" "need_tree" s_need_tree a_need_tree d_need_tree
  m_need_tree : mg "need_tree" = some (.ref a_need_tree)
  a_walked : Addr
  d_walked : FuncData
  f_walked : Fun K "walked" "walked" s_walked a_walked d_walked
  m_walked : mg "walked" = some (.ref a_walked)
  a_parts_of : Addr
  d_parts_of : FuncData
  f_parts_of : Fun K "parts_of" "parts_of" s_parts_of a_parts_of d_parts_of
  m_parts_of : mg "parts_of" = some (.ref a_parts_of)
  a_need_size : Addr
  d_need_size : FuncData
  u_need_size : Addr
  q_need_size : Tok
  f_need_size : FunD K "need_size" "need_size" s_need_size a_need_size d_need_size u_need_size [.int 10000 q_need_size]
  m_need_size : mg "need_size" = some (.ref a_need_size)
  a_need_args : Addr
  d_need_args : FuncData
  f_need_args : Fun K "need_args" "need_args" s_need_args a_need_args d_need_args
  m_need_args : mg "need_args" = some (.ref a_need_args)
  a_worth_of_both : Addr
  d_worth_of_both : FuncData
  f_worth_of_both : Fun K "worth_of_both" "worth_of_both" s_worth_of_both a_worth_of_both d_worth_of_both
  m_worth_of_both : mg "worth_of_both" = some (.ref a_worth_of_both)
  a_reckoned : Addr
  d_reckoned : FuncData
  f_reckoned : Fun K "reckoned" "reckoned" s_reckoned a_reckoned d_reckoned
  m_reckoned : mg "reckoned" = some (.ref a_reckoned)
  a_worth : Addr
  d_worth : FuncData
  f_worth : Fun K "worth" "worth" s_worth a_worth d_worth
  m_worth : mg "worth" = some (.ref a_worth)
  a__law_draw : Addr
  d__law_draw : FuncData
  f__law_draw : Fun K "_law_draw" "_law_draw" s__law_draw a__law_draw d__law_draw
  m__law_draw : mg "_law_draw" = some (.ref a__law_draw)
  a__law_pick : Addr
  d__law_pick : FuncData
  f__law_pick : Fun K "_law_pick" "_law_pick" s__law_pick a__law_pick d__law_pick
  m__law_pick : mg "_law_pick" = some (.ref a__law_pick)
  a__law_tree : Addr
  d__law_tree : FuncData
  f__law_tree : Fun K "_law_tree" "_law_tree" s__law_tree a__law_tree d__law_tree
  m__law_tree : mg "_law_tree" = some (.ref a__law_tree)
  a__law_no_tree : Addr
  d__law_no_tree : FuncData
  f__law_no_tree : Fun K "_law_no_tree" "_law_no_tree" s__law_no_tree a__law_no_tree d__law_no_tree
  m__law_no_tree : mg "_law_no_tree" = some (.ref a__law_no_tree)
  a__law_which : Addr
  d__law_which : FuncData
  f__law_which : Fun K "_law_which" "_law_which" s__law_which a__law_which d__law_which
  m__law_which : mg "_law_which" = some (.ref a__law_which)
  a__law_ask : Addr
  d__law_ask : FuncData
  f__law_ask : Fun K "_law_ask" "_law_ask" s__law_ask a__law_ask d__law_ask
  m__law_ask : mg "_law_ask" = some (.ref a__law_ask)
  a_law : Addr
  d_law : FuncData
  f_law : Fun K "law" "law" s_law a_law d_law
  m_law : mg "law" = some (.ref a_law)
  t_MOST_PARTS : Tok
  g_MOST_PARTS : mg "MOST_PARTS" = some (.int 40 t_MOST_PARTS)
  t_MOST_DEEP : Tok
  g_MOST_DEEP : mg "MOST_DEEP" = some (.int 8 t_MOST_DEEP)
  t_MANY_ARGS : Tok
  g_MANY_ARGS : mg "MANY_ARGS" = some (.int 4 t_MANY_ARGS)
  t_MOST_SIZE : Tok
  g_MOST_SIZE : mg "MOST_SIZE" = some (.int 10000 t_MOST_SIZE)
  a_MOST_IN_LEAF : Addr
  g_MOST_IN_LEAF : mg "MOST_IN_LEAF" = some (.ref a_MOST_IN_LEAF)
  t_MOST_IN_LEAF : TabK K a_MOST_IN_LEAF TL
  a_TREES_IN_BRANCH : Addr
  g_TREES_IN_BRANCH : mg "TREES_IN_BRANCH" = some (.ref a_TREES_IN_BRANCH)
  t_TREES_IN_BRANCH : TabK K a_TREES_IN_BRANCH TB
  a_PieceError : Addr
  g_PieceError : mg "PieceError" = some (.ref a_PieceError)
  a_NoSize : Addr
  g_NoSize : mg "NoSize" = some (.ref a_NoSize)
  a_NoTree : Addr
  g_NoTree : mg "NoTree" = some (.ref a_NoTree)
  a_NoArgs : Addr
  g_NoArgs : mg "NoArgs" = some (.ref a_NoArgs)
  a_NoCode : Addr
  g_NoCode : mg "NoCode" = some (.ref a_NoCode)
  a_NoSteps : Addr
  g_NoSteps : mg "NoSteps" = some (.ref a_NoSteps)
  a_Late : Addr
  g_Late : mg "Late" = some (.ref a_Late)
  a_NoPiece : Addr
  g_NoPiece : mg "NoPiece" = some (.ref a_NoPiece)
  a_NoSet : Addr
  g_NoSet : mg "NoSet" = some (.ref a_NoSet)
  a_NoCover : Addr
  g_NoCover : mg "NoCover" = some (.ref a_NoCover)
  a_NoParts : Addr
  g_NoParts : mg "NoParts" = some (.ref a_NoParts)
  a_NoName : Addr
  g_NoName : mg "NoName" = some (.ref a_NoName)
  a_Taken : Addr
  g_Taken : mg "Taken" = some (.ref a_Taken)
  a_Fault : Addr
  g_Fault : mg "Fault" = some (.ref a_Fault)
  a_Broken : Addr
  g_Broken : mg "Broken" = some (.ref a_Broken)
  r_NoSize : excAt K a_NoSize [.type "ValueError", .type "Exception", .type "BaseException", .type "object"] "ValueError.__new__" none = true
  x_NoSize : ExcK K a_NoSize
  r_NoTree : excAt K a_NoTree [.type "ValueError", .type "Exception", .type "BaseException", .type "object"] "ValueError.__new__" none = true
  x_NoTree : ExcK K a_NoTree
  r_NoArgs : excAt K a_NoArgs [.type "ValueError", .type "Exception", .type "BaseException", .type "object"] "ValueError.__new__" none = true
  x_NoArgs : ExcK K a_NoArgs
  e_NoSize_PieceError : PySem.W.exmOne K (.ref a_NoSize) (.ref a_PieceError) = some true
  e_NoTree_PieceError : PySem.W.exmOne K (.ref a_NoTree) (.ref a_PieceError) = some true
  e_NoArgs_PieceError : PySem.W.exmOne K (.ref a_NoArgs) (.ref a_PieceError) = some true
  k_NoSize_NoSize : PySem.W.kitOne K (.ref a_NoSize) (.ref a_NoSize) = some true
  k_NoSize_NoTree : PySem.W.kitOne K (.ref a_NoSize) (.ref a_NoTree) = some false
  k_NoSize_NoArgs : PySem.W.kitOne K (.ref a_NoSize) (.ref a_NoArgs) = some false
  k_NoSize_NoCode : PySem.W.kitOne K (.ref a_NoSize) (.ref a_NoCode) = some false
  k_NoSize_NoSteps : PySem.W.kitOne K (.ref a_NoSize) (.ref a_NoSteps) = some false
  k_NoSize_Late : PySem.W.kitOne K (.ref a_NoSize) (.ref a_Late) = some false
  k_NoSize_NoPiece : PySem.W.kitOne K (.ref a_NoSize) (.ref a_NoPiece) = some false
  k_NoSize_NoSet : PySem.W.kitOne K (.ref a_NoSize) (.ref a_NoSet) = some false
  k_NoSize_NoCover : PySem.W.kitOne K (.ref a_NoSize) (.ref a_NoCover) = some false
  k_NoSize_NoParts : PySem.W.kitOne K (.ref a_NoSize) (.ref a_NoParts) = some false
  k_NoSize_NoName : PySem.W.kitOne K (.ref a_NoSize) (.ref a_NoName) = some false
  k_NoSize_Taken : PySem.W.kitOne K (.ref a_NoSize) (.ref a_Taken) = some false
  k_NoSize_Fault : PySem.W.kitOne K (.ref a_NoSize) (.ref a_Fault) = some false
  k_NoSize_Broken : PySem.W.kitOne K (.ref a_NoSize) (.ref a_Broken) = some false
  k_NoTree_NoSize : PySem.W.kitOne K (.ref a_NoTree) (.ref a_NoSize) = some false
  k_NoTree_NoTree : PySem.W.kitOne K (.ref a_NoTree) (.ref a_NoTree) = some true
  k_NoTree_NoArgs : PySem.W.kitOne K (.ref a_NoTree) (.ref a_NoArgs) = some false
  k_NoTree_NoCode : PySem.W.kitOne K (.ref a_NoTree) (.ref a_NoCode) = some false
  k_NoTree_NoSteps : PySem.W.kitOne K (.ref a_NoTree) (.ref a_NoSteps) = some false
  k_NoTree_Late : PySem.W.kitOne K (.ref a_NoTree) (.ref a_Late) = some false
  k_NoTree_NoPiece : PySem.W.kitOne K (.ref a_NoTree) (.ref a_NoPiece) = some false
  k_NoTree_NoSet : PySem.W.kitOne K (.ref a_NoTree) (.ref a_NoSet) = some false
  k_NoTree_NoCover : PySem.W.kitOne K (.ref a_NoTree) (.ref a_NoCover) = some false
  k_NoTree_NoParts : PySem.W.kitOne K (.ref a_NoTree) (.ref a_NoParts) = some false
  k_NoTree_NoName : PySem.W.kitOne K (.ref a_NoTree) (.ref a_NoName) = some false
  k_NoTree_Taken : PySem.W.kitOne K (.ref a_NoTree) (.ref a_Taken) = some false
  k_NoTree_Fault : PySem.W.kitOne K (.ref a_NoTree) (.ref a_Fault) = some false
  k_NoTree_Broken : PySem.W.kitOne K (.ref a_NoTree) (.ref a_Broken) = some false
  k_NoArgs_NoSize : PySem.W.kitOne K (.ref a_NoArgs) (.ref a_NoSize) = some false
  k_NoArgs_NoTree : PySem.W.kitOne K (.ref a_NoArgs) (.ref a_NoTree) = some false
  k_NoArgs_NoArgs : PySem.W.kitOne K (.ref a_NoArgs) (.ref a_NoArgs) = some true
  k_NoArgs_NoCode : PySem.W.kitOne K (.ref a_NoArgs) (.ref a_NoCode) = some false
  k_NoArgs_NoSteps : PySem.W.kitOne K (.ref a_NoArgs) (.ref a_NoSteps) = some false
  k_NoArgs_Late : PySem.W.kitOne K (.ref a_NoArgs) (.ref a_Late) = some false
  k_NoArgs_NoPiece : PySem.W.kitOne K (.ref a_NoArgs) (.ref a_NoPiece) = some false
  k_NoArgs_NoSet : PySem.W.kitOne K (.ref a_NoArgs) (.ref a_NoSet) = some false
  k_NoArgs_NoCover : PySem.W.kitOne K (.ref a_NoArgs) (.ref a_NoCover) = some false
  k_NoArgs_NoParts : PySem.W.kitOne K (.ref a_NoArgs) (.ref a_NoParts) = some false
  k_NoArgs_NoName : PySem.W.kitOne K (.ref a_NoArgs) (.ref a_NoName) = some false
  k_NoArgs_Taken : PySem.W.kitOne K (.ref a_NoArgs) (.ref a_Taken) = some false
  k_NoArgs_Fault : PySem.W.kitOne K (.ref a_NoArgs) (.ref a_Fault) = some false
  k_NoArgs_Broken : PySem.W.kitOne K (.ref a_NoArgs) (.ref a_Broken) = some false
  k_NoSize_ValueError : PySem.W.kitOne K (.ref a_NoSize) (.type "ValueError") = some true
  k_NoTree_ValueError : PySem.W.kitOne K (.ref a_NoTree) (.type "ValueError") = some true
  k_NoArgs_ValueError : PySem.W.kitOne K (.ref a_NoArgs) (.type "ValueError") = some true
  n_len : mg "len" = none
  n_isinstance : mg "isinstance" = none
  n_int : mg "int" = none
  n_bool : mg "bool" = none
  n_str : mg "str" = none
  n_tuple : mg "tuple" = none
  n_list : mg "list" = none
  n_range : mg "range" = none
  n_all : mg "all" = none
  n_ValueError : mg "ValueError" = none
section
variable {P : Program} {w : World} {K : PySem.W.Frag} {mg : Str → Option Value} {base : Heap} {k : Nat}
theorem b_is_whole (T : Txt K mg) : Binds K T.d_is_whole ["thing", "low", "high"] [] := T.f_is_whole.binds (ps := ["thing", "low", "high"]) fun _ _ _ _ _ _ us hl => match us, hl with | [_, _, _], _ => rfl
theorem b_is_tagged (T : Txt K mg) : Binds K T.d_is_tagged ["thing"] [] := T.f_is_tagged.binds (ps := ["thing"]) fun _ _ _ _ _ _ us hl => match us, hl with | [_], _ => rfl
theorem b_is_node (T : Txt K mg) : Binds K T.d_is_node ["thing"] [] := T.f_is_node.binds (ps := ["thing"]) fun _ _ _ _ _ _ us hl => match us, hl with | [_], _ => rfl
theorem b_trees_within (T : Txt K mg) : Binds K T.d_trees_within ["tree"] [] := T.f_trees_within.binds (ps := ["tree"]) fun _ _ _ _ _ _ us hl => match us, hl with | [_], _ => rfl
theorem b_is_tree (T : Txt K mg) : Binds K T.d_is_tree ["thing"] [] := T.f_is_tree.binds (ps := ["thing"]) fun _ _ _ _ _ _ us hl => match us, hl with | [_], _ => rfl
theorem b_need_tree (T : Txt K mg) : Binds K T.d_need_tree ["tree"] [] := T.f_need_tree.binds (ps := ["tree"]) fun _ _ _ _ _ _ us hl => match us, hl with | [_], _ => rfl
theorem b_walked (T : Txt K mg) : Binds K T.d_walked ["tree"] [] := T.f_walked.binds (ps := ["tree"]) fun _ _ _ _ _ _ us hl => match us, hl with | [_], _ => rfl
theorem b_parts_of (T : Txt K mg) : Binds K T.d_parts_of ["tree"] [] := T.f_parts_of.binds (ps := ["tree"]) fun _ _ _ _ _ _ us hl => match us, hl with | [_], _ => rfl
theorem b_need_size (T : Txt K mg) : Binds K T.d_need_size ["size", "most"] [.int 10000 T.q_need_size] := by
  obtain ⟨oc, od, kV, doc, pm, an, cdv, ct, osl, e, lk, hcd⟩ := T.f_need_size.ex
  obtain ⟨o, n, l, h⟩ := T.f_need_size.df
  intro s us hK hl
  have hl' : us.length = 1 := by simpa using hl
  match us, hl' with
  | [u0], _ => rw [e]; exact .of_defaults (T := T.u_need_size) rfl (hK _ _ l) h rfl rfl
theorem v_need_size (T : Txt K mg) : Vals [V.int 10000] [Value.int 10000 T.q_need_size] := .cons ⟨_, rfl⟩ .nil
theorem b_need_args (T : Txt K mg) : Binds K T.d_need_args ["args", "size"] [] := T.f_need_args.binds (ps := ["args", "size"]) fun _ _ _ _ _ _ us hl => match us, hl with | [_, _], _ => rfl
theorem b_worth_of_both (T : Txt K mg) : Binds K T.d_worth_of_both ["kind", "first", "second", "size"] [] := T.f_worth_of_both.binds (ps := ["kind", "first", "second", "size"]) fun _ _ _ _ _ _ us hl => match us, hl with | [_, _, _, _], _ => rfl
theorem b_reckoned (T : Txt K mg) : Binds K T.d_reckoned ["tree", "args", "size"] [] := T.f_reckoned.binds (ps := ["tree", "args", "size"]) fun _ _ _ _ _ _ us hl => match us, hl with | [_, _, _], _ => rfl
def g_worth {α : Type} : List α → List α → List α
  | [x0, x1], [y0] => [x0, x1, y0]
  | _, _ => []
theorem b_worth (T : Txt K mg) : KBinds K T.d_worth ["tree", "args", "size"] ["size"] g_worth g_worth := by
  obtain ⟨oc, od, kV, doc, pm, an, cdv, ct, osl, e, lk, hcd⟩ := T.f_worth.ex
  refine ⟨fun s us ws hK hl => ?_, fun {vs us zs ws} h1 h2 => ?_⟩
  · unfold g_worth at hl ⊢
    split at hl
    · rw [e]; exact .of_eq rfl
    · cases hl
  · cases h1 with
    | nil => exact .nil
    | cons r1 t1 =>
      cases t1 with
      | nil => exact .nil
      | cons r2 t2 =>
        cases t2 with
        | cons _ _ => exact .nil
        | nil =>
          cases h2 with
          | nil => exact .nil
          | cons p1 z1 =>
            cases z1 with
            | cons _ _ => exact .nil
            | nil => exact (.cons r1 (.cons r2 (.cons p1 .nil)))
theorem b__law_draw (T : Txt K mg) : Binds K T.d__law_draw ["_law_script", "_law_town", "_law_many"] [] := T.f__law_draw.binds (ps := ["_law_script", "_law_town", "_law_many"]) fun _ _ _ _ _ _ us hl => match us, hl with | [_, _, _], _ => rfl
theorem b__law_pick (T : Txt K mg) : Binds K T.d__law_pick ["_law_script", "_law_town", "_law_some"] [] := T.f__law_pick.binds (ps := ["_law_script", "_law_town", "_law_some"]) fun _ _ _ _ _ _ us hl => match us, hl with | [_, _, _], _ => rfl
theorem b__law_tree (T : Txt K mg) : Binds K T.d__law_tree ["_law_script", "_law_town", "_law_room"] [] := T.f__law_tree.binds (ps := ["_law_script", "_law_town", "_law_room"]) fun _ _ _ _ _ _ us hl => match us, hl with | [_, _, _], _ => rfl
theorem b__law_no_tree (T : Txt K mg) : Binds K T.d__law_no_tree ["_law_script", "_law_town"] [] := T.f__law_no_tree.binds (ps := ["_law_script", "_law_town"]) fun _ _ _ _ _ _ us hl => match us, hl with | [_, _], _ => rfl
theorem b__law_which (T : Txt K mg) : Binds K T.d__law_which ["_law_e"] [] := T.f__law_which.binds (ps := ["_law_e"]) fun _ _ _ _ _ _ us hl => match us, hl with | [_], _ => rfl
theorem b__law_ask (T : Txt K mg) : Binds K T.d__law_ask ["_law_what", "_law_tree_here", "_law_args_here", "_law_base"] [] := T.f__law_ask.binds (ps := ["_law_what", "_law_tree_here", "_law_args_here", "_law_base"]) fun _ _ _ _ _ _ us hl => match us, hl with | [_, _, _, _], _ => rfl

def wholeD (d : D) (lo hi : Int) : Bool := match d with
  | .int i => decide (lo ≤ i) && decide (i ≤ hi)
  | _ => false
def Rwhole (ds : List D) (d : D) : Prop := ∃ x lo hi, ds = [x, .int lo, .int hi] ∧ d = .bl (wholeD x lo hi)
def taggedD : D → Bool
  | .tup (.str _ :: _) => true
  | _ => false
def Rtagged (ds : List D) (d : D) : Prop := ∃ x, ds = [x] ∧ d = .bl (taggedD x)
def valI (k : Str) (T : List (Str × KTD.Dat)) : Int := match KTD.datumAt k T with
  | some (.flat (.int i)) => i
  | _ => 0
def nodeD : D → Bool
  | .tup (.str k :: r) => if KTD.inKeys k TL = true then decide ((r.length : Int) + 1 = 2) && wholeD (r.getD 0 .non) 0 (valI k TL) else KTD.inKeys k TB && decide ((r.length : Int) + 1 = 1 + valI k TB)
  | _ => false
def Rnode (ds : List D) (d : D) : Prop := ∃ x, ds = [x] ∧ d = .bl (nodeD x)
def kidsD : D → List D
  | .tup (.str k :: r) => if KTD.inKeys k TB = true then r else []
  | _ => []
def Rwithin (ds : List D) (d : D) : Prop := ∃ k r, ds = [.tup (.str k :: r)] ∧ d = .tup (kidsD (.tup (.str k :: r)))
theorem tabI {T : List (Str × KTD.Dat)} {k : Str} (hT : ∀ p ∈ T, ∃ i, p.2 = .flat (.int i)) (h : KTD.inKeys k T = true) : KTD.datumAt k T = some (.flat (.int (valI k T))) := by
  unfold valI
  cases e : KTD.datumAt k T with
  | none => exact absurd e (KTD.at_of_mem h)
  | some d =>
    have all : ∀ (T : List (Str × KTD.Dat)), (∀ p ∈ T, ∃ i, p.2 = .flat (.int i)) → KTD.datumAt k T = some d → ∃ i, d = .flat (.int i) := by
      intro T
      induction T with
      | nil => intro _ e; simp [KTD.datumAt] at e
      | cons p r ih =>
        intro hp e
        obtain ⟨x, y⟩ := p
        have e' : (if decide (k = x) = true then some y else KTD.datumAt k r) = some d := e
        by_cases hx : k = x
        · rw [if_pos (decide_eq_true hx)] at e'
          cases e'
          exact hp _ List.mem_cons_self
        · rw [if_neg (by simp [hx])] at e'
          exact ih (fun p hp' => hp p (List.mem_cons_of_mem _ hp')) e'
    obtain ⟨i, rfl⟩ := all T hT e
    rfl
theorem TL_int : ∀ p ∈ TL, ∃ i, p.2 = .flat (.int i) := by
  intro p hp
  simp only [TL, List.mem_cons, List.not_mem_nil, or_false] at hp
  rcases hp with rfl | rfl <;> exact ⟨_, rfl⟩
theorem TB_int : ∀ p ∈ TB, ∃ i, p.2 = .flat (.int i) := by
  intro p hp
  simp only [TB, List.mem_cons, List.not_mem_nil, or_false] at hp
  rcases hp with rfl | rfl | rfl | rfl | rfl <;> exact ⟨_, rfl⟩
theorem ok_is_whole (T : Txt K mg)  : FnOk P w K mg base CX0 (k + 1) T.a_is_whole T.d_is_whole ["thing", "low", "high"] (spD K Rwhole) := by
  refine T.f_is_whole.ok sc_is_whole (fun vs H Q E h => ?_) (fun cdv A outer s H vs Q E hr h => ?_)
  · obtain ⟨ds, d, hd, ⟨x, lo, hi, rfl, rfl⟩, _⟩ := h; exact hd.length.symm
  have nd := sc_is_whole.nd
  obtain ⟨ds, d, hd, ⟨x, lo, hi, rfl, rfl⟩, post⟩ := h
  obtain ⟨v0, v1, v2, rfl, h0, h1, h2⟩ := dats3 hd
  have g1 := h1.intE
  have g2 := h2.intE
  subst g1 g2
  refine ⟨_, (pss_one (ps_ret (pe_and (pe_callB (call_isi hi_int) rfl T.n_isinstance bo_isinstance (pa_cons (pv 0) (pa_cons (pe_bltn (v := .ty "int") rfl T.n_int bo_int rfl) pa_nil))) (pe_and (pe_not (pe_callB (call_isi hi_bool) rfl T.n_isinstance bo_isinstance (pa_cons (pv 0) (pa_cons (pe_bltn (v := .ty "bool") rfl T.n_bool bo_bool rfl) pa_nil)))) (pe_one (pe_chain op_le op_le (pv 1) (pv 0) (pv 2))))))), ?_⟩
  refine rs_ret (K := K) (d := .bl (wholeD x lo hi)) ?_ post
  cases x with
  | int i => exact RE.as (re_and (re_isi (re_var h0)) fun _ => re_and (re_not (re_isi (re_var h0))) fun _ => re_chain (re_var h1) (re_var h0) fun _ => re_var h2) rfl
  | bl y => exact RE.as (re_and (c := false) (re_isi (re_var h0)) fun _ => RE.as (re_and (c := true) (re_not (re_isi (re_var h0))) fun z => nomatch z) rfl) rfl
  | non => exact RE.as (re_and (c := true) (re_isi (re_var h0)) fun z => nomatch z) rfl
  | str y => exact RE.as (re_and (c := true) (re_isi (re_var h0)) fun z => nomatch z) rfl
  | tup y => exact RE.as (re_and (c := true) (re_isi (re_var h0)) fun z => nomatch z) rfl
  | lst => exact RE.as (re_and (c := true) (re_isi (re_var h0)) fun z => nomatch z) rfl
theorem ok_is_tagged (T : Txt K mg)  : FnOk P w K mg base CX0 (k + 1) T.a_is_tagged T.d_is_tagged ["thing"] (spD K Rtagged) := by
  refine T.f_is_tagged.ok sc_is_tagged (fun vs H Q E h => ?_) (fun cdv A outer s H vs Q E hr h => ?_)
  · obtain ⟨ds, d, hd, ⟨x, rfl, rfl⟩, _⟩ := h; exact hd.length.symm
  have nd := sc_is_tagged.nd
  obtain ⟨ds, d, hd, ⟨x, rfl, rfl⟩, post⟩ := h
  obtain ⟨v0, rfl, h0⟩ := dats1 hd
  refine ⟨_, (pss_one (ps_ret (pe_and (pe_callB (call_isi hi_tuple) rfl T.n_isinstance bo_isinstance (pa_cons (pv 0) (pa_cons (pe_bltn (v := .ty "tuple") rfl T.n_tuple bo_tuple rfl) pa_nil))) (pe_and (pe_cmpR op_gt (pe_callB call_len_seq rfl T.n_len bo_len (pa_c (pv 0) pa_nil)) pe_int (nomark _)) (pe_one (pe_callB (call_isi hi_str) rfl T.n_isinstance bo_isinstance (pa_cons (pe_ix ix_tup (pv 0) pe_int (fun _ _ => rfl)) (pa_cons (pe_bltn (v := .ty "str") rfl T.n_str bo_str rfl) pa_nil)))))))), ?_⟩
  refine rs_ret (K := K) (d := .bl (taggedD x)) ?_ post
  cases x with
  | tup ds =>
    cases ds with
    | nil => exact RE.as (re_and (c := false) (re_isi (re_var h0)) fun _ => RE.as (re_and (c := true) (re_cmp (re_len (re_var h0)) re_int) fun z => nomatch z) rfl) rfl
    | cons y r =>
      have l : decide ((0 : Int) < (((y :: r).length : Nat) : Int)) = true := decide_eq_true (by rw [List.length_cons]; omega)
      refine RE.as (re_and (re_isi (re_var h0)) fun _ => re_and (RE.as (re_cmp (re_len (re_var h0)) re_int) (congrArg D.bl l)) fun _ => re_isi (re_ix (k := 0) (re_var h0) re_int (show (y :: r)[0]? = some y from rfl))) ?_
      cases y <;> rfl
  | int i => exact RE.as (re_and (c := true) (re_isi (re_var h0)) fun z => nomatch z) rfl
  | bl y => exact RE.as (re_and (c := true) (re_isi (re_var h0)) fun z => nomatch z) rfl
  | non => exact RE.as (re_and (c := true) (re_isi (re_var h0)) fun z => nomatch z) rfl
  | str y => exact RE.as (re_and (c := true) (re_isi (re_var h0)) fun z => nomatch z) rfl
  | lst => exact RE.as (re_and (c := true) (re_isi (re_var h0)) fun z => nomatch z) rfl
end
end My
end
section
set_option Elab.async false
set_option linter.all false
set_option maxRecDepth 100000
set_option maxHeartbeats 4000000
namespace My
open PySem L2 PyProof.Rows
section
variable {P : Program} {w : World} {K : PySem.W.Frag} {mg : Str → Option Value} {base : Heap} {k : Nat}
theorem ok_is_node (T : Txt K mg) (F_is_tagged : FnOk P w K mg base CX0 k T.a_is_tagged T.d_is_tagged ["thing"] (spD K Rtagged)) (F_is_whole : FnOk P w K mg base CX0 k T.a_is_whole T.d_is_whole ["thing", "low", "high"] (spD K Rwhole)) : FnOk P w K mg base CX0 (k + 1) T.a_is_node T.d_is_node ["thing"] (spD K Rnode) := by
  refine T.f_is_node.ok sc_is_node (fun vs H Q E h => ?_) (fun cdv A outer s H vs Q E hr h => ?_)
  · obtain ⟨ds, d, hd, ⟨x, rfl, rfl⟩, _⟩ := h; exact hd.length.symm
  have nd := sc_is_node.nd
  obtain ⟨ds, d, hd, ⟨x, rfl, rfl⟩, post⟩ := h
  obtain ⟨v0, rfl, h0⟩ := dats1 hd
  refine ⟨_, (pss_cons (ps_if (pt_not (pt_truth (pe_call F_is_tagged hr rfl T.m_is_tagged T.f_is_tagged.kp (b_is_tagged T) .nil pass0 (pa_c (pv 0) pa_nil)) (fun _ => rfl))) (pss_one (ps_ret pe_bl)) pss_nil)
  (pss_cons (ps_set (i := 1) nd rfl (Or.inl rfl) (pe_ix ix_tup (pv 0) pe_int (fun _ _ => rfl)))
  (pss_cons (ps_if (pt_cmpR op_inTab (pv 1) (pe_glob (v := .ref T.a_MOST_IN_LEAF) rfl T.g_MOST_IN_LEAF rfl) (by with_unfolding_all rfl)) (pss_one (ps_ret (pe_and (pe_cmpR op_eq (pe_callB call_len_seq rfl T.n_len bo_len (pa_c (pv 0) pa_nil)) pe_int (nomark _)) (pe_one (pe_call F_is_whole hr rfl T.m_is_whole T.f_is_whole.kp (b_is_whole T) .nil pass0 (pa_c (pe_ix ix_tup (pv 0) pe_int (fun _ _ => rfl)) (pa_c pe_int (pa_c (pe_ix ix_tab (pe_glob (v := .ref T.a_MOST_IN_LEAF) rfl T.g_MOST_IN_LEAF rfl) (pv 1) (fun _ _ => rfl)) pa_nil)))))))) pss_nil)
  (pss_one (ps_ret (pe_and (pe_cmpR op_inTab (pv 1) (pe_glob (v := .ref T.a_TREES_IN_BRANCH) rfl T.g_TREES_IN_BRANCH rfl) (by with_unfolding_all rfl)) (pe_one (pe_cmpR op_eq (pe_callB call_len_seq rfl T.n_len bo_len (pa_c (pv 0) pa_nil)) (pe_op op_add pe_int (pe_ix ix_tab (pe_glob (v := .ref T.a_TREES_IN_BRANCH) rfl T.g_TREES_IN_BRANCH rfl) (pv 1) (fun _ _ => rfl))) (nomark _))))))))), ?_⟩
  refine rs_ifr (K := K) (b := !taggedD x) (rt_not (rt_truth (re_call (ra_cons (re_var h0) ra_nil) ⟨x, rfl, rfl⟩))) (fun c H1 s1 => ?_) (fun c H1 s1 => ?_)
  · refine rs_ret (K := K) (d := .bl (nodeD x)) ?_ fun v H' s q => post v H' (s1.trans s) q
    have e : nodeD x = false := by
      unfold nodeD
      split
      · unfold taggedD at c; simp at c
      · rfl
    rw [e]
    exact re_bl
  · have h0' := s1.dat h0
    have c' : taggedD x = true := by simpa using c
    unfold taggedD at c'
    split at c'
    · rename_i kd r
      refine rs_setr (K := K) (d := .str kd) (re_ix (k := 0) (re_var h0') re_int rfl) fun v1 H2 s2 q2 => ?_
      have h2 := s2.dat h0'
      have ev := q2.strE
      subst ev
      refine rs_ifr (K := K) (b := KTD.inKeys kd TL) (rt_test (re_inTab (re_var q2) T.t_MOST_IN_LEAF)) (fun cL H3 s3 => ?_) (fun cL H3 s3 => ?_)
      · have h3 := s3.dat h2
        have e : nodeD (.tup (.str kd :: r)) = (decide ((r.length : Int) + 1 = 2) && wholeD (r.getD 0 .non) 0 (valI kd TL)) := by
          show (if KTD.inKeys kd TL = true then _ else _) = _
          rw [if_pos cL]
        refine rs_ret (K := K) (d := .bl (nodeD (.tup (.str kd :: r)))) ?_ fun v H' s q => post v H' (s1.trans (s2.trans (s3.trans s))) q
        rw [e]
        have el : ((((D.str kd) :: r).length : Nat) : Int) = (r.length : Int) + 1 := by rw [List.length_cons]; omega
        have b1 := re_eqI (K := K) (re_len (re_var (σ := (start ["thing", "kind"] [v0]).set 1 (some (.str kd))) (k := 0) h3)) (re_int (i := 2))
        rw [el] at b1
        refine re_and b1 fun hl => ?_
        have hl' : (r.length : Int) + 1 = 2 := of_decide_eq_true hl
        obtain ⟨y, er⟩ : ∃ y, r = [y] := by
          match r, hl' with
          | [], h => simp at h
          | [y], _ => exact ⟨y, rfl⟩
          | _ :: _ :: _, h => simp at h; omega
        subst er
        refine re_call (E := E0) (R := Rwhole) (ra_cons (re_ix (k := 1) (re_var h3) re_int rfl) (ra_cons re_int (ra_cons (re_ixTab (re_var (s3.dat q2)) T.t_MOST_IN_LEAF (by rfl) (tabI TL_int cL)) ra_nil))) ⟨y, 0, valI kd TL, rfl, rfl⟩
      · have h3 := s3.dat h2
        have e : nodeD (.tup (.str kd :: r)) = (KTD.inKeys kd TB && decide ((r.length : Int) + 1 = 1 + valI kd TB)) := by
          show (if KTD.inKeys kd TL = true then _ else _) = _
          rw [if_neg (by rw [cL]; exact Bool.false_ne_true)]
        refine rs_ret (K := K) (d := .bl (nodeD (.tup (.str kd :: r)))) ?_ fun v H' s q => post v H' (s1.trans (s2.trans (s3.trans s))) q
        rw [e]
        have el : ((((D.str kd) :: r).length : Nat) : Int) = (r.length : Int) + 1 := by rw [List.length_cons]; omega
        refine re_and (re_inTab (re_var (s3.dat q2)) T.t_TREES_IN_BRANCH) fun cB => ?_
        have b1 := re_eqI (K := K) (re_len (re_var (σ := (start ["thing", "kind"] [v0]).set 1 (some (.str kd))) (k := 0) h3)) (re_add (re_int (i := 1)) (re_ixTab (re_var (σ := (start ["thing", "kind"] [v0]).set 1 (some (.str kd))) (k := 1) (s3.dat q2)) T.t_TREES_IN_BRANCH (by rfl) (tabI TB_int cB)))
        rw [el] at b1
        exact b1
    · cases c'
theorem ok_trees_within (T : Txt K mg)  : FnOk P w K mg base CX0 (k + 1) T.a_trees_within T.d_trees_within ["tree"] (spD K Rwithin) := by
  refine T.f_trees_within.ok sc_trees_within (fun vs H Q E h => ?_) (fun cdv A outer s H vs Q E hr h => ?_)
  · obtain ⟨ds, d, hd, ⟨kd, r, rfl, rfl⟩, _⟩ := h; exact hd.length.symm
  have nd := sc_trees_within.nd
  obtain ⟨ds, d, hd, ⟨kd, r, rfl, rfl⟩, post⟩ := h
  obtain ⟨v0, rfl, h0⟩ := dats1 hd
  refine ⟨_, (pss_cons (ps_if (pt_cmpR op_inTab (pe_ix ix_tup (pv 0) pe_int (fun _ _ => rfl)) (pe_glob (v := .ref T.a_TREES_IN_BRANCH) rfl T.g_TREES_IN_BRANCH rfl) (by with_unfolding_all rfl)) (pss_one (ps_ret (pe_slice sl_tup (pv 0) (po_some pe_int) po_none))) pss_nil)
  (pss_one (ps_ret (pe_tup pa_nil)))), ?_⟩
  refine rs_ifr (K := K) (b := KTD.inKeys kd TB) (rt_test (re_inTab (re_ix (k := 0) (re_var h0) re_int rfl) T.t_TREES_IN_BRANCH)) (fun c H1 s1 => ?_) (fun c H1 s1 => ?_)
  · refine rs_ret (K := K) (d := .tup r) (re_slice1 (re_var (s1.dat h0))) fun v H' s q => post v H' (s1.trans s) ?_
    show Dat K H' (.tup (if KTD.inKeys kd TB = true then r else [])) v
    rw [if_pos c]
    exact q
  · refine rs_ret (K := K) (σ := start ["tree"] [v0]) (d := .tup []) (re_tup ra_nil) fun v H' s q => post v H' (s1.trans s) ?_
    show Dat K H' (.tup (if KTD.inKeys kd TB = true then r else [])) v
    rw [if_neg (by rw [c]; exact Bool.false_ne_true)]
    exact q

theorem pickI {ns : List Int} {k : Int} (h0 : 0 ≤ k) (h1 : k < (ns.length : Int)) : ∃ z, atI (ns.map V.int) k = some (.int z) := by
  have hk : k.toNat < ns.length := by omega
  refine ⟨ns[k.toNat], ?_⟩
  have e : k = ((k.toNat : Nat) : Int) := by omega
  have q : atI (ns.map V.int) ((k.toNat : Nat) : Int) = some (.int ns[k.toNat]) := atI_nat (by rw [List.getElem?_map, List.getElem?_eq_getElem hk] <;> rfl)
  rw [← e] at q
  exact q
theorem ok__law_draw (T : Txt K mg)  : FnOk P w K mg base CX0 (k + 1) T.a__law_draw T.d__law_draw ["_law_script", "_law_town", "_law_many"] (spDraw K) := by
  refine T.f__law_draw.ok sc__law_draw (fun vs H Q E h => ?_) (fun cdv A outer s H vs Q E hr h => ?_)
  · obtain ⟨a, t, ns, m, p, q, rest, rfl, _⟩ := h; rfl
  have nd := sc__law_draw.nd
  obtain ⟨a, t, ns, m, p, q, rest, rfl, hS, hT, hp, hm, hm2, post⟩ := h
  refine ⟨_, (pss_cons (ps_if (pt_cmpR op_gt (pe_ix ix_list (pv 1) pe_int (fun _ _ => rfl)) pe_int (nomark _)) (pss_cons (ps_set (i := 3) nd rfl (Or.inl rfl) (pe_op op_mod (pe_ix ix_list (pv 1) pe_int (fun _ _ => rfl)) (pv 2)))
  (pss_cons (ps_asg (pe_op op_fdiv (pe_ix ix_list (pv 1) pe_int (fun _ _ => rfl)) (pv 2)) (pg_sub (pv 1) pe_int set_list))
  (pss_one (ps_ret (pv 3))))) pss_nil)
  (pss_cons (ps_set (i := 4) nd rfl (Or.inl rfl) (pe_ix ix_list (pv 1) pe_int (fun _ _ => rfl)))
  (pss_cons (ps_augS (pv 1) pe_int get_list pe_int ip_add set_list)
  (pss_cons (ps_if (pt_cmpR (op_eqL hr) (pv 0) (pe_lst pa_nil) (nomark _)) (pss_one (ps_ret (pe_op op_mod (pv 4) (pv 2)))) pss_nil)
  (pss_cons (ps_if (PW.pt (pw_and (pt_cmpR op_lt (pv 4) (pe_callB call_len_seq rfl T.n_len bo_len (pa_c (pv 0) pa_nil)) (nomark _)) (pw_and1 (pt_cmpR op_ge (pe_ix ix_list (pv 0) (pv 4) (fun _ _ => rfl)) (pe_op op_pow pe_int pe_int) (nomark _))))) (pss_cons (ps_asg (pe_op op_mod (pe_op op_fdiv (pe_ix ix_list (pv 0) (pv 4) (fun _ _ => rfl)) (pv 2)) (pe_op op_mulB (pe_op op_pow pe_int pe_int) (pe_op op_pow pe_int pe_int))) (pg_sub (pv 1) pe_int set_list))
  (pss_one (ps_ret (pe_op op_mod (pe_ix ix_list (pv 0) (pv 4) (fun _ _ => rfl)) (pv 2))))) pss_nil)
  (pss_cons (ps_set (i := 5) nd rfl (Or.inl rfl) (pe_op op_mod (pe_op op_add (pe_op op_add (pe_op op_mul (pe_ix ix_list (pv 0) (pe_op op_mod (pv 4) (pe_callB call_len_seq rfl T.n_len bo_len (pa_c (pv 0) pa_nil))) (fun _ _ => rfl)) pe_int) (pe_op op_mul pe_int (pv 4))) pe_int) pe_int))
  (pss_one (ps_ret (pe_op op_mod (pe_op op_mod (pe_op op_mod (pe_op op_pow (pv 5) pe_int) pe_int) pe_int) (pv 2)))))))))), ?_⟩
  refine ⟨_, rfl, t, _, 1, _, rfl, rfl, SqL.of hT, at1, q, 0, rfl, rfl, _, rfl, ?_⟩
  refine ite2 (fun c => ?_) (fun c => ?_)
  · refine ⟨_, rfl, t, _, 1, _, rfl, rfl, SqL.of hT, at1, _, rfl, q, m, rfl, rfl, hm, ?_⟩
    refine ⟨_, rfl, t, _, 1, _, rfl, rfl, SqL.of hT, at1, _, rfl, q, m, rfl, rfl, ⟨hm, by omega⟩, ?_⟩
    refine ⟨_, rfl, t, _, 1, 1, rfl, rfl, hT, ix1, ?_⟩
    refine ⟨_, rfl, ?_⟩
    exact post (q % m) _ p (q / m) (But.upd (Same.refl H).but) upd_same hp (Int.emod_nonneg _ (by omega)) (Int.emod_lt_of_pos _ hm)
  refine ⟨_, rfl, t, _, 0, _, rfl, rfl, SqL.of hT, at0, ?_⟩
  refine ⟨_, rfl, t, _, 0, _, rfl, rfl, Int.le_refl 0, SqL.of hT, rfl, p, 1, rfl, rfl, t, _, 0, 0, rfl, rfl, hT, ix0, ?_⟩
  refine ⟨_, rfl, (by show 0 ≤ sizeLine; decide), fun l hl => ?_⟩
  have bt1 : But t H (upd H t (.lst ((V.int p :: .int q :: rest).set 0 (.int (p + 1))))) := But.upd (Same.refl H).but
  have hlt : l ≠ t := fun z => by rw [z, upd_same] at hl; cases hl
  have bt3 := bt1.trans (same_new hl (.lst [])).but
  have ht3 : upd (upd H t (.lst ((V.int p :: .int q :: rest).set 0 (.int (p + 1))))) l (.lst []) t = some (.lst (.int (p + 1) :: .int q :: rest)) := by
    rw [upd_ne (Ne.symm hlt)]; exact upd_same
  have hS3 := (hS.but bt3 hT).sqL
  have hlen : ((ns.map V.int).length : Int) = (ns.length : Int) := by rw [List.length_map]
  refine ⟨a, l, _, [], ns.map D.int, [], rfl, rfl, hS3, SqL.of upd_same, dats_ints ns, Dats.nil, noLs_ints ns, (by unfold noLs; rfl), (by rw [deepDs_ints]; decide), _, rfl, ?_⟩
  show (if eqDs (ns.map D.int) [] = true then _ else _)
  rw [eqDs_nil]
  refine ite2 (fun c0 => ?_) (fun c0 => ?_)
  · refine ⟨_, rfl, _, rfl, p, m, rfl, rfl, hm, ?_⟩
    exact post _ _ (p + 1) q bt3 ht3 (by omega) (Int.emod_nonneg _ (by omega)) (Int.emod_lt_of_pos _ hm)
  have hl0 : (0 : Int) < ((ns.map V.int).length : Int) := by
    rw [hlen]
    cases ns with
    | nil => exact absurd rfl c0
    | cons n ns => rw [List.length_cons]; omega
  refine ⟨_, rfl, _, rfl, a, _, rfl, .inl hS3, p, _, rfl, rfl, _, rfl, ?_⟩
  refine ite2 (fun c1 => ?_) (fun c1 => ?_)
  · have c1' : p < ((ns.map V.int).length : Int) := of_decide_eq_true c1
    obtain ⟨z, hz⟩ := pickI (ns := ns) hp (by rw [← hlen]; exact c1')
    refine ⟨_, rfl, _, rfl, a, _, p, _, rfl, rfl, hS3, hz, 10, 18, rfl, rfl, ⟨by decide, by decide, by decide⟩, z, _, rfl, rfl, _, rfl, ?_⟩
    refine ite2 (fun c2 => ?_) (fun c2 => ?_)
    · refine ⟨_, rfl, _, rfl, a, _, p, _, rfl, rfl, hS3, hz, _, rfl, z, m, rfl, rfl, ⟨hm, by omega⟩, 10, 60, rfl, rfl, ⟨by decide, by decide, by decide⟩, 10, 60, rfl, rfl, ⟨by decide, by decide, by decide⟩, _, _, rfl, rfl, IntMulOk.of_bits (by decide +kernel) (by decide +kernel), _, _, rfl, rfl, (by show (0 : Int) < 10 ^ (60 : Int).toNat * 10 ^ (60 : Int).toNat; decide +kernel), ?_⟩
      refine ⟨_, rfl, t, _, 1, 1, rfl, rfl, ht3, ix1, ?_⟩
      refine ⟨_, rfl, _, rfl, a, _, p, _, rfl, rfl, (hS.but bt3.upd hT).sqL, hz, _, rfl, z, m, rfl, rfl, hm, ?_⟩
      exact post _ _ (p + 1) _ bt3.upd upd_same (by omega) (Int.emod_nonneg _ (by omega)) (Int.emod_lt_of_pos _ hm)
    · refine ⟨_, rfl, _, rfl, _, rfl, a, _, rfl, .inl hS3, p, _, rfl, rfl, hl0, ?_⟩
      obtain ⟨z2, hz2⟩ := pickI (ns := ns) (Int.emod_nonneg p (by omega : ((ns.map V.int).length : Int) ≠ 0)) (by rw [← hlen]; exact Int.emod_lt_of_pos p hl0)
      refine ⟨a, _, _, _, rfl, rfl, hS3, hz2, z2, 1103515245, rfl, rfl, .inr ⟨by decide, by decide⟩, _, rfl, 7919, p, rfl, rfl, .inl ⟨by decide, by decide⟩, _, _, rfl, rfl, _, _, rfl, rfl, _, _, rfl, rfl, (by show (0 : Int) < 2147483647; decide), ?_⟩
      have m1 := Int.emod_nonneg (z2 * 1103515245 + 7919 * p + 12345) (by decide : (2147483647 : Int) ≠ 0)
      have m2 := Int.emod_lt_of_pos (z2 * 1103515245 + 7919 * p + 12345) (by decide : (0 : Int) < 2147483647)
      refine ⟨_, rfl, _, 5, rfl, rfl, ⟨by decide, by decide, by omega⟩, _, _, rfl, rfl, (by show (0 : Int) < 2147483647; decide), _, _, rfl, rfl, (by show (0 : Int) < 999983; decide), _, rfl, _, m, rfl, rfl, hm, ?_⟩
      exact post _ _ (p + 1) q bt3 ht3 (by omega) (Int.emod_nonneg _ (by omega)) (Int.emod_lt_of_pos _ hm)
  · refine ⟨_, rfl, _, rfl, _, rfl, a, _, rfl, .inl hS3, p, _, rfl, rfl, hl0, ?_⟩
    obtain ⟨z2, hz2⟩ := pickI (ns := ns) (Int.emod_nonneg p (by omega : ((ns.map V.int).length : Int) ≠ 0)) (by rw [← hlen]; exact Int.emod_lt_of_pos p hl0)
    refine ⟨a, _, _, _, rfl, rfl, hS3, hz2, z2, 1103515245, rfl, rfl, .inr ⟨by decide, by decide⟩, _, rfl, 7919, p, rfl, rfl, .inl ⟨by decide, by decide⟩, _, _, rfl, rfl, _, _, rfl, rfl, _, _, rfl, rfl, (by show (0 : Int) < 2147483647; decide), ?_⟩
    have m1 := Int.emod_nonneg (z2 * 1103515245 + 7919 * p + 12345) (by decide : (2147483647 : Int) ≠ 0)
    have m2 := Int.emod_lt_of_pos (z2 * 1103515245 + 7919 * p + 12345) (by decide : (0 : Int) < 2147483647)
    refine ⟨_, rfl, _, 5, rfl, rfl, ⟨by decide, by decide, by omega⟩, _, _, rfl, rfl, (by show (0 : Int) < 2147483647; decide), _, _, rfl, rfl, (by show (0 : Int) < 999983; decide), _, rfl, _, m, rfl, rfl, hm, ?_⟩
    exact post _ _ (p + 1) q bt3 ht3 (by omega) (Int.emod_nonneg _ (by omega)) (Int.emod_lt_of_pos _ hm)

def spPick (K : PySem.W.Frag) : Sp := fun vs H Q _ => ∃ (a t l : Addr) (ns : List Int) (xs : List V) (p q : Int) (rest : List V), vs = [.ref a, .ref t, .ref l] ∧ Scr K H a ns ∧ SqL K H l xs ∧ l ≠ t ∧ 0 < xs.length ∧ xs.length ≤ 1000000 ∧
  H t = some (.lst (.int p :: .int q :: rest)) ∧ 0 ≤ p ∧ ∀ (i : Nat) (x : V) (H' : Hp) (p' q' : Int), But t H H' → H' t = some (.lst (.int p' :: .int q' :: rest)) → 0 ≤ p' → xs[i]? = some x → Q x H'
theorem ok__law_pick (T : Txt K mg) (F__law_draw : FnOk P w K mg base CX0 k T.a__law_draw T.d__law_draw ["_law_script", "_law_town", "_law_many"] (spDraw K)) : FnOk P w K mg base CX0 (k + 1) T.a__law_pick T.d__law_pick ["_law_script", "_law_town", "_law_some"] (spPick K) := by
  refine T.f__law_pick.ok sc__law_pick (fun vs H Q E h => ?_) (fun cdv A outer s H vs Q E hr h => ?_)
  · obtain ⟨a, t, l, ns, xs, p, q, rest, rfl, _⟩ := h; rfl
  have nd := sc__law_pick.nd
  obtain ⟨a, t, l, ns, xs, p, q, rest, rfl, hS, hL, hlt, hx0, hx1, hT, hp, post⟩ := h
  refine ⟨_, (pss_one (ps_ret (pe_ix ix_list (pv 2) (pe_call F__law_draw hr rfl T.m__law_draw T.f__law_draw.kp (b__law_draw T) .nil pass0 (pa_c (pv 0) (pa_c (pv 1) (pa_c (pe_callB call_len_seq rfl T.n_len bo_len (pa_c (pv 2) pa_nil)) pa_nil)))) (fun _ _ => rfl)))), ?_⟩
  refine ⟨_, rfl, _, rfl, _, rfl, _, rfl, l, xs, rfl, .inl hL, a, t, ns, (xs.length : Int), p, q, rest, rfl, hS, hT, hp, by omega, by omega, fun r H1 p1 q1 b1 t1 g1 r0 r1 => ?_⟩
  have hr' : r.toNat < xs.length := by omega
  have er : r = ((r.toNat : Nat) : Int) := by omega
  have z : atI xs ((r.toNat : Nat) : Int) = some xs[r.toNat] := atI_nat (List.getElem?_eq_getElem hr')
  rw [← er] at z
  exact ⟨l, xs, r, xs[r.toNat], rfl, rfl, b1.sqL hlt hL, z, post r.toNat _ H1 p1 q1 b1 t1 g1 (List.getElem?_eq_getElem hr')⟩
end
end My
end
section
set_option Elab.async false
set_option linter.all false
set_option maxRecDepth 100000
set_option maxHeartbeats 4000000
namespace My
open PySem L2 PyProof.Rows
/-! ### trees -/
inductive Tr where
  | num (n : Int)
  | arg (k : Int)
  | two (o : Str) (a b : Tr)
  | pick (a b c : Tr)
def toD : Tr → D
  | .num n => .tup [.str "num", .int n]
  | .arg k => .tup [.str "arg", .int k]
  | .two o a b => .tup [.str o, toD a, toD b]
  | .pick a b c => .tup [.str "pick", toD a, toD b, toD c]
def okT : Tr → Prop
  | .num n => 0 ≤ n ∧ n ≤ 9999
  | .arg k => 0 ≤ k ∧ k ≤ 3
  | .two o a b => (o = "add" ∨ o = "sub" ∨ o = "mul" ∨ o = "less") ∧ okT a ∧ okT b
  | .pick a b c => okT a ∧ okT b ∧ okT c
def deepT : Tr → Nat
  | .num _ => 1
  | .arg _ => 1
  | .two _ a b => max (deepT a) (deepT b) + 1
  | .pick a b c => max (deepT a) (max (deepT b) (deepT c)) + 1
def sizeT : Tr → Nat
  | .num _ => 1
  | .arg _ => 1
  | .two _ a b => sizeT a + sizeT b + 1
  | .pick a b c => sizeT a + sizeT b + sizeT c + 1
def kidsT : Tr → List Tr
  | .num _ => []
  | .arg _ => []
  | .two _ a b => [a, b]
  | .pick a b c => [a, b, c]
theorem deepT_pos (t : Tr) : 1 ≤ deepT t := by cases t <;> simp [deepT]
theorem node_two {o : Str} (h : o = "add" ∨ o = "sub" ∨ o = "mul" ∨ o = "less") : KTD.inKeys o TL = false ∧ KTD.inKeys o TB = true ∧ valI o TB = 2 := by
  rcases h with rfl | rfl | rfl | rfl <;> decide +kernel
theorem node_pick : KTD.inKeys ("pick" : Str) TL = false ∧ KTD.inKeys ("pick" : Str) TB = true ∧ valI ("pick" : Str) TB = 3 := by decide +kernel
theorem node_num : KTD.inKeys ("num" : Str) TL = true ∧ KTD.inKeys ("num" : Str) TB = false ∧ valI ("num" : Str) TL = 9999 := by decide +kernel
theorem node_arg : KTD.inKeys ("arg" : Str) TL = true ∧ KTD.inKeys ("arg" : Str) TB = false ∧ valI ("arg" : Str) TL = 3 := by decide +kernel
theorem nodeD_leaf {k : Str} {r : List D} (h : KTD.inKeys k TL = true) : nodeD (.tup (.str k :: r)) = (decide ((r.length : Int) + 1 = 2) && wholeD (r.getD 0 .non) 0 (valI k TL)) := by
  unfold nodeD
  dsimp only
  rw [if_pos h]
theorem nodeD_br {k : Str} {r : List D} (h : KTD.inKeys k TL = false) : nodeD (.tup (.str k :: r)) = (KTD.inKeys k TB && decide ((r.length : Int) + 1 = 1 + valI k TB)) := by
  unfold nodeD
  dsimp only
  rw [if_neg (by rw [h]; exact Bool.false_ne_true)]
theorem kidsD_in {k : Str} {r : List D} (h : KTD.inKeys k TB = true) : kidsD (.tup (.str k :: r)) = r := by
  unfold kidsD
  dsimp only
  rw [if_pos h]
theorem kidsD_out {k : Str} {r : List D} (h : KTD.inKeys k TB = false) : kidsD (.tup (.str k :: r)) = [] := by
  unfold kidsD
  dsimp only
  rw [if_neg (by rw [h]; exact Bool.false_ne_true)]
theorem node_ok : ∀ t : Tr, okT t → nodeD (toD t) = true ∧ kidsD (toD t) = (kidsT t).map toD
  | .num n, h => by
    obtain ⟨h1, h2, h3⟩ := node_num
    refine ⟨?_, kidsD_out h2⟩
    unfold toD
    rw [nodeD_leaf h1, h3]
    show (decide ((1 : Int) + 1 = 2) && (decide (0 ≤ n) && decide (n ≤ 9999))) = true
    simp [h.1, h.2]
  | .arg n, h => by
    obtain ⟨h1, h2, h3⟩ := node_arg
    refine ⟨?_, kidsD_out h2⟩
    unfold toD
    rw [nodeD_leaf h1, h3]
    show (decide ((1 : Int) + 1 = 2) && (decide (0 ≤ n) && decide (n ≤ 3))) = true
    simp [h.1, h.2]
  | .two o a b, h => by
    obtain ⟨h1, h2, h3⟩ := node_two h.1
    refine ⟨?_, kidsD_in h2⟩
    unfold toD
    rw [nodeD_br h1, h2, h3]
    rfl
  | .pick a b c, h => by
    obtain ⟨h1, h2, h3⟩ := node_pick
    refine ⟨?_, kidsD_in h2⟩
    unfold toD
    rw [nodeD_br h1, h2, h3]
    rfl
/-! ### is_tree as a loop: the top of the pile first -/
def loopD : Nat → List (D × Int) → Int → Bool
  | 0, _, _ => false
  | _ + 1, [], _ => true
  | n + 1, (d, dp) :: st, p => if (decide (40 < p + 1) || (decide (8 < dp) || !nodeD d)) = true then false else loopD n (((kidsD d).map fun x => (x, dp + 1)).reverse ++ st) (p + 1)
def isTreeD (d : D) : Bool := loopD 50 [(d, 1)] 0
theorem loop_step {n : Nat} {d : D} {dp : Int} {st : List (D × Int)} {p : Int} (h1 : p + 1 ≤ 40) (h2 : dp ≤ 8) (h3 : nodeD d = true) : loopD (n + 1) ((d, dp) :: st) p = loopD n (((kidsD d).map fun x => (x, dp + 1)).reverse ++ st) (p + 1) := by
  show (if _ = true then false else _) = _
  rw [if_neg]
  simp [h3]
  omega
theorem loop_tree : ∀ (t : Tr), okT t → ∀ (n : Nat) (dp : Int) (st : List (D × Int)) (p : Int), (deepT t : Int) + dp ≤ 9 → p + (sizeT t : Int) ≤ 40 → loopD (n + sizeT t) ((toD t, dp) :: st) p = loopD n st (p + sizeT t)
  | .num m, h, n, dp, st, p, h1, h2 => by
    obtain ⟨e1, e2⟩ := node_ok (.num m) h
    simp only [deepT, sizeT] at h1 h2 ⊢
    rw [loop_step (by omega) (by omega) e1, e2]
    rfl
  | .arg m, h, n, dp, st, p, h1, h2 => by
    obtain ⟨e1, e2⟩ := node_ok (.arg m) h
    simp only [deepT, sizeT] at h1 h2 ⊢
    rw [loop_step (by omega) (by omega) e1, e2]
    rfl
  | .two o a b, h, n, dp, st, p, h1, h2 => by
    obtain ⟨e1, e2⟩ := node_ok (.two o a b) h
    have d1 := deepT_pos a
    simp only [deepT, sizeT] at h1 h2 ⊢
    have g1 : (deepT a : Int) + (dp + 1) ≤ 9 := by omega
    have g2 : (deepT b : Int) + (dp + 1) ≤ 9 := by omega
    rw [show n + (sizeT a + sizeT b + 1) = (n + sizeT a + sizeT b) + 1 by omega, loop_step (by omega) (by omega) e1, e2]
    show loopD (n + sizeT a + sizeT b) ((toD b, dp + 1) :: (toD a, dp + 1) :: st) (p + 1) = _
    rw [loop_tree b h.2.2 (n + sizeT a) (dp + 1) ((toD a, dp + 1) :: st) (p + 1) g2 (by omega), loop_tree a h.2.1 n (dp + 1) st _ g1 (by omega)]
    congr 1
    omega
  | .pick a b c, h, n, dp, st, p, h1, h2 => by
    obtain ⟨e1, e2⟩ := node_ok (.pick a b c) h
    have d1 := deepT_pos a
    simp only [deepT, sizeT] at h1 h2 ⊢
    have g1 : (deepT a : Int) + (dp + 1) ≤ 9 := by omega
    have g2 : (deepT b : Int) + (dp + 1) ≤ 9 := by omega
    have g3 : (deepT c : Int) + (dp + 1) ≤ 9 := by omega
    rw [show n + (sizeT a + sizeT b + sizeT c + 1) = (n + sizeT a + sizeT b + sizeT c) + 1 by omega, loop_step (by omega) (by omega) e1, e2]
    show loopD (n + sizeT a + sizeT b + sizeT c) ((toD c, dp + 1) :: (toD b, dp + 1) :: (toD a, dp + 1) :: st) (p + 1) = _
    rw [loop_tree c h.2.2 (n + sizeT a + sizeT b) (dp + 1) _ (p + 1) g3 (by omega), loop_tree b h.2.1 (n + sizeT a) (dp + 1) _ _ g2 (by omega), loop_tree a h.1 n (dp + 1) st _ g1 (by omega)]
    congr 1
    omega
theorem tree_ok {t : Tr} (h : okT t) (h1 : deepT t ≤ 8) (h2 : sizeT t ≤ 40) : isTreeD (toD t) = true := by
  have q := loop_tree t h (50 - sizeT t) 1 [] 0 (by omega) (by omega)
  rw [show 50 - sizeT t + sizeT t = 50 by omega] at q
  unfold isTreeD
  rw [q]
  obtain ⟨m, e⟩ : ∃ m, 50 - sizeT t = m + 1 := ⟨50 - sizeT t - 1, by omega⟩
  rw [e]
  rfl
/-! ### things that are none -/
def lowD : Nat → D
  | 0 => .tup [.str "num", .int 1]
  | n + 1 => .tup [.str "add", lowD n, .tup [.str "arg", .int 0]]
def wideD : Nat → D
  | 0 => .tup [.str "num", .int 1]
  | n + 1 => .tup [.str "pick", wideD n, wideD n, wideD n]
abbrev num1 : D := .tup [.str "num", .int 1]
def bads : List D := [.non, .tup [], .str "num", .tup [.str "num"], .tup [.str "num", .int (-1)], .tup [.str "num", .int 10000], .tup [.str "num", .bl true], .tup [.str "arg", .int 4], .tup [.str "arg", .int 0, .int 0],
  .tup [.str "add", num1],
  .tup [.str "add", num1, num1, num1], .tup [.str "pick", num1, num1], .tup [.str "div", num1, num1], .lst, .tup [.str "add", num1, .int 5],
  .tup [.str "hole", .int 0],
  .tup [.str "sub", num1, .non], lowD 8, .tup [.str "add", .tup [.str "add", wideD 3, num1], .tup [.str "add", wideD 3, num1]], .tup [num1], .int 7]
theorem bads_no : ∀ d ∈ bads, isTreeD d = false := by decide +kernel
end My
end
section
set_option Elab.async false
set_option linter.all false
set_option maxRecDepth 100000
set_option maxHeartbeats 4000000
namespace My
open PySem L2 PyProof.Rows
section
variable {P : Program} {w : World} {K : PySem.W.Frag} {mg : Str → Option Value} {base : Heap} {k : Nat}

def mu2 (σ : L2.St) (_ : Hp) : Nat := match σ[2]? with
  | some (some (V.int p)) => (50 - p).toNat
  | _ => 0
def Ristree (ds : List D) (d : D) : Prop := ∃ x, ds = [x] ∧ d = .bl (isTreeD x)
abbrev pr (x : D × Int) : D := .tup [x.1, .int x.2]
theorem dats_snoc {K : PySem.W.Frag} {H : Hp} {b : D} : ∀ {as : List D} {vs : List V}, Dats K H (as ++ [b]) vs → ∃ us v, vs = us ++ [v] ∧ Dats K H as us ∧ Dat K H b v
  | [], vs, h => by
    obtain ⟨v, e, q⟩ := dats1 h
    exact ⟨[], v, e, Dats.nil, q⟩
  | a :: as, vs, h => by
    obtain ⟨u, r, e, h1, h2⟩ := h.consE
    obtain ⟨us, v, e2, h3, h4⟩ := dats_snoc h2
    subst e2 e
    exact ⟨u :: us, v, rfl, Dats.cons h1 h3, h4⟩
theorem valI_TB (k : Str) : valI k TB ≤ 3 := by
  unfold valI
  split
  · rename_i i e
    simp only [TB, KTD.datumAt] at e
    repeat' split at e
    all_goals first
      | (cases e; decide)
      | cases e
  · decide
theorem kids_few {d : D} (h : nodeD d = true) : (kidsD d).length ≤ 3 := by
  unfold nodeD at h
  split at h
  · rename_i k r
    unfold kidsD
    dsimp only
    split
    · rename_i hb
      split at h
      · rw [Bool.and_eq_true] at h
        have z := of_decide_eq_true h.1
        omega
      · rw [Bool.and_eq_true] at h
        have z := of_decide_eq_true h.2
        have z2 := valI_TB k
        omega
    · exact Nat.zero_le _
  · cases h
theorem node_tag {d : D} (h : nodeD d = true) : ∃ k r, d = .tup (.str k :: r) := by
  unfold nodeD at h
  split at h
  · exact ⟨_, _, rfl⟩
  · cases h
theorem ok_is_tree (T : Txt K mg) (F_is_node : FnOk P w K mg base CX0 k T.a_is_node T.d_is_node ["thing"] (spD K Rnode)) (F_trees_within : FnOk P w K mg base CX0 k T.a_trees_within T.d_trees_within ["tree"] (spD K Rwithin)) : FnOk P w K mg base CX0 (k + 1) T.a_is_tree T.d_is_tree ["thing"] (spD K Ristree) := by
  refine T.f_is_tree.ok sc_is_tree (fun vs H Q E h => ?_) (fun cdv A outer s H vs Q E hr h => ?_)
  · obtain ⟨ds, d, hd, ⟨x, rfl, rfl⟩, _⟩ := h; exact hd.length.symm
  have nd := sc_is_tree.nd
  obtain ⟨ds, d, hd, ⟨x, rfl, rfl⟩, post⟩ := h
  obtain ⟨v0, rfl, h0⟩ := dats1 hd
  refine ⟨_, (pss_cons (ps_set (i := 1) nd rfl (Or.inl rfl) (pe_lst (pa_c (pe_tup (pa_c (pv 0) (pa_c pe_int pa_nil))) pa_nil)))
  (pss_cons (ps_set (i := 2) nd rfl (Or.inl rfl) pe_int)
  (pss_cons (ps_while PassesOwn.never (pt_truth (pv 1) (fun _ => rfl)) (pss_cons (ps_asg (pe_bm0 PySem.F.plainAttrs_list PySem.F.slot_list_pop PySem.F.type_list_pop mt_pop (pv 1)) (pg_tup rfl (pgs_cons (pg_name (i := 3) nd rfl (Or.inl rfl)) (pgs_cons (pg_name (i := 4) nd rfl (Or.inr rfl)) pgs_nil))))
  (pss_cons (ps_aug (i := 2) nd rfl (Or.inl rfl) pe_int ip_add)
  (pss_cons (ps_if (PW.pt (pw_or (pt_cmpR op_gt (pv 2) (pe_glob (v := .int 40) rfl T.g_MOST_PARTS ⟨_, rfl⟩) (nomark _)) (pw_or (pt_cmpR op_gt (pv 4) (pe_glob (v := .int 8) rfl T.g_MOST_DEEP ⟨_, rfl⟩) (nomark _)) (pw_or1 (pt_not (pt_truth (pe_call F_is_node hr rfl T.m_is_node T.f_is_node.kp (b_is_node T) .nil pass0 (pa_c (pv 3) pa_nil)) (fun _ => rfl))))))) (pss_one (ps_ret pe_bl)) pss_nil)
  (pss_one (ps_expr (pe_bm PySem.F.plainAttrs_list PySem.F.slot_list_extend PySem.F.type_list_extend mt_extend (pv 1) (pa_c (pe_comp (own := ["within"]) (fr := [4]) (N' := ["within", "deep"]) (pi_tup (pe_call F_trees_within hr rfl T.m_trees_within T.f_trees_within.kp (b_trees_within T) .nil pass0 (pa_c (pv 3) pa_nil))) rfl (by show blkChk ["thing", "waiting", "parts", "part", "deep"] (fun x => (defScope s_is_tree).names.lookup x) _ _ _ _ = true; decide +kernel) rfl (fun _ _ _ _ _ => (pg_name (i := 0) (by show List.Nodup [("within" : Str), ("deep" : Str)]; decide +kernel) rfl (Or.inl rfl))) (fun _ _ _ _ _ => pifs_nil) (fun _ _ _ _ _ => (pe_tup (pa_c (pv 0) (pa_c (pe_op op_add (pv 1) pe_int) pa_nil))))) pa_nil))))))))
  (pss_one (ps_ret pe_bl))))), ?_⟩
  refine rs_asg (rl_lst (K := K) (ra_cons (re_tup (ra_cons (re_var h0) (ra_cons re_int ra_nil))) ra_nil) fun wl vs1 H1 s1 hw q1 => ?_)
  have hw0 : H wl = none := s1.free hw
  have s1' : Same H (upd H1 wl (.lst vs1)) := s1.trans (same_new hw _)
  refine rs_asg (rs_tc (rs_seq (while_by (fun σ G => ∃ (st : List (D × Int)) (p : Int) (n : Nat) (xs : List V) (z3 z4 : Option V), σ = [some v0, some (.ref wl), some (.int p), z3, z4] ∧ G wl = some (.lst xs) ∧ Dats K G (st.reverse.map pr) xs ∧ Same H G ∧ loopD n st p = isTreeD x ∧ 0 ≤ p ∧ p ≤ 40 ∧ (n : Int) = 50 - p ∧ (xs.length : Int) ≤ 1 + 3 * p)
    mu2 ?_ ?_ ?_)))
  · refine ⟨[(x, 1)], 0, 50, vs1, none, none, rfl, upd_same, (same_new hw _).dats q1, s1', rfl, by decide, by decide, by decide, ?_⟩
    rw [← q1.length]
    simp
  · rintro σ G ⟨st, p, n, xs, z3, z4, rfl, hG, hd, sG, lp, p0, p1, en, lx⟩
    refine ⟨_, rfl, !xs.isEmpty, .inl ⟨xs, SqL.of hG, rfl⟩, ?_⟩
    cases st with
    | nil =>
      have ex := hd.nilE
      subst ex
      rw [if_neg (by simp)]
      obtain ⟨m, rfl⟩ : ∃ m, n = m + 1 := ⟨n - 1, by omega⟩
      have lp' : isTreeD x = true := lp.symm
      refine post _ _ sG ?_
      rw [lp']
      exact Dat.blI _
    | cons e st =>
      obtain ⟨y, dp⟩ := e
      rw [List.reverse_cons, List.map_append] at hd
      obtain ⟨us, v, ex, hu, hv⟩ := dats_snoc hd
      subst ex
      obtain ⟨a, ws, ev, hq, hws⟩ := hv.tupE
      obtain ⟨vy, vd, ew, hy, hdp⟩ := dats2 hws
      have edp := hdp.intE
      subst edp ew ev
      rw [if_pos (by simp)]
      refine ⟨_, rfl, .inl ⟨rfl, _, SqL.of hG⟩, wl, us ++ [.ref a], .ref a, rfl, rfl, hG, (by simp), ?_⟩
      rw [List.dropLast_concat]
      have bt : But wl G (upd G wl (.lst us)) := But.upd (Same.refl G).but
      have g2 : Grow K G (upd G wl (.lst us)) := bt.grow hG upd_same
      refine ⟨a, [vy, .int dp], rfl, bt.sqT hG hq, rfl, vy, _, rfl, .int dp, _, rfl, rfl, ?_⟩
      have s2 : Same H (upd G wl (.lst us)) := fun b o hb => bt b o (ne_of_none hb hw0) (sG b o hb)
      have hy2 := Dat.mono g2 _ hy
      have hu2 := Dats.mono g2 _ hu
      refine ⟨_, rfl, p, 1, rfl, rfl, ?_⟩
      dsimp only
      refine rs_ifr (K := K) (b := decide (40 < p + 1) || (decide (8 < dp) || !nodeD y)) ?_ (fun c H3 s3 => ?_) (fun c H3 s3 => ?_)
      · exact rt_or (rt_test (re_cmp (re_var (K := K) (Dat.intI (p + 1))) re_int)) fun _ => rt_or (rt_test (re_cmp (re_var (K := K) (Dat.intI dp)) re_int)) fun _ => rt_not (rt_truth (re_call (ra_cons (re_var hy2) ra_nil) ⟨y, rfl, rfl⟩))
      · refine post _ _ (s2.trans s3) ?_
        obtain ⟨m, rfl⟩ : ∃ m, n = m + 1 := ⟨n - 1, by omega⟩
        have lp' : isTreeD x = false := by
          rw [← lp]
          show (if (decide (40 < p + 1) || (decide (8 < dp) || !nodeD y)) = true then false else _) = false
          rw [if_pos c]
        rw [lp']
        exact Dat.blI _
      · obtain ⟨m, rfl⟩ : ∃ m, n = m + 1 := ⟨n - 1, by omega⟩
        have lp' : loopD m (((kidsD y).map fun x => (x, dp + 1)).reverse ++ st) (p + 1) = isTreeD x := by
          rw [← lp]
          show _ = (if (decide (40 < p + 1) || (decide (8 < dp) || !nodeD y)) = true then false else _)
          rw [if_neg (by rw [c]; exact Bool.false_ne_true)]
        simp only [Bool.or_eq_false_iff, decide_eq_false_iff_not, Bool.not_eq_false'] at c
        obtain ⟨c1, c2, c3⟩ := c
        obtain ⟨kd, r, ey⟩ := node_tag c3
        have few := kids_few c3
        have hw3 := s3 _ _ (show upd G wl (.lst us) wl = some (.lst us) from upd_same)
        refine ⟨_, rfl, .inl ⟨rfl, _, SqL.of hw3⟩, ?_⟩
        refine rcomp_tup (K := K) (cs := kidsD y) (re_call (R := Rwithin) (ra_cons (re_var (s3.dat hy2)) ra_nil) ⟨kd, r, by rw [ey], by rw [ey]⟩) (by omega) ((kidsD y).map fun z => pr (z, dp + 1)) (List.length_map _) rfl (fun H4 i z vz d s4 hz hi hvz => ?_) (fun l ys H5 hl s5 hl5 hd5 => ?_)
        · rw [List.getElem?_map, hz] at hi
          cases hi
          exact re_tup (ra_cons (re_var hvz) (ra_cons (re_add (re_var (Dat.intI dp)) re_int) ra_nil))
        · have hw5 := s5 _ _ hw3
          have ly : ys.length = (kidsD y).length := by rw [← hd5.length, List.length_map]
          have lu : us.length = st.length := by rw [← hu.length, List.length_map, List.length_reverse]
          rw [List.length_append, List.length_singleton] at lx
          have b5 : But wl H5 (upd H5 wl (.lst (us ++ ys))) := But.upd (Same.refl H5).but
          have g5 : Grow K H5 (upd H5 wl (.lst (us ++ ys))) := b5.grow hw5 upd_same
          refine ⟨wl, l, us, ys, rfl, rfl, hw5, hl5, small (by omega), ?_⟩
          refine ⟨⟨_, p + 1, m, us ++ ys, _, _, rfl, upd_same, ?_, ?_, lp', by omega, by omega, by omega, ?_⟩, ?_⟩
          · rw [List.reverse_append, List.reverse_reverse, List.map_append, List.map_map]
            exact Dats.append (Dats.mono g5 _ ((s3.trans s5).dats hu2)) (Dats.mono g5 _ hd5)
          · exact fun b o hb => b5 b o (ne_of_none hb hw0) (s5 _ _ (s3 _ _ (s2 _ _ hb)))
          · rw [List.length_append]
            omega
          · show (50 - (p + 1)).toNat < (50 - p).toNat
            omega
  · intro σ G Q1 Q2 hQ hc
    obtain ⟨v, e, k', tr, q⟩ := hc
    exact ⟨v, e, k', tr, hQ _ _ q⟩
end
end My
end
section
set_option Elab.async false
set_option linter.all false
set_option maxRecDepth 100000
set_option maxHeartbeats 4000000
namespace My
open PySem L2 PyProof.Rows
section
variable {P : Program} {w : World} {K : PySem.W.Frag} {mg : Str → Option Value} {base : Heap} {k : Nat}

end
end My
end
section
set_option Elab.async false
set_option linter.all false
set_option maxRecDepth 100000
set_option maxHeartbeats 4000000
namespace My
open PySem L2 PyProof.Rows
section
variable {P : Program} {w : World} {K : PySem.W.Frag} {mg : Str → Option Value} {base : Heap} {k : Nat}

def spTree (K : PySem.W.Frag) (n : Nat) : Sp := fun vs H Q _ => ∃ (a t : Addr) (ns : List Int) (room p q c : Int), vs = [.ref a, .ref t, .int room] ∧ Scr K H a ns ∧ H t = some (.lst [.int p, .int q, .int c]) ∧ 0 ≤ p ∧ 0 ≤ c ∧ c ≤ 60 ∧ room ≤ n ∧ 1 ≤ n ∧
  ∀ (v : V) (H' : Hp) (X : Tr) (p' q' c' : Int), But t H H' → H' t = some (.lst [.int p', .int q', .int c']) → 0 ≤ p' → 0 ≤ c' → c' ≤ c → okT X → ((deepT X : Int) = 1 ∨ (deepT X : Int) ≤ room) → (sizeT X : Int) ≤ 1 + 3 * (c - c') → Dat K H' (toD X) v → Q v H'
def sumT (Ts : List Tr) : Nat := (Ts.map sizeT).sum
theorem sumT_snoc (Ts : List Tr) (x : Tr) : sumT (Ts ++ [x]) = sumT Ts + sizeT x := by simp [sumT]
def leafT : Tr → Prop
  | .num n => 0 ≤ n ∧ n ≤ 9999
  | .arg k => 0 ≤ k ∧ k ≤ 3
  | _ => False
theorem leaf_ok {x : Tr} (h : leafT x) : okT x ∧ deepT x = 1 ∧ sizeT x = 1 := by
  cases x with
  | num n => exact ⟨h, rfl, rfl⟩
  | arg n => exact ⟨h, rfl, rfl⟩
  | two o a b => exact h.elim
  | pick a b c => exact h.elim
theorem toD_node {nm : Str} {Ts : List Tr} {room : Int} (hr : 2 ≤ room) (ok : ∀ x ∈ Ts, okT x ∧ ((deepT x : Int) = 1 ∨ (deepT x : Int) ≤ room - 1)) (h : (nm = "pick" ∧ Ts.length = 3) ∨ ((nm = "add" ∨ nm = "sub" ∨ nm = "mul" ∨ nm = "less") ∧ Ts.length = 2)) :
    ∃ X : Tr, toD X = .tup (.str nm :: Ts.map toD) ∧ okT X ∧ (deepT X : Int) ≤ room ∧ sizeT X = 1 + sumT Ts := by
  rcases h with ⟨rfl, hl⟩ | ⟨hn, hl⟩
  · match Ts, hl with
    | [a, b, c], _ =>
      have h1 := ok a (by simp)
      have h2 := ok b (by simp)
      have h3 := ok c (by simp)
      refine ⟨.pick a b c, rfl, ⟨h1.1, h2.1, h3.1⟩, ?_, ?_⟩
      · simp only [deepT]; omega
      · simp [sizeT, sumT]; omega
  · match Ts, hl with
    | [a, b], _ =>
      have h1 := ok a (by simp)
      have h2 := ok b (by simp)
      refine ⟨.two nm a b, rfl, ⟨hn, h1.1, h2.1⟩, ?_, ?_⟩
      · simp only [deepT]; omega
      · simp [sizeT, sumT]; omega
theorem ok__law_tree (T : Txt K mg) {n : Nat} (F__law_draw : FnOk P w K mg base CX0 k T.a__law_draw T.d__law_draw ["_law_script", "_law_town", "_law_many"] (spDraw K)) (F__law_pick : FnOk P w K mg base CX0 k T.a__law_pick T.d__law_pick ["_law_script", "_law_town", "_law_some"] (spPick K)) (F__law_tree : FnOk P w K mg base CX0 k T.a__law_tree T.d__law_tree ["_law_script", "_law_town", "_law_room"] (spTree K n)) : FnOk P w K mg base CX0 (k + 1) T.a__law_tree T.d__law_tree ["_law_script", "_law_town", "_law_room"] (spTree K (n + 1)) := by
  refine T.f__law_tree.ok sc__law_tree (fun vs H Q E h => ?_) (fun cdv A outer s H vs Q E hr h => ?_)
  · obtain ⟨a, t, ns, room, p, q, c, rfl, _⟩ := h; rfl
  have nd := sc__law_tree.nd
  obtain ⟨a, t, ns, room, p, q, c, rfl, hS, hT, hp, hc, hc2, hroom, _, post⟩ := h
  refine ⟨_, (pss_cons (ps_set (i := 3) nd rfl (Or.inl rfl) (pe_tup (pa_c pe_str (pa_c (pe_call F__law_draw hr rfl T.m__law_draw T.f__law_draw.kp (b__law_draw T) .nil pass0 (pa_c (pv 0) (pa_c (pv 1) (pa_c pe_int pa_nil)))) pa_nil))))
  (pss_cons (ps_if (pt_cmpR op_eq (pe_call F__law_draw hr rfl T.m__law_draw T.f__law_draw.kp (b__law_draw T) .nil pass0 (pa_c (pv 0) (pa_c (pv 1) (pa_c pe_int pa_nil)))) pe_int (nomark _)) (pss_one (ps_set (i := 3) nd rfl (Or.inl rfl) (pe_tup (pa_c pe_str (pa_c (pe_call F__law_pick hr rfl T.m__law_pick T.f__law_pick.kp (b__law_pick T) .nil pass0 (pa_c (pv 0) (pa_c (pv 1) (pa_c (pe_lst (pa_c pe_int (pa_c pe_int (pa_c pe_int (pa_c pe_int (pa_c pe_int (pa_c pe_int (pa_c pe_int (pa_c pe_int pa_nil))))))))) pa_nil)))) pa_nil))))) pss_nil)
  (pss_cons (ps_if (PW.pt (pw_or (pt_cmpR op_lt (pv 2) pe_int (nomark _)) (pw_or (pt_cmpR op_lt (pe_ix ix_list (pv 1) pe_int (fun _ _ => rfl)) pe_int (nomark _)) (pw_or1 (pt_cmpR op_eq (pe_call F__law_draw hr rfl T.m__law_draw T.f__law_draw.kp (b__law_draw T) .nil pass0 (pa_c (pv 0) (pa_c (pv 1) (pa_c pe_int pa_nil)))) pe_int (nomark _)))))) (pss_one (ps_ret (pv 3))) pss_nil)
  (pss_cons (ps_augS (pv 1) pe_int get_list pe_int ip_sub set_list)
  (pss_cons (ps_set (i := 4) nd rfl (Or.inl rfl) (pe_call F__law_pick hr rfl T.m__law_pick T.f__law_pick.kp (b__law_pick T) .nil pass0 (pa_c (pv 0) (pa_c (pv 1) (pa_c (pe_lst (pa_c pe_str (pa_c pe_str (pa_c pe_str (pa_c pe_str (pa_c pe_str (pa_c pe_str pa_nil))))))) pa_nil)))))
  (pss_cons (ps_set (i := 5) nd rfl (Or.inl rfl) (pe_ifExp (pt_cmpR op_eq (pv 4) pe_str (nomark _)) pe_int pe_int))
  (pss_one (ps_ret (pe_op op_catT (pe_tup (pa_c (pv 4) pa_nil)) (pe_callTy call_tuple_of rfl T.n_tuple bo_tuple (pa_c (pe_comp (own := ["_law_k"]) (fr := [0, 1, 2]) (N' := ["_law_k", "_law_script", "_law_town", "_law_room"]) (pi_range1 rfl T.n_range (pa_c (pv 5) pa_nil)) rfl (by show blkChk ["_law_script", "_law_town", "_law_room", "_law_leaf", "_law_name", "_law_many"] (fun x => (defScope s__law_tree).names.lookup x) _ _ _ _ = true; decide +kernel) rfl (fun _ _ _ _ _ => (pg_name (i := 0) (by show List.Nodup [("_law_k" : Str), ("_law_script" : Str), ("_law_town" : Str), ("_law_room" : Str)]; decide +kernel) rfl (Or.inl rfl))) (fun _ _ _ _ _ => pifs_nil) (fun _ _ _ _ _ => (pe_call F__law_tree hr rfl T.m__law_tree T.f__law_tree.kp (b__law_tree T) .nil pass0 (pa_c (pv 1) (pa_c (pv 2) (pa_c (pe_op op_sub (pv 3) pe_int) pa_nil)))))) pa_nil))))))))))), ?_⟩
  refine rs_asg ⟨_, rfl, _, rfl, a, t, ns, 4, p, q, [.int c], rfl, hS, hT, hp, by decide, by decide, fun r1 H1 p1 q1 b1 t1 g1 r1a r1b => ⟨small (by simp), fun l1 hl1 => ?_⟩⟩
  have ne1 : l1 ≠ t := fun z => by rw [z, t1] at hl1; cases hl1
  have b2 := b1.trans (same_new hl1 (.tup [.str "arg", .int r1])).but
  have t2 : upd H1 l1 (.tup [.str "arg", .int r1]) t = some (.lst [.int p1, .int q1, .int c]) := by rw [upd_ne (Ne.symm ne1)]; exact t1
  have d2 : Dat K (upd H1 l1 (.tup [.str "arg", .int r1])) (toD (.arg r1)) (.ref l1) := Dat.tupI (SqT.of upd_same) (Dats.cons (Dat.strI _) (Dats.cons (Dat.intI _) Dats.nil))
  refine rs_join (fun σ G => ∃ (vL : V) (L : Tr) (p q : Int), σ = [some (.ref a), some (.ref t), some (.int room), some vL, none, none] ∧ But t H G ∧ G t = some (.lst [.int p, .int q, .int c]) ∧ 0 ≤ p ∧ leafT L ∧ Dat K G (toD L) vL) ?_ (fun hrest => ?_)
  case refine_2 =>
    refine ⟨_, rfl, _, rfl, a, t, ns, 2, p1, q1, [.int c], rfl, hS.but b2 hT, t2, g1, by decide, by decide, fun r3 H3 p3 q3 b3 t3 g3 r3a r3b => ?_⟩
    refine ⟨rfl, _, rfl, ?_⟩
    refine ite2 (fun cc => ?_) (fun cc => ?_)
    · refine ⟨_, rfl, _, rfl, small (by decide), fun l hl => ?_⟩
      have nel : l ≠ t := fun z => by rw [z, t3] at hl; cases hl
      have b4 := (b2.trans b3).trans (same_new hl (.lst [.int 0, .int 1, .int 2, .int 5, .int 99, .int 100, .int 1234, .int 9999])).but
      refine ⟨a, t, l, ns, _, p3, q3, [.int c], rfl, hS.but b4 hT, SqL.of upd_same, nel, by decide, by decide, (by rw [upd_ne (Ne.symm nel)]; exact t3), g3, fun i x H5 p5 q5 b5 t5 g5 hx => ⟨small (by simp), fun l6 hl6 => ?_⟩⟩
      have ne6 : l6 ≠ t := fun z => by rw [z, t5] at hl6; cases hl6
      obtain ⟨m, em, hm⟩ : ∃ m : Int, x = .int m ∧ 0 ≤ m ∧ m ≤ 9999 := by
        have := List.mem_of_getElem? hx
        simp only [List.mem_cons, List.not_mem_nil, or_false] at this
        rcases this with e | e | e | e | e | e | e | e <;> exact ⟨_, e, by decide, by decide⟩
      subst em
      exact hrest _ _ ⟨.ref l6, .num m, p5, q5, rfl, (b4.trans b5).trans (same_new hl6 _).but, (by rw [upd_ne (Ne.symm ne6)]; exact t5), g5, hm, Dat.tupI (SqT.of upd_same) (Dats.cons (Dat.strI _) (Dats.cons (Dat.intI _) Dats.nil))⟩
    · exact hrest _ _ ⟨.ref l1, .arg r1, p3, q3, rfl, b2.trans b3, t3, g3, ⟨r1a, by omega⟩, Dat.mono (b3.grow t2 t3) _ d2⟩
  rintro σ G ⟨vL, L, p, q, rfl, bG, tG, hp, hL, dL⟩
  obtain ⟨okL, dpL, szL⟩ := leaf_ok hL
  have back : ∀ (G' : Hp) (p' q' : Int), But t G G' → G' t = some (.lst [.int p', .int q', .int c]) → 0 ≤ p' → Q vL G' := fun G' p' q' b' t' g' =>
    post vL G' L p' q' c (bG.trans b') t' g' hc (Int.le_refl _) okL (.inl (by omega)) (by omega) (Dat.mono (b'.grow tG t') _ dL)
  refine rs_seq ⟨_, rfl, room, 2, rfl, rfl, _, rfl, ?_⟩
  refine ite2 (fun c1 => ?_) (fun c1 => ?_)
  · exact ⟨_, rfl, back G p q (Same.refl G).but tG hp⟩
  have c1' : ¬ room < 2 := of_decide_eq_false (Bool.eq_false_iff.mpr c1)
  refine ⟨_, rfl, t, _, 2, _, rfl, rfl, SqL.of tG, at2, c, 1, rfl, rfl, _, rfl, ?_⟩
  refine ite2 (fun c2 => ?_) (fun c2 => ?_)
  · exact ⟨_, rfl, back G p q (Same.refl G).but tG hp⟩
  have c2' : ¬ c < 1 := of_decide_eq_false (Bool.eq_false_iff.mpr c2)
  refine ⟨_, rfl, _, rfl, a, t, ns, 4, p, q, [.int c], rfl, hS.but bG hT, tG, hp, by decide, by decide, fun r3 H3 p3 q3 b3 t3 g3 r3a r3b => ?_⟩
  refine ⟨rfl, _, rfl, ?_⟩
  refine ite2 (fun c3 => ?_) (fun c3 => ?_)
  · exact ⟨_, rfl, back H3 p3 q3 b3 t3 g3⟩
  refine ⟨_, rfl, t, _, 2, _, rfl, rfl, (by decide), SqL.of t3, rfl, c, 1, rfl, rfl, t, _, 2, 2, rfl, rfl, t3, ix2, ?_⟩
  have b4 : But t H (upd H3 t (.lst [.int p3, .int q3, .int (c - 1)])) := But.upd (bG.trans b3)
  refine ⟨_, rfl, _, rfl, small (by decide), fun l hl => ?_⟩
  have nel : l ≠ t := fun z => by rw [z, upd_same] at hl; cases hl
  have b5 := b4.trans (same_new hl (.lst [.str "add", .str "add", .str "sub", .str "mul", .str "less", .str "pick"])).but
  refine ⟨a, t, l, ns, _, p3, q3, [.int (c - 1)], rfl, hS.but b5 hT, SqL.of upd_same, nel, by decide, by decide, (by rw [upd_ne (Ne.symm nel)]; exact upd_same), g3, fun i x H5 p5 q5 b6 t5 g5 hx => ?_⟩
  have bH := b5.trans b6
  obtain ⟨nm, en, hnm⟩ : ∃ nm : Str, x = .str nm ∧ (nm = "pick" ∨ (nm = "add" ∨ nm = "sub" ∨ nm = "mul" ∨ nm = "less")) := by
    have := List.mem_of_getElem? hx
    simp only [List.mem_cons, List.not_mem_nil, or_false] at this
    rcases this with e | e | e | e | e | e
    · exact ⟨_, e, .inr (.inl rfl)⟩
    · exact ⟨_, e, .inr (.inl rfl)⟩
    · exact ⟨_, e, .inr (.inr (.inl rfl))⟩
    · exact ⟨_, e, .inr (.inr (.inr (.inl rfl)))⟩
    · exact ⟨_, e, .inr (.inr (.inr (.inr rfl)))⟩
    · exact ⟨_, e, .inl rfl⟩
  subst en
  obtain ⟨many, hmany, hif⟩ : ∃ many : Nat, ((nm = "pick" ∧ many = 3) ∨ ((nm = "add" ∨ nm = "sub" ∨ nm = "mul" ∨ nm = "less") ∧ many = 2)) ∧ ∀ (A B : Prop), (A → many = 3 → False) → True := by
    rcases hnm with h | h
    · exact ⟨3, .inl ⟨h, rfl⟩, fun _ _ _ => trivial⟩
    · exact ⟨2, .inr ⟨h, rfl⟩, fun _ _ _ => trivial⟩
  clear hif
  dsimp only
  refine rs_join (fun σ G => σ = [some (.ref a), some (.ref t), some (.int room), some vL, some (.str nm), some (.int many)] ∧ G = H5) ?_ (fun hrest => ?_)
  case refine_2 =>
    refine ⟨_, rfl, rfl, _, rfl, ?_⟩
    refine ite2 (fun cc => ?_) (fun cc => ?_)
    · have e : V.str nm = V.str "pick" := of_decide_eq_true cc
      injection e with e
      rcases hmany with ⟨_, rfl⟩ | ⟨h, _⟩
      · exact hrest _ _ ⟨rfl, rfl⟩
      · subst e
        exact absurd h (by decide +kernel)
    · have e : ¬ V.str nm = V.str "pick" := of_decide_eq_false (Bool.eq_false_iff.mpr cc)
      rcases hmany with ⟨h, _⟩ | ⟨_, rfl⟩
      · exact absurd (by rw [h]) e
      · exact hrest _ _ ⟨rfl, rfl⟩
  rintro σ G ⟨rfl, rfl⟩
  have many_le : 2 ≤ many ∧ many ≤ 3 := by rcases hmany with ⟨_, h⟩ | ⟨_, h⟩ <;> omega
  refine ⟨_, rfl, small (by simp), fun e he => ?_⟩
  have nee : e ≠ t := fun z => by rw [z, t5] at he; cases he
  have t6 : upd G e (.tup [.str nm]) t = some (.lst [.int p5, .int q5, .int (c - 1)]) := by rw [upd_ne (Ne.symm nee)]; exact t5
  have b7 := bH.trans (same_new he (.tup [.str nm])).but
  dsimp only
  refine r_cb1 ?_
  refine rcomp_rngI many (fun R hR => ⟨_, rfl, hR⟩) (by omega) rfl
    (fun l i G' => ∃ (Ts : List Tr) (ys : List V) (p' q' c' : Int), But t (upd G e (.tup [.str nm])) G' ∧ G' t = some (.lst [.int p', .int q', .int c']) ∧ 0 ≤ p' ∧ 0 ≤ c' ∧ c' ≤ c - 1 ∧ G' l = some (.lst ys) ∧ Ts.length = i ∧ (∀ x ∈ Ts, okT x ∧ ((deepT x : Int) = 1 ∨ (deepT x : Int) ≤ room - 1)) ∧ (sumT Ts : Int) ≤ i + 3 * (c - 1 - c') ∧ Dats K G' (Ts.map toD) ys) (fun l hl => ?_) (fun l i G' hl hi pn => ?_) (fun l G' hl pn => ?_)
  · have nl : l ≠ t := fun z => by rw [z, t6] at hl; cases hl
    exact ⟨[], [], p5, q5, c - 1, (same_new hl _).but, (by rw [upd_ne (Ne.symm nl)]; exact t6), g5, by omega, Int.le_refl _, upd_same, rfl, (fun x hx => absurd hx (by simp)), by simp [sumT], Dats.nil⟩
  · obtain ⟨Ts, ys, p', q', c', bt, tt, gp, gc, gc2, hl', lT, okTs, sm, dT⟩ := pn
    have nl : l ≠ t := fun z => by rw [z, t6] at hl; cases hl
    have ly : ys.length = i := by rw [← dT.length, List.length_map, lT]
    refine ⟨_, rfl, _, rfl, _, rfl, room, 1, rfl, rfl, a, t, ns, room - 1, p', q', c', rfl, hS.but (b7.trans bt) hT, tt, gp, gc, by omega, by omega, by omega, fun v G2 X p2 q2 c2 bb t2 g2 h2 h2' okX dpX szX dX => ?_⟩
    have hl2 := bb l _ nl hl'
    have g1 : Grow K G' G2 := bb.grow tt t2
    have g3 : Grow K G2 (upd G2 l (.lst (ys ++ [v]))) := But.grow (t := l) (But.upd (Same.refl G2).but) hl2 upd_same
    refine ⟨ys, hl2, small1000 (by omega), ⟨_, rfl⟩, Ts ++ [X], ys ++ [v], p2, q2, c2, ?_, ?_, g2, h2, by omega, upd_same, by rw [List.length_append, lT]; rfl, ?_, ?_, ?_⟩
    · intro b o hb hbo
      have nb : b ≠ l := ne_of_none hbo hl
      rw [upd_ne nb]
      exact bb b o hb (bt b o hb hbo)
    · rw [upd_ne (Ne.symm nl)]; exact t2
    · intro x hx
      rcases List.mem_append.mp hx with hx | hx
      · exact okTs x hx
      · rw [List.mem_singleton.mp hx]
        exact ⟨okX, dpX⟩
    · rw [sumT_snoc]
      omega
    · rw [List.map_append]
      exact Dats.append (Dats.mono g3 _ (Dats.mono g1 _ dT)) (Dats.cons (Dat.mono g3 _ dX) Dats.nil)
  · obtain ⟨Ts, ys, p', q', c', bt, tt, gp, gc, gc2, hl', lT, okTs, sm, dT⟩ := pn
    have ly : ys.length = many := by rw [← dT.length, List.length_map, lT]
    refine ⟨l, ys, rfl, .inl ⟨SqL.of hl', fun u hu => ?_⟩⟩
    have nu : u ≠ t := fun z => by rw [z, tt] at hu; cases hu
    have se : SqT K (upd G' u (.tup ys)) e [.str nm] := (same_new hu _).sqT (bt.sqT t6 (SqT.of upd_same))
    refine ⟨e, u, _, ys, rfl, rfl, se, SqT.of upd_same, (by simp), small (by rw [List.length_singleton]; omega), fun z => ?_, fun _ x hx => ?_⟩
    · rw [z] at ly
      simp at ly
      omega
    · obtain ⟨X, eX, okX, dpX, szX⟩ := toD_node (nm := nm) (Ts := Ts) (room := room) (by omega) okTs (hmany.elim (fun h => .inl ⟨h.1, by omega⟩) (fun h => .inr ⟨h.1, by omega⟩))
      have nx : x ≠ t := fun z => by rw [z, upd_ne (Ne.symm nu), tt] at hx; cases hx
      have s8 := (same_new hu (.tup ys)).trans (same_new hx (.tup ([.str nm] ++ ys)))
      refine post _ _ X p' q' c' ((b7.trans bt).trans s8.but) (s8 _ _ tt) gp gc (by omega) okX (.inr dpX) (by omega) ?_
      rw [eX]
      exact Dat.tupI (SqT.of upd_same) (Dats.cons (Dat.strI _) (s8.dats dT))
end
end My
end
section
set_option Elab.async false
set_option linter.all false
set_option maxRecDepth 100000
set_option maxHeartbeats 4000000
namespace My
open PySem L2 PyProof.Rows
section
variable {P : Program} {w : World} {K : PySem.W.Frag} {mg : Str → Option Value} {base : Heap} {k : Nat}

def two (o : Str) (x y b : Int) : Int := if o = "less" then (if x < y then 1 else 0) else if o = "add" then (x + y) % b else if o = "sub" then (x - y) % b else x * y % b
def worthT (as : List Int) (b : Int) : Tr → Int
  | .num n => n % b
  | .arg k => as.getD k.toNat 0
  | .two o x y => two o (worthT as b x) (worthT as b y) b
  | .pick x y z => if worthT as b x = 0 then worthT as b z else worthT as b y
def argsOk (as : List Int) (b : Int) : Prop := as.length = 4 ∧ (∀ x ∈ as, 0 ≤ x ∧ x < b) ∧ 2 ≤ b ∧ b ≤ 10000
def okO (o : Str) : Prop := o = "add" ∨ o = "sub" ∨ o = "mul" ∨ o = "less"
theorem okO_ne {o : Str} (h : okO o) : ¬ o = "num" ∧ ¬ o = "arg" ∧ ¬ o = "pick" := by
  rcases h with rfl | rfl | rfl | rfl <;> decide +kernel
theorem two_lt {o : Str} {x y b : Int} (hb : 2 ≤ b) : 0 ≤ two o x y b ∧ two o x y b < b := by
  unfold two
  split
  · split <;> omega
  · split
    · exact ⟨Int.emod_nonneg _ (by omega), Int.emod_lt_of_pos _ (by omega)⟩
    · split
      · exact ⟨Int.emod_nonneg _ (by omega), Int.emod_lt_of_pos _ (by omega)⟩
      · exact ⟨Int.emod_nonneg _ (by omega), Int.emod_lt_of_pos _ (by omega)⟩
theorem arg_at {as : List Int} {b k : Int} (h : argsOk as b) (h0 : 0 ≤ k) (h1 : k ≤ 3) : as[k.toNat]? = some (as.getD k.toNat 0) := by
  have hl := h.1
  have hk : k.toNat < as.length := by omega
  rw [List.getD_eq_getElem?_getD, List.getElem?_eq_getElem hk]
  rfl
theorem worth_lt {as : List Int} {b : Int} (h : argsOk as b) : ∀ t : Tr, okT t → 0 ≤ worthT as b t ∧ worthT as b t < b
  | .num n, _ => ⟨Int.emod_nonneg _ (by have := h.2.2.1; omega), Int.emod_lt_of_pos _ (by have := h.2.2.1; omega)⟩
  | .arg k, ht => h.2.1 _ (List.mem_of_getElem? (arg_at h ht.1 ht.2))
  | .two o x y, _ => two_lt h.2.2.1
  | .pick x y z, ht => by
    unfold worthT
    split
    · exact worth_lt h z ht.2.2
    · exact worth_lt h y ht.2.1
def Rboth (ds : List D) (d : D) : Prop := ∃ o x y b, ds = [.str o, .int x, .int y, .int b] ∧ 2 ≤ b ∧ b ≤ 10000 ∧ 0 ≤ x ∧ x < b ∧ 0 ≤ y ∧ y < b ∧ d = .int (two o x y b)
def Rreck (n : Nat) (ds : List D) (d : D) : Prop := ∃ t as b, ds = [toD t, .tup (as.map D.int), .int b] ∧ okT t ∧ deepT t ≤ n ∧ argsOk as b ∧ d = .int (worthT as b t)
def Rworth (ds : List D) (d : D) : Prop := ∃ t as b, ds = [toD t, .tup (as.map D.int), .int b] ∧ okT t ∧ deepT t ≤ 8 ∧ sizeT t ≤ 40 ∧ argsOk as b ∧ d = .int (worthT as b t)
theorem dats4 {K : PySem.W.Frag} {H : Hp} {a b c e : D} {vs : List V} (h : Dats K H [a, b, c, e] vs) : ∃ u v w x, vs = [u, v, w, x] ∧ Dat K H a u ∧ Dat K H b v ∧ Dat K H c w ∧ Dat K H e x := by
  obtain ⟨u, r, e, h1, h⟩ := h.consE
  obtain ⟨v, w, x, q, h2⟩ := dats3 h
  subst q e
  exact ⟨u, v, w, x, rfl, h1, h2⟩
theorem t_str {x y : Str} (h : x = y) : decide (x = y) = true := decide_eq_true h
theorem f_str {x y : Str} (h : ¬ x = y) : decide (x = y) = false := decide_eq_false h
theorem ok_worth_of_both (T : Txt K mg)  : FnOk P w K mg base CX0 (k + 1) T.a_worth_of_both T.d_worth_of_both ["kind", "first", "second", "size"] (spD K Rboth) := by
  refine T.f_worth_of_both.ok sc_worth_of_both (fun vs H Q E h => ?_) (fun cdv A outer s H vs Q E hr h => ?_)
  · obtain ⟨ds, d, hd, ⟨o, x, y, b, rfl, _⟩, _⟩ := h; exact hd.length.symm
  have nd := sc_worth_of_both.nd
  obtain ⟨ds, d, hd, ⟨o, x, y, b, rfl, hb, hb2, hx, hx2, hy, hy2, rfl⟩, post⟩ := h
  obtain ⟨v0, v1, v2, v3, rfl, q0, q1, q2, q3⟩ := dats4 hd
  refine ⟨_, (pss_cons (ps_if (pt_cmpR op_eq (pv 0) pe_str (nomark _)) (pss_one (ps_ret (pe_ifExp (pt_cmpR op_lt (pv 1) (pv 2) (nomark _)) pe_int pe_int))) pss_nil)
  (pss_cons (ps_if (pt_cmpR op_eq (pv 0) pe_str (nomark _)) (pss_one (ps_ret (pe_op op_mod (pe_op op_add (pv 1) (pv 2)) (pv 3)))) pss_nil)
  (pss_cons (ps_if (pt_cmpR op_eq (pv 0) pe_str (nomark _)) (pss_one (ps_ret (pe_op op_mod (pe_op op_sub (pv 1) (pv 2)) (pv 3)))) pss_nil)
  (pss_one (ps_ret (pe_op op_mod (pe_op op_mul (pv 1) (pv 2)) (pv 3))))))), ?_⟩
  refine rs_ifr (K := K) (b := decide (o = "less")) (rt_test (re_eqS (re_var q0) re_str)) (fun c H1 s1 => ?_) (fun c H1 s1 => ?_)
  · refine rs_ret (K := K) (d := .int (two o x y b)) ?_ fun v H' s q => post v H' (s1.trans s) q
    have e : two o x y b = if x < y then 1 else 0 := by unfold two; rw [if_pos (of_decide_eq_true c)]
    rw [e]
    refine re_if (b := decide (x < y)) (rt_test (re_cmp (p := fun i j => decide (i < j)) (re_var (s1.dat q1)) (re_var (s1.dat q2)))) (fun c2 => ?_) (fun c2 => ?_)
    · rw [if_pos (of_decide_eq_true c2)]; exact re_int
    · rw [if_neg (of_decide_eq_false c2)]; exact re_int
  have q0 := s1.dat q0
  have q1 := s1.dat q1
  have q2 := s1.dat q2
  have q3 := s1.dat q3
  have n1 := of_decide_eq_false c
  refine rs_ifr (K := K) (b := decide (o = "add")) (rt_test (re_eqS (re_var q0) re_str)) (fun c H2 s2 => ?_) (fun c H2 s2 => ?_)
  · refine rs_ret (K := K) (d := .int (two o x y b)) ?_ fun v H' s q => post v H' (s1.trans (s2.trans s)) q
    have e : two o x y b = (x + y) % b := by unfold two; rw [if_neg n1, if_pos (of_decide_eq_true c)]
    rw [e]
    exact re_mod (re_add (re_var (s2.dat q1)) (re_var (s2.dat q2))) (re_var (s2.dat q3)) (by omega)
  have q0 := s2.dat q0
  have q1 := s2.dat q1
  have q2 := s2.dat q2
  have q3 := s2.dat q3
  have n2 := of_decide_eq_false c
  refine rs_ifr (K := K) (b := decide (o = "sub")) (rt_test (re_eqS (re_var q0) re_str)) (fun c H3 s3 => ?_) (fun c H3 s3 => ?_)
  · refine rs_ret (K := K) (d := .int (two o x y b)) ?_ fun v H' s q => post v H' (s1.trans (s2.trans (s3.trans s))) q
    have e : two o x y b = (x - y) % b := by unfold two; rw [if_neg n1, if_neg n2, if_pos (of_decide_eq_true c)]
    rw [e]
    exact re_mod (re_sub (re_var (s3.dat q1)) (re_var (s3.dat q2))) (re_var (s3.dat q3)) (by omega)
  have n3 := of_decide_eq_false c
  refine rs_ret (K := K) (d := .int (two o x y b)) ?_ fun v H' s q => post v H' (s1.trans (s2.trans (s3.trans s))) q
  have e : two o x y b = x * y % b := by unfold two; rw [if_neg n1, if_neg n2, if_neg n3]
  rw [e]
  exact re_mod (re_mul (re_var (s3.dat q1)) (re_var (s3.dat q2)) (.inr ⟨by omega, by omega⟩)) (re_var (s3.dat q3)) (by omega)
theorem ok_reckoned (T : Txt K mg) {n : Nat} (F_worth_of_both : FnOk P w K mg base CX0 k T.a_worth_of_both T.d_worth_of_both ["kind", "first", "second", "size"] (spD K Rboth)) (F_reckoned : FnOk P w K mg base CX0 k T.a_reckoned T.d_reckoned ["tree", "args", "size"] (spD K (Rreck n))) : FnOk P w K mg base CX0 (k + 1) T.a_reckoned T.d_reckoned ["tree", "args", "size"] (spD K (Rreck (n + 1))) := by
  refine T.f_reckoned.ok sc_reckoned (fun vs H Q E h => ?_) (fun cdv A outer s H vs Q E hr h => ?_)
  · obtain ⟨ds, d, hd, ⟨t, as, b, rfl, _⟩, _⟩ := h; exact hd.length.symm
  have nd := sc_reckoned.nd
  obtain ⟨ds, d, hd, ⟨t, as, b, rfl, ht, hn, ha, rfl⟩, post⟩ := h
  obtain ⟨v0, v1, v2, rfl, q0, q1, q2⟩ := dats3 hd
  refine ⟨_, (pss_cons (ps_set (i := 3) nd rfl (Or.inl rfl) (pe_ix ix_tup (pv 0) pe_int (fun _ _ => rfl)))
  (pss_cons (ps_if (pt_cmpR op_eq (pv 3) pe_str (nomark _)) (pss_one (ps_ret (pe_op op_mod (pe_ix ix_tup (pv 0) pe_int (fun _ _ => rfl)) (pv 2)))) pss_nil)
  (pss_cons (ps_if (pt_cmpR op_eq (pv 3) pe_str (nomark _)) (pss_one (ps_ret (pe_ix ix_tup (pv 1) (pe_ix ix_tup (pv 0) pe_int (fun _ _ => rfl)) (fun _ _ => rfl)))) pss_nil)
  (pss_cons (ps_set (i := 4) nd rfl (Or.inl rfl) (pe_call F_reckoned hr rfl T.m_reckoned T.f_reckoned.kp (b_reckoned T) .nil pass0 (pa_c (pe_ix ix_tup (pv 0) pe_int (fun _ _ => rfl)) (pa_c (pv 1) (pa_c (pv 2) pa_nil)))))
  (pss_cons (ps_if (pt_cmpR op_eq (pv 3) pe_str (nomark _)) (pss_one (ps_ret (pe_call F_reckoned hr rfl T.m_reckoned T.f_reckoned.kp (b_reckoned T) .nil pass0 (pa_c (pe_ifExp (pt_cmpR op_eq (pv 4) pe_int (nomark _)) (pe_ix ix_tup (pv 0) pe_int (fun _ _ => rfl)) (pe_ix ix_tup (pv 0) pe_int (fun _ _ => rfl))) (pa_c (pv 1) (pa_c (pv 2) pa_nil)))))) pss_nil)
  (pss_one (ps_ret (pe_call F_worth_of_both hr rfl T.m_worth_of_both T.f_worth_of_both.kp (b_worth_of_both T) .nil pass0 (pa_c (pv 3) (pa_c (pv 4) (pa_c (pe_call F_reckoned hr rfl T.m_reckoned T.f_reckoned.kp (b_reckoned T) .nil pass0 (pa_c (pe_ix ix_tup (pv 0) pe_int (fun _ _ => rfl)) (pa_c (pv 1) (pa_c (pv 2) pa_nil)))) (pa_c (pv 2) pa_nil)))))))))))), ?_⟩
  have hb0 : 0 < b := by have := ha.2.2.1; omega
  cases t with
  | num m =>
    have q0 : Dat K H (.tup [.str "num", .int m]) v0 := q0
    refine rs_setr (K := K) (d := .str "num") (re_ix (k := 0) (re_var q0) re_int rfl) fun v3 H1 s1 q3 => ?_
    refine rs_ifr (K := K) (b := true) (RT.as (rt_test (re_eqS (re_var q3) re_str)) (t_str rfl)) (fun c H2 s2 => ?_) (fun c => nomatch c)
    have s12 := s1.trans s2
    exact rs_ret (K := K) (d := .int (m % b)) (re_mod (re_ix (k := 1) (re_var (s12.dat q0)) re_int rfl) (re_var (s12.dat q2)) hb0) fun v H' s q => post v H' (s12.trans s) q
  | arg m =>
    have q0 : Dat K H (.tup [.str "arg", .int m]) v0 := q0
    refine rs_setr (K := K) (d := .str "arg") (re_ix (k := 0) (re_var q0) re_int rfl) fun v3 H1 s1 q3 => ?_
    refine rs_ifr (K := K) (b := false) (RT.as (rt_test (re_eqS (re_var q3) re_str)) (f_str (by decide +kernel))) (fun c => nomatch c) (fun c H2 s2 => ?_)
    refine rs_ifr (K := K) (b := true) (RT.as (rt_test (re_eqS (re_var (s2.dat q3)) re_str)) (t_str rfl)) (fun c H3 s3 => ?_) (fun c => nomatch c)
    have s13 := s1.trans (s2.trans s3)
    have em : m = ((m.toNat : Nat) : Int) := by have := ht.1; omega
    refine rs_ret (K := K) (d := .int (as.getD m.toNat 0)) (re_ix (k := m.toNat) (ds := as.map D.int) (re_var (s13.dat q1)) (RE.as (re_ix (k := 1) (re_var (s13.dat q0)) re_int rfl) (congrArg D.int em)) ?_) fun v H' s q => post v H' (s13.trans s) q
    rw [List.getElem?_map, arg_at ha ht.1 ht.2]
    rfl
  | two o x y =>
    have q0 : Dat K H (.tup [.str o, toD x, toD y]) v0 := q0
    obtain ⟨n1, n2, n3⟩ := okO_ne ht.1
    have dx : deepT x ≤ n := by simp only [deepT] at hn; omega
    have dy : deepT y ≤ n := by simp only [deepT] at hn; omega
    refine rs_setr (K := K) (d := .str o) (re_ix (k := 0) (re_var q0) re_int rfl) fun v3 H1 s1 q3 => ?_
    refine rs_ifr (K := K) (b := false) (RT.as (rt_test (re_eqS (re_var q3) re_str)) (f_str n1)) (fun c => nomatch c) (fun c H2 s2 => ?_)
    refine rs_ifr (K := K) (b := false) (RT.as (rt_test (re_eqS (re_var (s2.dat q3)) re_str)) (f_str n2)) (fun c => nomatch c) (fun c H3 s3 => ?_)
    have s13 := s1.trans (s2.trans s3)
    have q0 := s13.dat q0
    have q1 := s13.dat q1
    have q2 := s13.dat q2
    have q3 := (s2.trans s3).dat q3
    refine rs_setr (K := K) (d := .int (worthT as b x)) (re_call (R := Rreck n) (ra_cons (re_ix (k := 1) (re_var q0) re_int rfl) (ra_cons (re_var q1) (ra_cons (re_var q2) ra_nil))) ⟨x, as, b, rfl, ht.2.1, dx, ha, rfl⟩) fun v4 H4 s4 q4 => ?_
    refine rs_ifr (K := K) (b := false) (RT.as (rt_test (re_eqS (re_var (s4.dat q3)) re_str)) (f_str n3)) (fun c => nomatch c) (fun c H5 s5 => ?_)
    have s45 := s4.trans s5
    have wx := worth_lt ha x ht.2.1
    have wy := worth_lt ha y ht.2.2
    refine rs_ret (K := K) (d := .int (two o (worthT as b x) (worthT as b y) b)) (re_call (R := Rboth) (ra_cons (re_var (s45.dat q3)) (ra_cons (re_var (s5.dat q4)) (ra_cons (re_call (R := Rreck n) (d := .int (worthT as b y)) (ra_cons (re_ix (k := 2) (re_var (s45.dat q0)) re_int rfl) (ra_cons (re_var (s45.dat q1)) (ra_cons (re_var (s45.dat q2)) ra_nil))) ⟨y, as, b, rfl, ht.2.2, dy, ha, rfl⟩) (ra_cons (re_var (s45.dat q2)) ra_nil)))) ⟨o, _, _, b, rfl, ha.2.2.1, ha.2.2.2, wx.1, wx.2, wy.1, wy.2, rfl⟩) fun v H' s q => post v H' (s13.trans (s45.trans s)) q
  | pick x y z =>
    have q0 : Dat K H (.tup [.str "pick", toD x, toD y, toD z]) v0 := q0
    have dx : deepT x ≤ n := by simp only [deepT] at hn; omega
    have dy : deepT y ≤ n := by simp only [deepT] at hn; omega
    have dz : deepT z ≤ n := by simp only [deepT] at hn; omega
    refine rs_setr (K := K) (d := .str "pick") (re_ix (k := 0) (re_var q0) re_int rfl) fun v3 H1 s1 q3 => ?_
    refine rs_ifr (K := K) (b := false) (RT.as (rt_test (re_eqS (re_var q3) re_str)) (f_str (by decide +kernel))) (fun c => nomatch c) (fun c H2 s2 => ?_)
    refine rs_ifr (K := K) (b := false) (RT.as (rt_test (re_eqS (re_var (s2.dat q3)) re_str)) (f_str (by decide +kernel))) (fun c => nomatch c) (fun c H3 s3 => ?_)
    have s13 := s1.trans (s2.trans s3)
    have q0 := s13.dat q0
    have q1 := s13.dat q1
    have q2 := s13.dat q2
    have q3 := (s2.trans s3).dat q3
    refine rs_setr (K := K) (d := .int (worthT as b x)) (re_call (R := Rreck n) (ra_cons (re_ix (k := 1) (re_var q0) re_int rfl) (ra_cons (re_var q1) (ra_cons (re_var q2) ra_nil))) ⟨x, as, b, rfl, ht.1, dx, ha, rfl⟩) fun v4 H4 s4 q4 => ?_
    refine rs_ifr (K := K) (b := true) (RT.as (rt_test (re_eqS (re_var (s4.dat q3)) re_str)) (t_str rfl)) (fun c H5 s5 => ?_) (fun c => nomatch c)
    have s45 := s4.trans s5
    refine rs_ret (K := K) (d := .int (if worthT as b x = 0 then worthT as b z else worthT as b y)) (re_call (R := Rreck n) (ds := [toD (if worthT as b x = 0 then z else y), .tup (as.map D.int), .int b]) (ra_cons (re_if (b := decide (worthT as b x = 0)) (rt_test (re_eqI (re_var (s5.dat q4)) re_int)) (fun c => ?_) (fun c => ?_)) (ra_cons (re_var (s45.dat q1)) (ra_cons (re_var (s45.dat q2)) ra_nil))) ?_) fun v H' s q => post v H' (s13.trans (s45.trans s)) q
    · rw [if_pos (of_decide_eq_true c)]
      exact re_ix (k := 3) (re_var (s45.dat q0)) re_int rfl
    · rw [if_neg (of_decide_eq_false c)]
      exact re_ix (k := 2) (re_var (s45.dat q0)) re_int rfl
    · by_cases hz : worthT as b x = 0
      · rw [if_pos hz, if_pos hz]
        exact ⟨z, as, b, rfl, ht.2.2, dz, ha, rfl⟩
      · rw [if_neg hz, if_neg hz]
        exact ⟨y, as, b, rfl, ht.2.1, dy, ha, rfl⟩
end
end My
end
section
set_option Elab.async false
set_option linter.all false
set_option maxRecDepth 100000
set_option maxHeartbeats 4000000
namespace My
open PySem L2 PyProof.Rows
section
variable {P : Program} {w : World} {K : PySem.W.Frag} {mg : Str → Option Value} {base : Heap} {k : Nat}

abbrev arg0 : D := .tup [.str "arg", .int 0]
abbrev wide4 : D := .tup [.str "add", wideD 3, num1]
def wideI (i : Nat) : D := if i ≤ 3 then wideD i else wide4
def spNoTree (K : PySem.W.Frag) : Sp := fun vs H Q _ => ∃ (a t : Addr) (ns : List Int) (p q : Int) (rest : List V), vs = [.ref a, .ref t] ∧ Scr K H a ns ∧ H t = some (.lst (.int p :: .int q :: rest)) ∧ 0 ≤ p ∧
  ∀ (v : V) (H' : Hp) (d : D) (p' q' : Int), But t H H' → H' t = some (.lst (.int p' :: .int q' :: rest)) → 0 ≤ p' → d ∈ bads → Dat K H' d v → Q v H'
theorem ok__law_no_tree (T : Txt K mg) (F__law_pick : FnOk P w K mg base CX0 k T.a__law_pick T.d__law_pick ["_law_script", "_law_town", "_law_some"] (spPick K)) : FnOk P w K mg base CX0 (k + 1) T.a__law_no_tree T.d__law_no_tree ["_law_script", "_law_town"] (spNoTree K) := by
  refine T.f__law_no_tree.ok sc__law_no_tree (fun vs H Q E h => ?_) (fun cdv A outer s H vs Q E hr h => ?_)
  · obtain ⟨a, t, ns, p, q, rest, rfl, _⟩ := h; rfl
  have nd := sc__law_no_tree.nd
  obtain ⟨a, t, ns, p, q, rest, rfl, hS, hT, hp, post⟩ := h
  refine' ⟨_, ?ybody, ?yread⟩
  case ybody =>
    refine' pss_cons ?y116 ?y117
    case y116 =>
      refine' ps_asg ?y6 ?y7 ?y8 ?y9
      case y6 =>
        refine' pe_tup ?y5
        case y5 =>
          refine' pa_c ?y3 ?y4
          case y3 => exact (pe_tup (pa_c pe_str (pa_c pe_int pa_nil)))
          case y4 =>
            refine' pa_c ?y1 ?y2
            case y1 => exact (pe_tup (pa_c pe_str (pa_c pe_int pa_nil)))
            case y2 => exact pa_nil
      case y7 => exact (pg_tup rfl (pgs_cons (pg_name (i := 2) nd rfl (Or.inl rfl)) (pgs_cons (pg_name (i := 3) nd rfl (Or.inl rfl)) pgs_nil)))
      case y8 => rfl
      case y9 => kernel_rfl
    case y117 =>
      refine' pss_cons ?y114 ?y115
      case y114 => exact (ps_set (i := 4) nd rfl (Or.inl rfl) (pv 2))
      case y115 =>
        refine' pss_cons ?y112 ?y113
        case y112 => exact (ps_for PassesOwn.never rfl (pi_range1 rfl T.n_range (pa_c pe_int pa_nil)) (pg_name (i := 5) nd rfl (Or.inl rfl)) (pss_one (ps_set (i := 4) nd rfl (Or.inl rfl) (pe_tup (pa_c pe_str (pa_c (pv 4) (pa_c (pv 3) pa_nil)))))))
        case y113 =>
          refine' pss_cons ?y110 ?y111
          case y110 => exact (ps_set (i := 6) nd rfl (Or.inl rfl) (pv 2))
          case y111 =>
            refine' pss_cons ?y108 ?y109
            case y108 => exact (ps_for PassesOwn.never rfl (pi_range1 rfl T.n_range (pa_c pe_int pa_nil)) (pg_name (i := 5) nd rfl (Or.inl rfl)) (pss_one (ps_set (i := 6) nd rfl (Or.inl rfl) (pe_ifExp (pt_cmpR op_lt (pv 5) pe_int (nomark _)) (pe_tup (pa_c pe_str (pa_c (pv 6) (pa_c (pv 6) (pa_c (pv 6) pa_nil))))) (pe_tup (pa_c pe_str (pa_c (pv 6) (pa_c (pv 2) pa_nil))))))))
            case y109 =>
              refine' pss_cons ?y106 ?y107
              case y106 =>
                refine' ps_set (i := 7) ?y29 ?y30 ?y31 ?y32
                case y29 => exact nd
                case y30 => exact rfl
                case y31 => exact Or.inl rfl
                case y32 =>
                  refine' pe_lst ?y28
                  case y28 =>
                    refine' pa_c ?y26 ?y27
                    case y26 => exact pe_non
                    case y27 =>
                      refine' pa_c ?y24 ?y25
                      case y24 => exact (pe_tup pa_nil)
                      case y25 =>
                        refine' pa_c ?y22 ?y23
                        case y22 => exact pe_str
                        case y23 =>
                          refine' pa_c ?y20 ?y21
                          case y20 => exact (pe_tup (pa_c pe_str pa_nil))
                          case y21 =>
                            refine' pa_c ?y18 ?y19
                            case y18 => exact (pe_tup (pa_c pe_str (pa_c (pe_un un_neg pe_int) pa_nil)))
                            case y19 =>
                              refine' pa_c ?y16 ?y17
                              case y16 => exact (pe_tup (pa_c pe_str (pa_c pe_int pa_nil)))
                              case y17 =>
                                refine' pa_c ?y14 ?y15
                                case y14 => exact (pe_tup (pa_c pe_str (pa_c pe_bl pa_nil)))
                                case y15 =>
                                  refine' pa_c ?y12 ?y13
                                  case y12 => exact (pe_tup (pa_c pe_str (pa_c pe_int pa_nil)))
                                  case y13 =>
                                    refine' pa_c ?y10 ?y11
                                    case y10 => exact (pe_tup (pa_c pe_str (pa_c pe_int (pa_c pe_int pa_nil))))
                                    case y11 => exact pa_nil
              case y107 =>
                refine' pss_cons ?y104 ?y105
                case y104 =>
                  refine' ps_expr ?y44
                  case y44 =>
                    refine' pe_bm ?y38 ?y39 ?y40 ?y41 ?y42 ?y43
                    case y38 => exact PySem.F.plainAttrs_list
                    case y39 => exact PySem.F.slot_list_extend
                    case y40 => exact PySem.F.type_list_extend
                    case y41 => exact mt_extend
                    case y42 => exact (pv 7)
                    case y43 =>
                      refine' pa_c ?y36 ?y37
                      case y36 =>
                        refine' pe_lst ?y35
                        case y35 =>
                          refine' pa_c ?y33 ?y34
                          case y33 => exact (pe_tup (pa_c pe_str (pa_c (pv 2) pa_nil)))
                          case y34 => exact pa_nil
                      case y37 => exact pa_nil
                case y105 =>
                  refine' pss_cons ?y102 ?y103
                  case y102 =>
                    refine' ps_expr ?y64
                    case y64 =>
                      refine' pe_bm ?y58 ?y59 ?y60 ?y61 ?y62 ?y63
                      case y58 => exact PySem.F.plainAttrs_list
                      case y59 => exact PySem.F.slot_list_extend
                      case y60 => exact PySem.F.type_list_extend
                      case y61 => exact mt_extend
                      case y62 => exact (pv 7)
                      case y63 =>
                        refine' pa_c ?y56 ?y57
                        case y56 =>
                          refine' pe_lst ?y55
                          case y55 =>
                            refine' pa_c ?y53 ?y54
                            case y53 => exact (pe_tup (pa_c pe_str (pa_c (pv 2) (pa_c (pv 2) (pa_c (pv 2) pa_nil)))))
                            case y54 =>
                              refine' pa_c ?y51 ?y52
                              case y51 => exact (pe_tup (pa_c pe_str (pa_c (pv 2) (pa_c (pv 2) pa_nil))))
                              case y52 =>
                                refine' pa_c ?y49 ?y50
                                case y49 => exact (pe_tup (pa_c pe_str (pa_c (pv 2) (pa_c (pv 2) pa_nil))))
                                case y50 =>
                                  refine' pa_c ?y47 ?y48
                                  case y47 => exact (pe_lst (pa_c pe_str (pa_c pe_int pa_nil)))
                                  case y48 =>
                                    refine' pa_c ?y45 ?y46
                                    case y45 => exact (pe_tup (pa_c pe_str (pa_c (pv 2) (pa_c pe_int pa_nil))))
                                    case y46 => exact pa_nil
                        case y57 => exact pa_nil
                  case y103 =>
                    refine' pss_cons ?y100 ?y101
                    case y100 =>
                      refine' ps_expr ?y76
                      case y76 =>
                        refine' pe_bm ?y70 ?y71 ?y72 ?y73 ?y74 ?y75
                        case y70 => exact PySem.F.plainAttrs_list
                        case y71 => exact PySem.F.slot_list_extend
                        case y72 => exact PySem.F.type_list_extend
                        case y73 => exact mt_extend
                        case y74 => exact (pv 7)
                        case y75 =>
                          refine' pa_c ?y68 ?y69
                          case y68 =>
                            refine' pe_lst ?y67
                            case y67 =>
                              refine' pa_c ?y65 ?y66
                              case y65 => exact (pe_tup (pa_c pe_str (pa_c pe_int pa_nil)))
                              case y66 => exact pa_nil
                          case y69 => exact pa_nil
                    case y101 =>
                      refine' pss_cons ?y98 ?y99
                      case y98 =>
                        refine' ps_expr ?y96
                        case y96 =>
                          refine' pe_bm ?y90 ?y91 ?y92 ?y93 ?y94 ?y95
                          case y90 => exact PySem.F.plainAttrs_list
                          case y91 => exact PySem.F.slot_list_extend
                          case y92 => exact PySem.F.type_list_extend
                          case y93 => exact mt_extend
                          case y94 => exact (pv 7)
                          case y95 =>
                            refine' pa_c ?y88 ?y89
                            case y88 =>
                              refine' pe_lst ?y87
                              case y87 =>
                                refine' pa_c ?y85 ?y86
                                case y85 => exact (pe_tup (pa_c pe_str (pa_c (pv 2) (pa_c pe_non pa_nil))))
                                case y86 =>
                                  refine' pa_c ?y83 ?y84
                                  case y83 => exact (pv 4)
                                  case y84 =>
                                    refine' pa_c ?y81 ?y82
                                    case y81 => exact (pe_tup (pa_c pe_str (pa_c (pv 6) (pa_c (pv 6) pa_nil))))
                                    case y82 =>
                                      refine' pa_c ?y79 ?y80
                                      case y79 => exact (pe_tup (pa_c (pv 2) pa_nil))
                                      case y80 =>
                                        refine' pa_c ?y77 ?y78
                                        case y77 => exact pe_int
                                        case y78 => exact pa_nil
                            case y89 => exact pa_nil
                      case y99 =>
                        refine' pss_one ?y97
                        case y97 => exact (ps_ret (pe_call F__law_pick hr rfl T.m__law_pick T.f__law_pick.kp (b__law_pick T) .nil pass0 (pa_c (pv 0) (pa_c (pv 1) (pa_c (pv 7) pa_nil)))))
  case yread =>
    refine rs_unp2 (K := K) (d := num1) (e := arg0) (re_tup (ra_cons (re_tup (ra_cons re_str (ra_cons re_int ra_nil))) (ra_cons (re_tup (ra_cons re_str (ra_cons re_int ra_nil))) ra_nil))) fun vn va H1 s1 dn da => ?_
    refine rs_setr (K := K) (d := num1) (re_var dn) fun vl H2 s2 dl => ?_
    have s2' := s1.trans s2
    refine rs_seq ⟨8, rfl, by decide, by decide, for_range (n := 8) (fun i σ G => ∃ (vl : V) (z : Option V), σ = [some (.ref a), some (.ref t), some vn, some va, some vl, z, none, none] ∧ Same H2 G ∧ Dat K G (lowD i) vl) ?_ ?_ ?_⟩
    · exact ⟨vl, none, rfl, Same.refl _, dl⟩
    · rintro i σ G hi ⟨vl, z, rfl, sG, dG⟩
      refine rg_name ?_
      dsimp only
      refine rs_set (K := K) (d := lowD (i + 1)) ?_ fun v H' s d => ⟨v, _, rfl, sG.trans s, d⟩
      exact re_tup (ra_cons re_str (ra_cons (re_var dG) (ra_cons (re_var ((s2.trans sG).dat da)) ra_nil)))
    rintro σ G ⟨vl, z, rfl, sG, dl⟩
    have s3 := s2'.trans sG
    have dn3 := (s2.trans sG).dat dn
    have da3 := (s2.trans sG).dat da
    refine rs_setr (K := K) (d := num1) (re_var dn3) fun vw H4 s4 dw => ?_
    refine rs_seq ⟨4, rfl, by decide, by decide, for_range (n := 4) (fun i σ G' => ∃ (vw : V) (z : Option V), σ = [some (.ref a), some (.ref t), some vn, some va, some vl, z, some vw, none] ∧ Same H4 G' ∧ Dat K G' (wideI i) vw) ?_ ?_ ?_⟩
    · exact ⟨vw, z, rfl, Same.refl _, dw⟩
    · rintro i σ G' hi ⟨vw, z, rfl, sG', dG⟩
      refine rg_name ?_
      dsimp only
      have hz : (0 : Int) + (i : Int) = i := by omega
      refine rs_set (K := K) (d := wideI (i + 1)) ?_ fun v H' s d => ⟨v, _, rfl, sG'.trans s, d⟩
      refine re_if (b := decide ((0 : Int) + (i : Int) < 3)) (rt_test (K := K) (re_cmp (p := fun i j => decide (i < j)) (re_var (Dat.intI _)) re_int)) (fun c => ?_) (fun c => ?_)
      · have c' : i < 3 := by have := of_decide_eq_true c; omega
        refine RE.as (re_tup (ra_cons re_str (ra_cons (re_var dG) (ra_cons (re_var dG) (ra_cons (re_var dG) ra_nil))))) ?_
        unfold wideI
        rw [if_pos (by omega), if_pos (by omega)]
        rfl
      · have c' : i = 3 := by have := of_decide_eq_false c; omega
        subst c'
        exact re_tup (ra_cons re_str (ra_cons (re_var dG) (ra_cons (re_var ((s4.trans sG').dat dn3)) ra_nil)))
    rintro σ G' ⟨vw, z2, rfl, sG', dw⟩
    have s5 := s3.trans (s4.trans sG')
    have dn := (s4.trans sG').dat dn3
    have da := (s4.trans sG').dat da3
    have dl := (s4.trans sG').dat dl
    have dw : Dat K G' wide4 vw := dw
    refine rs_asg (rl_lst (K := K) (ra_cons re_non (ra_cons (re_tup ra_nil) (ra_cons re_str (ra_cons (re_tup (ra_cons re_str ra_nil)) (ra_cons (re_tup (ra_cons re_str (ra_cons (re_un re_int) ra_nil))) (ra_cons (re_tup (ra_cons re_str (ra_cons re_int ra_nil))) (ra_cons (re_tup (ra_cons re_str (ra_cons re_bl ra_nil))) (ra_cons (re_tup (ra_cons re_str (ra_cons re_int ra_nil))) (ra_cons (re_tup (ra_cons re_str (ra_cons re_int (ra_cons re_int ra_nil)))) ra_nil))))))))) fun lb x0 H6 s6 hb e0 => ?_)
    have s6' := s6.trans (same_new hb (.lst x0))
    have hlb : H lb = none := (s5.trans s6).free hb
    have dn := s6'.dat dn
    have da := s6'.dat da
    have dl := s6'.dat dl
    have dw := s6'.dat dw
    have e0 := (same_new hb (.lst x0)).dats e0
    have l0 := e0.length
    have h0 : upd H6 lb (.lst x0) lb = some (.lst x0) := upd_same
    have bb0 : But lb H (upd H6 lb (.lst x0)) := (s5.trans s6').but
    simp only [List.length_cons, List.length_nil, List.length_append] at l0
    refine rs_extl (K := K) (ra_cons (re_tup (ra_cons re_str (ra_cons (re_var dn) ra_nil))) ra_nil) h0 (by first | omega | (simp only [List.length_append]; omega)) fun x1 G1 b1 h1 e1' => ?_
    have g1 : Grow K _ G1 := b1.grow h0 h1
    have dn := Dat.mono g1 _ dn
    have da := Dat.mono g1 _ da
    have dl := Dat.mono g1 _ dl
    have dw := Dat.mono g1 _ dw
    have e1 := Dats.append (Dats.mono g1 _ e0) e1'
    have l1 := e1.length
    have bb1 := bb0.trans b1
    simp only [List.length_cons, List.length_nil, List.length_append] at l1
    refine rs_extl (K := K) (ra_cons (re_tup (ra_cons re_str (ra_cons (re_var dn) (ra_cons (re_var dn) (ra_cons (re_var dn) ra_nil))))) (ra_cons (re_tup (ra_cons re_str (ra_cons (re_var dn) (ra_cons (re_var dn) ra_nil)))) (ra_cons (re_tup (ra_cons re_str (ra_cons (re_var dn) (ra_cons (re_var dn) ra_nil)))) (ra_cons (re_lst (ra_cons re_str (ra_cons re_int ra_nil))) (ra_cons (re_tup (ra_cons re_str (ra_cons (re_var dn) (ra_cons re_int ra_nil)))) ra_nil))))) h1 (by first | omega | (simp only [List.length_append]; omega)) fun x2 G2 b2 h2 e2' => ?_
    have g2 : Grow K _ G2 := b2.grow h1 h2
    have dn := Dat.mono g2 _ dn
    have da := Dat.mono g2 _ da
    have dl := Dat.mono g2 _ dl
    have dw := Dat.mono g2 _ dw
    have e2 := Dats.append (Dats.mono g2 _ e1) e2'
    have l2 := e2.length
    have bb2 := bb1.trans b2
    simp only [List.length_cons, List.length_nil, List.length_append] at l2
    refine rs_extl (K := K) (ra_cons (re_tup (ra_cons re_str (ra_cons re_int ra_nil))) ra_nil) h2 (by first | omega | (simp only [List.length_append]; omega)) fun x3 G3 b3 h3 e3' => ?_
    have g3 : Grow K _ G3 := b3.grow h2 h3
    have dn := Dat.mono g3 _ dn
    have da := Dat.mono g3 _ da
    have dl := Dat.mono g3 _ dl
    have dw := Dat.mono g3 _ dw
    have e3 := Dats.append (Dats.mono g3 _ e2) e3'
    have l3 := e3.length
    have bb3 := bb2.trans b3
    simp only [List.length_cons, List.length_nil, List.length_append] at l3
    refine rs_extl (K := K) (ra_cons (re_tup (ra_cons re_str (ra_cons (re_var dn) (ra_cons re_non ra_nil)))) (ra_cons (re_var dl) (ra_cons (re_tup (ra_cons re_str (ra_cons (re_var dw) (ra_cons (re_var dw) ra_nil)))) (ra_cons (re_tup (ra_cons (re_var dn) ra_nil)) (ra_cons re_int ra_nil))))) h3 (by first | omega | (simp only [List.length_append]; omega)) fun x4 G4 b4 h4 e4' => ?_
    have g4 : Grow K _ G4 := b4.grow h3 h4
    have dn := Dat.mono g4 _ dn
    have da := Dat.mono g4 _ da
    have dl := Dat.mono g4 _ dl
    have dw := Dat.mono g4 _ dw
    have e4 := Dats.append (Dats.mono g4 _ e3) e4'
    have l4 := e4.length
    have bb4 := bb3.trans b4
    have sm : Same H G4 := fun b o hbo => bb4 b o (ne_of_none hbo hlb) hbo
    have nlb : lb ≠ t := fun z => by rw [z, hT] at hlb; cases hlb
    refine ⟨_, rfl, _, rfl, _, rfl, a, t, lb, ns, _, p, q, rest, rfl, hS.same sm, SqL.of h4, nlb, ?_, ?_, sm _ _ hT, hp, fun i x H' p' q' bt t' g' hx => ?_⟩
    · rw [← e4.length]; simp
    · rw [← e4.length]; simp
    · obtain ⟨d, ed, hd⟩ := e4.getV hx
      exact post x H' d p' q' (sm.but.trans bt) t' g' (List.mem_of_getElem? (show bads[i]? = some d from ed)) (Dat.mono (bt.grow (sm _ _ hT) t') _ hd)
end
end My
end
section
set_option Elab.async false
set_option linter.all false
set_option maxRecDepth 100000
set_option maxHeartbeats 4000000
namespace My
open PySem L2 PyProof.Rows
section
variable {P : Program} {w : World} {K : PySem.W.Frag} {mg : Str → Option Value} {base : Heap} {k : Nat}

def argsD (d : D) (b : Int) : Bool := match d with
  | .tup ds => decide ((ds.length : Int) = 4) && (ds.map fun x => wholeD x 0 (b - 1)).all id
  | _ => false
def RneedT (ds : List D) (d : D) : Prop := ∃ x, ds = [x] ∧ isTreeD x = true ∧ d = .non
def BneedT (N : Addr) (ds : List D) (C : Addr) : Prop := ∃ x, ds = [x] ∧ isTreeD x = false ∧ C = N
def RneedS (ds : List D) (d : D) : Prop := ∃ x, ds = [x, .int 10000] ∧ wholeD x 2 10000 = true ∧ d = .non
def BneedS (N : Addr) (ds : List D) (C : Addr) : Prop := ∃ x, ds = [x, .int 10000] ∧ wholeD x 2 10000 = false ∧ C = N
def RneedA (ds : List D) (d : D) : Prop := ∃ x b, ds = [x, .int b] ∧ 2 ≤ b ∧ b ≤ 10000 ∧ argsD x b = true ∧ d = .non
def BneedA (N : Addr) (ds : List D) (C : Addr) : Prop := ∃ x b, ds = [x, .int b] ∧ 2 ≤ b ∧ b ≤ 10000 ∧ argsD x b = false ∧ C = N
theorem bnot_t {b : Bool} (h : (!b) = true) : b = false := by cases b with | true => cases h | false => rfl
theorem bnot_f {b : Bool} (h : (!b) = false) : b = true := by cases b with | true => rfl | false => cases h
theorem args_bits {s : Int} (h1 : 2 ≤ s) (h2 : s ≤ 10000) : (s - 1).natAbs.log2 < 1920 := by
  have h3 : (s - 1).natAbs ≤ 10000 := by omega
  have h4 : (s - 1).natAbs ≠ 0 := by omega
  rw [Nat.log2_lt h4]
  exact Nat.lt_of_le_of_lt h3 (Nat.lt_of_lt_of_le (by decide : 10000 < 2 ^ 14) (Nat.pow_le_pow_right (by decide) (by decide)))
theorem ok_need_tree (T : Txt K mg) (F_is_tree : FnOk P w K mg base CX0 k T.a_is_tree T.d_is_tree ["thing"] (spD K Ristree)) : FnOk P w K mg base (CX1 P w) (k + 1) T.a_need_tree T.d_need_tree ["tree"] (spE K RneedT (BneedT T.a_NoTree)) := by
  refine T.f_need_tree.ok1 sc_need_tree (fun vs H Q E h => ?_) (fun cdv A outer s H vs Q E hr h => ?_)
  · obtain ⟨ds, hd, h⟩ := h; rcases h with ⟨d, ⟨x, rfl, _⟩, _⟩ | ⟨C, ⟨x, rfl, _⟩, _⟩ <;> exact hd.length.symm
  have nd := sc_need_tree.nd
  obtain ⟨ds, hd, h⟩ := h
  obtain ⟨x, rfl⟩ : ∃ x, ds = [x] := by rcases h with ⟨d, ⟨x, e, _⟩, _⟩ | ⟨C, ⟨x, e, _⟩, _⟩ <;> exact ⟨x, e⟩
  obtain ⟨v0, rfl, h0⟩ := dats1 hd
  refine ⟨_, (pss_one (ps_if (pt_not (pt_truth (pe_call F_is_tree hr rfl T.m_is_tree T.f_is_tree.kp (b_is_tree T) .nil pass0 (pa_c (pv 0) pa_nil)) (fun _ => rfl))) (pss_one (ps_raise PySem.F.excBase_ValueError rfl PySem.F.excBase_ValueError T.r_NoTree throw1 rfl T.g_NoTree (pa_c pe_str pa_nil))) pss_nil)), ?_⟩
  refine rs_if (b := !isTreeD x) (rt_not (rt_truth (re_call (ra_cons (re_var h0) ra_nil) ⟨x, rfl, rfl⟩))) (fun c H1 s1 => ?_) (fun c H1 s1 => ?_)
  · rcases h with ⟨d, ⟨y, e, h1, _⟩, _⟩ | ⟨C, ⟨y, e, h1, rfl⟩, post⟩
    · cases e
      rw [h1] at c; cases c
    · exact ⟨small (by decide), post _ s1⟩
  · rcases h with ⟨d, ⟨y, e, h1, rfl⟩, post⟩ | ⟨C, ⟨y, e, h1, rfl⟩, post⟩
    · exact post _ _ s1 Dat.nonI
    · cases e
      rw [h1] at c; cases c
theorem ok_need_size (T : Txt K mg) (F_is_whole : FnOk P w K mg base CX0 k T.a_is_whole T.d_is_whole ["thing", "low", "high"] (spD K Rwhole)) : FnOk P w K mg base (CX1 P w) (k + 1) T.a_need_size T.d_need_size ["size", "most"] (spE K RneedS (BneedS T.a_NoSize)) := by
  refine T.f_need_size.ok1 sc_need_size (fun vs H Q E h => ?_) (fun cdv A outer s H vs Q E hr h => ?_)
  · obtain ⟨ds, hd, h⟩ := h; rcases h with ⟨d, ⟨x, rfl, _⟩, _⟩ | ⟨C, ⟨x, rfl, _⟩, _⟩ <;> exact hd.length.symm
  have nd := sc_need_size.nd
  obtain ⟨ds, hd, h⟩ := h
  obtain ⟨x, rfl⟩ : ∃ x, ds = [x, .int 10000] := by rcases h with ⟨d, ⟨x, e, _⟩, _⟩ | ⟨C, ⟨x, e, _⟩, _⟩ <;> exact ⟨x, e⟩
  obtain ⟨v0, v1, rfl, h0, h1⟩ := dats2 hd
  have e1 := h1.intE
  subst e1
  refine ⟨_, (pss_one (ps_if (pt_not (pt_truth (pe_call F_is_whole hr rfl T.m_is_whole T.f_is_whole.kp (b_is_whole T) .nil pass0 (pa_c (pv 0) (pa_c pe_int (pa_c (pv 1) pa_nil)))) (fun _ => rfl))) (pss_one (ps_raise PySem.F.excBase_ValueError rfl PySem.F.excBase_ValueError T.r_NoSize throw1 rfl T.g_NoSize (pa_c (pe_fstr2 (pv 1) (by decide)) pa_nil))) pss_nil)), ?_⟩
  refine rs_if (b := !wholeD x 2 10000) (rt_not (rt_truth (re_call (ra_cons (re_var h0) (ra_cons re_int (ra_cons (re_var h1) ra_nil))) ⟨x, 2, 10000, rfl, rfl⟩))) (fun c H1 s1 => ?_) (fun c H1 s1 => ?_)
  · rcases h with ⟨d, ⟨y, e, h1, _⟩, _⟩ | ⟨C, ⟨y, e, h1, rfl⟩, post⟩
    · cases e
      rw [h1] at c; cases c
    · exact ⟨_, rfl, 10000, rfl, by decide +kernel, fun y => ⟨small (by simp), post _ s1⟩⟩
  · rcases h with ⟨d, ⟨y, e, h1, rfl⟩, post⟩ | ⟨C, ⟨y, e, h1, rfl⟩, post⟩
    · exact post _ _ s1 Dat.nonI
    · cases e
      rw [h1] at c; cases c
theorem ok_need_args (T : Txt K mg) (F_is_whole : FnOk P w K mg base CX0 k T.a_is_whole T.d_is_whole ["thing", "low", "high"] (spD K Rwhole)) : FnOk P w K mg base (CX1 P w) (k + 1) T.a_need_args T.d_need_args ["args", "size"] (spE K RneedA (BneedA T.a_NoArgs)) := by
  refine T.f_need_args.ok1 sc_need_args (fun vs H Q E h => ?_) (fun cdv A outer s H vs Q E hr h => ?_)
  · obtain ⟨ds, hd, h⟩ := h; rcases h with ⟨d, ⟨x, b, rfl, _⟩, _⟩ | ⟨C, ⟨x, b, rfl, _⟩, _⟩ <;> exact hd.length.symm
  have nd := sc_need_args.nd
  obtain ⟨ds, hd, h⟩ := h
  obtain ⟨x, b, rfl, hb1, hb2⟩ : ∃ x b, ds = [x, .int b] ∧ 2 ≤ b ∧ b ≤ 10000 := by rcases h with ⟨d, ⟨x, b, e, h1, h2, _⟩, _⟩ | ⟨C, ⟨x, b, e, h1, h2, _⟩, _⟩ <;> exact ⟨x, b, e, h1, h2⟩
  obtain ⟨v0, v1, rfl, q0, q1⟩ := dats2 hd
  have bad : argsD x b = false → ∀ H', Same H H' → E (.ref T.a_NoArgs) none H' := fun c => by
    rcases h with ⟨d, ⟨y, b', e, _, _, h1, _⟩, _⟩ | ⟨C, ⟨y, b', e, _, _, h1, rfl⟩, post⟩
    · cases e
      rw [h1] at c; cases c
    · exact post
  have good : argsD x b = true → ∀ H', Same H H' → Q .non H' := fun c => by
    rcases h with ⟨d, ⟨y, b', e, _, _, h1, rfl⟩, post⟩ | ⟨C, ⟨y, b', e, _, _, h1, rfl⟩, post⟩
    · exact fun H' s => post _ _ s Dat.nonI
    · cases e
      rw [h1] at c; cases c
  refine ⟨_, (pss_cons (ps_if (PW.pt (pw_or (pt_not (pt_truth (pe_callB (call_isi hi_tuple) rfl T.n_isinstance bo_isinstance (pa_cons (pv 0) (pa_cons (pe_bltn (v := .ty "tuple") rfl T.n_tuple bo_tuple rfl) pa_nil))) (fun _ => rfl))) (pw_or1 (pt_cmpR op_ne (pe_callB call_len_seq rfl T.n_len bo_len (pa_c (pv 0) pa_nil)) (pe_glob (v := .int 4) rfl T.g_MANY_ARGS ⟨_, rfl⟩) (nomark _))))) (pss_one (ps_raise PySem.F.excBase_ValueError rfl PySem.F.excBase_ValueError T.r_NoArgs throw1 rfl T.g_NoArgs (pa_c pe_str pa_nil))) pss_nil)
  (pss_one (ps_if (pt_not (pt_truth (pe_callB (call_all rfl) rfl T.n_all bo_all (pa_c (pe_comp (own := ["number"]) (fr := [1]) (N' := ["number", "size"]) (pi_tup (pv 0)) rfl (by show blkChk ["args", "size"] (fun x => (defScope s_need_args).names.lookup x) _ _ _ _ = true; decide +kernel) rfl (fun _ _ _ _ _ => (pg_name (i := 0) (by show List.Nodup [("number" : Str), ("size" : Str)]; decide +kernel) rfl (Or.inl rfl))) (fun _ _ _ _ _ => pifs_nil) (fun _ _ _ _ _ => (pe_call F_is_whole hr rfl T.m_is_whole T.f_is_whole.kp (b_is_whole T) .nil pass0 (pa_c (pv 0) (pa_c pe_int (pa_c (pe_op op_sub (pv 1) pe_int) pa_nil)))))) pa_nil)) (fun _ => rfl))) (pss_one (ps_raise PySem.F.excBase_ValueError rfl PySem.F.excBase_ValueError T.r_NoArgs throw1 rfl T.g_NoArgs (pa_c (pe_fstr2 (pe_op op_sub (pv 1) pe_int) (by decide)) pa_nil))) pss_nil))), ?_⟩
  by_cases hx : ∃ xs, x = .tup xs
  · obtain ⟨xs, rfl⟩ := hx
    refine rs_ifr (K := K) (b := !decide ((xs.length : Int) = 4)) ?_ (fun c H1 s1 => ?_) (fun c H1 s1 => ?_)
    · exact RT.as (rt_or (rt_not (rt_truth (re_isi (re_var q0)))) fun _ => rt_test (re_neI (re_len (re_var q0)) re_int)) rfl
    · have e : argsD (.tup xs) b = false := by
        unfold argsD
        dsimp only
        rw [bnot_t c]
        rfl
      exact ⟨small (by decide), bad e _ s1⟩
    have hl := of_decide_eq_true (bnot_f c)
    have e0 : argsD (.tup xs) b = (xs.map fun x => wholeD x 0 (b - 1)).all id := by
      show (_ && _) = _
      rw [bnot_f c]
      rfl
    have q0' := s1.dat q0
    have q1' := s1.dat q1
    refine rs_if (b := !(xs.map fun x => wholeD x 0 (b - 1)).all id) (rt_not (rt_truth (re_all_tup (re_var q0') (by omega) (xs.map fun x => wholeD x 0 (b - 1)) (by simp) rfl (fun H2 i c v b' s2 hc hb hv => ?_)))) (fun c H2 s2 => ?_) (fun c H2 s2 => ?_)
    · rw [List.getElem?_map, hc] at hb
      cases hb
      exact re_call (R := Rwhole) (ra_cons (re_var hv) (ra_cons re_int (ra_cons (re_sub (re_var (s2.dat q1')) re_int) ra_nil))) ⟨_, _, _, rfl, rfl⟩
    · have e := e0.trans (bnot_t c)
      refine RE.use (re_sub (re_var (K := K) (k := 1) (s2.dat q1')) (re_int (i := 1))) fun v H3 s3 q3 => ⟨b - 1, q3.intE, args_bits hb1 hb2, fun y => ⟨small (by simp), bad e _ (s1.trans (s2.trans s3))⟩⟩
    · exact good (e0.trans (bnot_f c)) _ (s1.trans s2)
  · have e1 : isiD x "tuple" = false := by
      cases x with
      | tup xs => exact absurd ⟨xs, rfl⟩ hx
      | _ => rfl
    have e : argsD x b = false := by
      cases x with
      | tup xs => exact absurd ⟨xs, rfl⟩ hx
      | _ => rfl
    refine rs_ifr (K := K) (b := true) ?_ (fun c H1 s1 => ?_) (fun c => nomatch c)
    · exact RT.as (rt_or (b := true) (c := true) (RT.as (rt_not (rt_truth (re_isi (re_var q0)))) (by rw [e1]; rfl)) fun c => nomatch c) rfl
    · exact ⟨small (by decide), bad e _ s1⟩

def Bworth (N1 N0 N2 : Addr) (ds : List D) (C : Addr) : Prop := ∃ x y z, ds = [x, y, z] ∧
  ((isTreeD x = false ∧ C = N1) ∨ (isTreeD x = true ∧ wholeD z 2 10000 = false ∧ C = N0) ∨ (isTreeD x = true ∧ ∃ b, z = .int b ∧ 2 ≤ b ∧ b ≤ 10000 ∧ argsD y b = false ∧ C = N2))
theorem args_ok {as : List Int} {b : Int} (h : argsOk as b) : argsD (.tup (as.map D.int)) b = true := by
  unfold argsD
  simp only [Bool.and_eq_true, decide_eq_true_eq, List.length_map, List.map_map, List.all_eq_true, List.mem_map]
  refine ⟨by have := h.1; omega, ?_⟩
  rintro c ⟨x, hx, rfl⟩
  have := h.2.1 x hx
  show (decide _ && decide _) = true
  rw [decide_eq_true this.1, decide_eq_true (by omega : x ≤ b - 1)]
  rfl
theorem whole_in {b : Int} (h1 : 2 ≤ b) (h2 : b ≤ 10000) : wholeD (.int b) 2 10000 = true := by
  show (decide _ && decide _) = true
  rw [decide_eq_true h1, decide_eq_true h2]
  rfl
theorem ok_worth (T : Txt K mg) (F_need_tree : FnOk P w K mg base (CX1 P w) k T.a_need_tree T.d_need_tree ["tree"] (spE K RneedT (BneedT T.a_NoTree))) (F_need_size : FnOk P w K mg base (CX1 P w) k T.a_need_size T.d_need_size ["size", "most"] (spE K RneedS (BneedS T.a_NoSize))) (F_need_args : FnOk P w K mg base (CX1 P w) k T.a_need_args T.d_need_args ["args", "size"] (spE K RneedA (BneedA T.a_NoArgs))) (F_reckoned : FnOk P w K mg base CX0 k T.a_reckoned T.d_reckoned ["tree", "args", "size"] (spD K (Rreck 8))) : FnOk P w K mg base (CX1 P w) (k + 1) T.a_worth T.d_worth ["tree", "args", "size"] (spE K Rworth (Bworth T.a_NoTree T.a_NoSize T.a_NoArgs)) := by
  refine T.f_worth.ok1 sc_worth (fun vs H Q E h => ?_) (fun cdv A outer s H vs Q E hr h => ?_)
  · obtain ⟨ds, hd, h⟩ := h; rcases h with ⟨d, ⟨t, as, b, rfl, _⟩, _⟩ | ⟨C, ⟨x, y, z, rfl, _⟩, _⟩ <;> exact hd.length.symm
  have nd := sc_worth.nd
  obtain ⟨ds, hd, h⟩ := h
  refine ⟨_, (pss_cons (ps_expr (pe_call F_need_tree hr rfl T.m_need_tree T.f_need_tree.kp (b_need_tree T) .nil pass1 (pa_c (pv 0) pa_nil)))
  (pss_cons (ps_expr (pe_call F_need_size hr rfl T.m_need_size T.f_need_size.kp (b_need_size T) (v_need_size T) pass1 (pa_c (pv 2) pa_nil)))
  (pss_cons (ps_expr (pe_call F_need_args hr rfl T.m_need_args T.f_need_args.kp (b_need_args T) .nil pass1 (pa_c (pv 1) (pa_c (pv 2) pa_nil))))
  (pss_one (ps_ret (pe_call F_reckoned hr rfl T.m_reckoned T.f_reckoned.kp (b_reckoned T) .nil pass0 (pa_c (pv 0) (pa_c (pv 1) (pa_c (pv 2) pa_nil))))))))), ?_⟩
  rcases h with ⟨d, ⟨t, as, b, rfl, ht, hn, hz, ha, rfl⟩, post⟩ | ⟨C, ⟨x, y, z, rfl, h⟩, post⟩
  · obtain ⟨v0, v1, v2, rfl, q0, q1, q2⟩ := dats3 hd
    refine rs_exp (RE.use (re_callE (R := RneedT) (d := .non) (ra_cons (re_var (K := K) (k := 0) q0) ra_nil) ⟨toD t, rfl, tree_ok ht hn hz, rfl⟩) fun v3 H1 s1 _ => ?_)
    refine rs_exp (RE.use (re_callED (R := RneedS) (d := .non) (ra_cons (re_var (K := K) (k := 2) (s1.dat q2)) ra_nil) (fun _ => Dats.cons (Dat.intI _) Dats.nil) ⟨.int b, rfl, whole_in ha.2.2.1 ha.2.2.2, rfl⟩) fun v4 H2 s2 _ => ?_)
    have s12 := s1.trans s2
    refine rs_exp (RE.use (re_callE (R := RneedA) (d := .non) (ra_cons (re_var (K := K) (k := 1) (s12.dat q1)) (ra_cons (re_var (k := 2) (s12.dat q2)) ra_nil)) ⟨_, b, rfl, ha.2.2.1, ha.2.2.2, args_ok ha, rfl⟩) fun v5 H3 s3 _ => ?_)
    have s13 := s12.trans s3
    exact rs_ret (K := K) (d := .int (worthT as b t)) (re_call (R := Rreck 8) (ra_cons (re_var (s13.dat q0)) (ra_cons (re_var (s13.dat q1)) (ra_cons (re_var (s13.dat q2)) ra_nil))) ⟨t, as, b, rfl, ht, hn, ha, rfl⟩) fun v H' s q => post v H' (s13.trans s) q
  · obtain ⟨v0, v1, v2, rfl, q0, q1, q2⟩ := dats3 hd
    rcases h with ⟨hx, rfl⟩ | ⟨hx, hz, rfl⟩ | ⟨hx, b, rfl, hb1, hb2, hy, rfl⟩
    · exact rs_exp (rx_callE (B := BneedT T.a_NoTree) (ra_cons (re_var (K := K) (k := 0) q0) ra_nil) ⟨x, rfl, hx, rfl⟩ post)
    · refine rs_exp (RE.use (re_callE (R := RneedT) (d := .non) (ra_cons (re_var (K := K) (k := 0) q0) ra_nil) ⟨x, rfl, hx, rfl⟩) fun v3 H1 s1 _ => ?_)
      exact rs_exp (rx_callED (B := BneedS T.a_NoSize) (ra_cons (re_var (K := K) (k := 2) (s1.dat q2)) ra_nil) (fun _ => Dats.cons (Dat.intI _) Dats.nil) ⟨z, rfl, hz, rfl⟩ fun H' s => post _ (s1.trans s))
    · refine rs_exp (RE.use (re_callE (R := RneedT) (d := .non) (ra_cons (re_var (K := K) (k := 0) q0) ra_nil) ⟨x, rfl, hx, rfl⟩) fun v3 H1 s1 _ => ?_)
      refine rs_exp (RE.use (re_callED (R := RneedS) (d := .non) (ra_cons (re_var (K := K) (k := 2) (s1.dat q2)) ra_nil) (fun _ => Dats.cons (Dat.intI _) Dats.nil) ⟨.int b, rfl, whole_in hb1 hb2, rfl⟩) fun v4 H2 s2 _ => ?_)
      have s12 := s1.trans s2
      exact rs_exp (rx_callE (B := BneedA T.a_NoArgs) (ra_cons (re_var (K := K) (k := 1) (s12.dat q1)) (ra_cons (re_var (k := 2) (s12.dat q2)) ra_nil)) ⟨y, b, rfl, hb1, hb2, hy, rfl⟩ fun H' s => post _ (s12.trans s))
theorem ok_parts_of (T : Txt K mg) (F_need_tree : FnOk P w K mg base (CX1 P w) k T.a_need_tree T.d_need_tree ["tree"] (spE K RneedT (BneedT T.a_NoTree))) (F_walked : FnOk P w K mg base CX0 k T.a_walked T.d_walked ["tree"] (fun _ _ _ _ => False)) : FnOk P w K mg base (CX1 P w) (k + 1) T.a_parts_of T.d_parts_of ["tree"] (spE K (fun _ _ => False) (BneedT T.a_NoTree)) := by
  refine T.f_parts_of.ok1 sc_parts_of (fun vs H Q E h => ?_) (fun cdv A outer s H vs Q E hr h => ?_)
  · obtain ⟨ds, hd, h⟩ := h; rcases h with ⟨d, h, _⟩ | ⟨C, ⟨x, rfl, _⟩, _⟩; exact h.elim; exact hd.length.symm
  have nd := sc_parts_of.nd
  obtain ⟨ds, hd, h⟩ := h
  refine ⟨_, (pss_cons (ps_expr (pe_call F_need_tree hr rfl T.m_need_tree T.f_need_tree.kp (b_need_tree T) .nil pass1 (pa_c (pv 0) pa_nil)))
  (pss_one (ps_ret (pe_call F_walked hr rfl T.m_walked T.f_walked.kp (b_walked T) .nil pass0 (pa_c (pv 0) pa_nil))))), ?_⟩
  rcases h with ⟨d, h, _⟩ | ⟨C, ⟨x, rfl, hx, rfl⟩, post⟩
  · exact h.elim
  · obtain ⟨v0, rfl, q0⟩ := dats1 hd
    exact rs_exp (rx_callE (B := BneedT T.a_NoTree) (ra_cons (re_var (K := K) (k := 0) q0) ra_nil) ⟨x, rfl, hx, rfl⟩ post)
end
end My
end
section
set_option Elab.async false
set_option linter.all false
set_option maxRecDepth 100000
set_option maxHeartbeats 4000000
namespace My
open PySem L2 PyProof.Rows
section
variable {P : Program} {w : World} {K : PySem.W.Frag} {mg : Str → Option Value} {base : Heap} {k : Nat}

/-- the class of an exception and its number -/
def Which (T : Txt K mg) (D : Addr) (j : Nat) : Prop := (D = T.a_NoSize ∧ j = 0) ∨ (D = T.a_NoTree ∧ j = 1) ∨ (D = T.a_NoArgs ∧ j = 2)
abbrev refu (j : Nat) : D := .tup [.str "refused", .int j]
def spWhich (T : Txt K mg) : Sp := fun vs H Q _ => ∃ (x D : Addr) (j : Nat), vs = [.ref x] ∧ H x = some (ExcO x D) ∧ Which T D j ∧ ∀ v H', Same H H' → Dat K H' (refu j) v → Q v H'
theorem ok__law_which (T : Txt K mg)  : FnOkH P w K mg base (k + 1) T.a__law_which T.d__law_which ["_law_e"] (spWhich T) := by
  refine T.f__law_which.okH sc__law_which (fun vs H Q E h => ?_) (fun cdv A outer s H vs Q E hr h => ?_)
  · obtain ⟨x, D, j, rfl, _⟩ := h; rfl
  have nd := sc__law_which.nd
  obtain ⟨x, D, j, rfl, hx, hw, post⟩ := h
  refine ⟨_, (pss_cons (ps_set (i := 1) nd rfl (Or.inl rfl) (pe_lst (pa_c (pe_callB call_isExc rfl T.n_isinstance bo_isinstance (pa_cons (pv 0) (pa_cons (pe_glob (v := .ref T.a_NoSize) rfl T.g_NoSize rfl) pa_nil))) (pa_c (pe_callB call_isExc rfl T.n_isinstance bo_isinstance (pa_cons (pv 0) (pa_cons (pe_glob (v := .ref T.a_NoTree) rfl T.g_NoTree rfl) pa_nil))) (pa_c (pe_callB call_isExc rfl T.n_isinstance bo_isinstance (pa_cons (pv 0) (pa_cons (pe_glob (v := .ref T.a_NoArgs) rfl T.g_NoArgs rfl) pa_nil))) (pa_c (pe_callB call_isExc rfl T.n_isinstance bo_isinstance (pa_cons (pv 0) (pa_cons (pe_glob (v := .ref T.a_NoCode) rfl T.g_NoCode rfl) pa_nil))) pa_nil))))))
  (pss_cons (ps_expr (pe_bm PySem.F.plainAttrs_list PySem.F.slot_list_extend PySem.F.type_list_extend mt_extend (pv 1) (pa_c (pe_lst (pa_c (pe_callB call_isExc rfl T.n_isinstance bo_isinstance (pa_cons (pv 0) (pa_cons (pe_glob (v := .ref T.a_NoSteps) rfl T.g_NoSteps rfl) pa_nil))) (pa_c (pe_callB call_isExc rfl T.n_isinstance bo_isinstance (pa_cons (pv 0) (pa_cons (pe_glob (v := .ref T.a_Late) rfl T.g_Late rfl) pa_nil))) (pa_c (pe_callB call_isExc rfl T.n_isinstance bo_isinstance (pa_cons (pv 0) (pa_cons (pe_glob (v := .ref T.a_NoPiece) rfl T.g_NoPiece rfl) pa_nil))) (pa_c (pe_callB call_isExc rfl T.n_isinstance bo_isinstance (pa_cons (pv 0) (pa_cons (pe_glob (v := .ref T.a_NoSet) rfl T.g_NoSet rfl) pa_nil))) pa_nil))))) pa_nil)))
  (pss_cons (ps_expr (pe_bm PySem.F.plainAttrs_list PySem.F.slot_list_extend PySem.F.type_list_extend mt_extend (pv 1) (pa_c (pe_lst (pa_c (pe_callB call_isExc rfl T.n_isinstance bo_isinstance (pa_cons (pv 0) (pa_cons (pe_glob (v := .ref T.a_NoCover) rfl T.g_NoCover rfl) pa_nil))) (pa_c (pe_callB call_isExc rfl T.n_isinstance bo_isinstance (pa_cons (pv 0) (pa_cons (pe_glob (v := .ref T.a_NoParts) rfl T.g_NoParts rfl) pa_nil))) (pa_c (pe_callB call_isExc rfl T.n_isinstance bo_isinstance (pa_cons (pv 0) (pa_cons (pe_glob (v := .ref T.a_NoName) rfl T.g_NoName rfl) pa_nil))) (pa_c (pe_callB call_isExc rfl T.n_isinstance bo_isinstance (pa_cons (pv 0) (pa_cons (pe_glob (v := .ref T.a_Taken) rfl T.g_Taken rfl) pa_nil))) pa_nil))))) pa_nil)))
  (pss_cons (ps_expr (pe_bm PySem.F.plainAttrs_list PySem.F.slot_list_extend PySem.F.type_list_extend mt_extend (pv 1) (pa_c (pe_lst (pa_c (pe_callB call_isExc rfl T.n_isinstance bo_isinstance (pa_cons (pv 0) (pa_cons (pe_glob (v := .ref T.a_Fault) rfl T.g_Fault rfl) pa_nil))) (pa_c (pe_callB call_isExc rfl T.n_isinstance bo_isinstance (pa_cons (pv 0) (pa_cons (pe_glob (v := .ref T.a_Broken) rfl T.g_Broken rfl) pa_nil))) pa_nil))) pa_nil)))
  (pss_cons (ps_if (PW.pt (pw_or (pt_cmpR op_ne (pe_bm PySem.F.plainAttrs_list PySem.F.slot_list_count PySem.F.type_list_count mt_countB (pv 1) (pa_c pe_bl pa_nil)) pe_int (nomark _)) (pw_or1 (pt_not (pt_truth (pe_callB call_isExc rfl T.n_isinstance bo_isinstance (pa_cons (pv 0) (pa_cons (pe_bltn (v := .ty "ValueError") rfl T.n_ValueError bo_ValueError rfl) pa_nil))) (fun _ => rfl)))))) (pss_one (ps_ret (pe_tup (pa_c pe_str (pa_c (pe_un un_neg pe_int) pa_nil))))) pss_nil)
  (pss_one (ps_ret (pe_tup (pa_c pe_str (pa_c (pe_bm PySem.F.plainAttrs_list PySem.F.slot_list_index PySem.F.type_list_index mt_indexB (pv 1) (pa_c pe_bl pa_nil)) pa_nil)))))))))), ?_⟩
  rcases hw with ⟨rfl, rfl⟩ | ⟨rfl, rfl⟩ | ⟨rfl, rfl⟩
  · refine rs_asg (rl_lst (K := K) (ra_cons (re_isExc (c := .ref T.a_NoSize) hx T.x_NoSize T.k_NoSize_NoSize (.inl ⟨_, rfl⟩)) (ra_cons (re_isExc (c := .ref T.a_NoTree) hx T.x_NoSize T.k_NoSize_NoTree (.inl ⟨_, rfl⟩)) (ra_cons (re_isExc (c := .ref T.a_NoArgs) hx T.x_NoSize T.k_NoSize_NoArgs (.inl ⟨_, rfl⟩)) (ra_cons (re_isExc (c := .ref T.a_NoCode) hx T.x_NoSize T.k_NoSize_NoCode (.inl ⟨_, rfl⟩)) ra_nil)))) fun lb x0 H1 s1 hb e0 => ?_)
    have hx1 : upd H1 lb (.lst x0) x = some (ExcO x T.a_NoSize) := (s1.trans (same_new hb _)) _ _ hx
    have nlb : lb ≠ x := fun z => by rw [z] at hb; rw [s1 _ _ hx] at hb; cases hb
    have hlb : H lb = none := s1.free hb
    have e0 := (same_new hb (.lst x0)).dats e0
    have h0 : upd H1 lb (.lst x0) lb = some (.lst x0) := upd_same
    have l0 : x0.length = 4 := e0.length.symm
    have bb0 : But lb H (upd H1 lb (.lst x0)) := (s1.trans (same_new hb _)).but
    refine rs_extl (K := K) (ra_cons (re_isExc (c := .ref T.a_NoSteps) hx1 T.x_NoSize T.k_NoSize_NoSteps (.inl ⟨_, rfl⟩)) (ra_cons (re_isExc (c := .ref T.a_Late) hx1 T.x_NoSize T.k_NoSize_Late (.inl ⟨_, rfl⟩)) (ra_cons (re_isExc (c := .ref T.a_NoPiece) hx1 T.x_NoSize T.k_NoSize_NoPiece (.inl ⟨_, rfl⟩)) (ra_cons (re_isExc (c := .ref T.a_NoSet) hx1 T.x_NoSize T.k_NoSize_NoSet (.inl ⟨_, rfl⟩)) ra_nil)))) h0 (by omega) fun x1 G1 b1 h1 f1 => ?_
    have hx2 := b1 _ _ (Ne.symm nlb) hx1
    have e1 := Dats.append (Dats.mono (b1.grow h0 h1) _ e0) f1
    have l1 : (x0 ++ x1).length = 8 := e1.length.symm
    have bb1 := bb0.trans b1
    refine rs_extl (K := K) (ra_cons (re_isExc (c := .ref T.a_NoCover) hx2 T.x_NoSize T.k_NoSize_NoCover (.inl ⟨_, rfl⟩)) (ra_cons (re_isExc (c := .ref T.a_NoParts) hx2 T.x_NoSize T.k_NoSize_NoParts (.inl ⟨_, rfl⟩)) (ra_cons (re_isExc (c := .ref T.a_NoName) hx2 T.x_NoSize T.k_NoSize_NoName (.inl ⟨_, rfl⟩)) (ra_cons (re_isExc (c := .ref T.a_Taken) hx2 T.x_NoSize T.k_NoSize_Taken (.inl ⟨_, rfl⟩)) ra_nil)))) h1 (by omega) fun x2 G2 b2 h2 f2 => ?_
    have hx3 := b2 _ _ (Ne.symm nlb) hx2
    have e2 := Dats.append (Dats.mono (b2.grow h1 h2) _ e1) f2
    have l2 : (x0 ++ x1 ++ x2).length = 12 := e2.length.symm
    have bb2 := bb1.trans b2
    refine rs_extl (K := K) (ra_cons (re_isExc (c := .ref T.a_Fault) hx3 T.x_NoSize T.k_NoSize_Fault (.inl ⟨_, rfl⟩)) (ra_cons (re_isExc (c := .ref T.a_Broken) hx3 T.x_NoSize T.k_NoSize_Broken (.inl ⟨_, rfl⟩)) ra_nil)) h2 (by omega) fun x3 G3 b3 h3 f3 => ?_
    have hx4 := b3 _ _ (Ne.symm nlb) hx3
    have e3 := Dats.append (Dats.mono (b3.grow h2 h3) _ e2) f3
    have l3 : (x0 ++ x1 ++ x2 ++ x3).length = 14 := e3.length.symm
    have bb3 := bb2.trans b3
    have sm : Same H G3 := fun b o hbo => bb3 b o (ne_of_none hbo hlb) hbo
    have ev := datBs (bs := [true, false, false, false, false, false, false, false, false, false, false, false, false, false]) e3
    have h3' : G3 lb = some (.lst (blV [true, false, false, false, false, false, false, false, false, false, false, false, false, false])) := by rw [← show _ = blV [true, false, false, false, false, false, false, false, false, false, false, false, false, false] from ev]; exact h3
    refine rs_ifr (K := K) (b := false) ?_ (fun c => nomatch c) (fun _ H5 s5 => ?_)
    · exact RT.as (rt_or (rt_test (re_neI (re_countB h3') re_int)) fun _ => rt_not (rt_truth (re_isExc (c := .ty "ValueError") hx4 T.x_NoSize T.k_NoSize_ValueError (.inr ⟨_, rfl⟩)))) rfl
    · refine rs_ret (K := K) (d := refu 0) (re_tup (ra_cons re_str (ra_cons (re_indexB (j := 0) (s5 _ _ h3') (by decide) rfl (fun m hm => ?_)) ra_nil))) fun v H' s q => post v H' (sm.trans (s5.trans s)) q
      exact absurd hm (Nat.not_lt_zero m)
  · refine rs_asg (rl_lst (K := K) (ra_cons (re_isExc (c := .ref T.a_NoSize) hx T.x_NoTree T.k_NoTree_NoSize (.inl ⟨_, rfl⟩)) (ra_cons (re_isExc (c := .ref T.a_NoTree) hx T.x_NoTree T.k_NoTree_NoTree (.inl ⟨_, rfl⟩)) (ra_cons (re_isExc (c := .ref T.a_NoArgs) hx T.x_NoTree T.k_NoTree_NoArgs (.inl ⟨_, rfl⟩)) (ra_cons (re_isExc (c := .ref T.a_NoCode) hx T.x_NoTree T.k_NoTree_NoCode (.inl ⟨_, rfl⟩)) ra_nil)))) fun lb x0 H1 s1 hb e0 => ?_)
    have hx1 : upd H1 lb (.lst x0) x = some (ExcO x T.a_NoTree) := (s1.trans (same_new hb _)) _ _ hx
    have nlb : lb ≠ x := fun z => by rw [z] at hb; rw [s1 _ _ hx] at hb; cases hb
    have hlb : H lb = none := s1.free hb
    have e0 := (same_new hb (.lst x0)).dats e0
    have h0 : upd H1 lb (.lst x0) lb = some (.lst x0) := upd_same
    have l0 : x0.length = 4 := e0.length.symm
    have bb0 : But lb H (upd H1 lb (.lst x0)) := (s1.trans (same_new hb _)).but
    refine rs_extl (K := K) (ra_cons (re_isExc (c := .ref T.a_NoSteps) hx1 T.x_NoTree T.k_NoTree_NoSteps (.inl ⟨_, rfl⟩)) (ra_cons (re_isExc (c := .ref T.a_Late) hx1 T.x_NoTree T.k_NoTree_Late (.inl ⟨_, rfl⟩)) (ra_cons (re_isExc (c := .ref T.a_NoPiece) hx1 T.x_NoTree T.k_NoTree_NoPiece (.inl ⟨_, rfl⟩)) (ra_cons (re_isExc (c := .ref T.a_NoSet) hx1 T.x_NoTree T.k_NoTree_NoSet (.inl ⟨_, rfl⟩)) ra_nil)))) h0 (by omega) fun x1 G1 b1 h1 f1 => ?_
    have hx2 := b1 _ _ (Ne.symm nlb) hx1
    have e1 := Dats.append (Dats.mono (b1.grow h0 h1) _ e0) f1
    have l1 : (x0 ++ x1).length = 8 := e1.length.symm
    have bb1 := bb0.trans b1
    refine rs_extl (K := K) (ra_cons (re_isExc (c := .ref T.a_NoCover) hx2 T.x_NoTree T.k_NoTree_NoCover (.inl ⟨_, rfl⟩)) (ra_cons (re_isExc (c := .ref T.a_NoParts) hx2 T.x_NoTree T.k_NoTree_NoParts (.inl ⟨_, rfl⟩)) (ra_cons (re_isExc (c := .ref T.a_NoName) hx2 T.x_NoTree T.k_NoTree_NoName (.inl ⟨_, rfl⟩)) (ra_cons (re_isExc (c := .ref T.a_Taken) hx2 T.x_NoTree T.k_NoTree_Taken (.inl ⟨_, rfl⟩)) ra_nil)))) h1 (by omega) fun x2 G2 b2 h2 f2 => ?_
    have hx3 := b2 _ _ (Ne.symm nlb) hx2
    have e2 := Dats.append (Dats.mono (b2.grow h1 h2) _ e1) f2
    have l2 : (x0 ++ x1 ++ x2).length = 12 := e2.length.symm
    have bb2 := bb1.trans b2
    refine rs_extl (K := K) (ra_cons (re_isExc (c := .ref T.a_Fault) hx3 T.x_NoTree T.k_NoTree_Fault (.inl ⟨_, rfl⟩)) (ra_cons (re_isExc (c := .ref T.a_Broken) hx3 T.x_NoTree T.k_NoTree_Broken (.inl ⟨_, rfl⟩)) ra_nil)) h2 (by omega) fun x3 G3 b3 h3 f3 => ?_
    have hx4 := b3 _ _ (Ne.symm nlb) hx3
    have e3 := Dats.append (Dats.mono (b3.grow h2 h3) _ e2) f3
    have l3 : (x0 ++ x1 ++ x2 ++ x3).length = 14 := e3.length.symm
    have bb3 := bb2.trans b3
    have sm : Same H G3 := fun b o hbo => bb3 b o (ne_of_none hbo hlb) hbo
    have ev := datBs (bs := [false, true, false, false, false, false, false, false, false, false, false, false, false, false]) e3
    have h3' : G3 lb = some (.lst (blV [false, true, false, false, false, false, false, false, false, false, false, false, false, false])) := by rw [← show _ = blV [false, true, false, false, false, false, false, false, false, false, false, false, false, false] from ev]; exact h3
    refine rs_ifr (K := K) (b := false) ?_ (fun c => nomatch c) (fun _ H5 s5 => ?_)
    · exact RT.as (rt_or (rt_test (re_neI (re_countB h3') re_int)) fun _ => rt_not (rt_truth (re_isExc (c := .ty "ValueError") hx4 T.x_NoTree T.k_NoTree_ValueError (.inr ⟨_, rfl⟩)))) rfl
    · refine rs_ret (K := K) (d := refu 1) (re_tup (ra_cons re_str (ra_cons (re_indexB (j := 1) (s5 _ _ h3') (by decide) rfl (fun m hm => ?_)) ra_nil))) fun v H' s q => post v H' (sm.trans (s5.trans s)) q
      match m, hm with
      | 0, _ => rfl
  · refine rs_asg (rl_lst (K := K) (ra_cons (re_isExc (c := .ref T.a_NoSize) hx T.x_NoArgs T.k_NoArgs_NoSize (.inl ⟨_, rfl⟩)) (ra_cons (re_isExc (c := .ref T.a_NoTree) hx T.x_NoArgs T.k_NoArgs_NoTree (.inl ⟨_, rfl⟩)) (ra_cons (re_isExc (c := .ref T.a_NoArgs) hx T.x_NoArgs T.k_NoArgs_NoArgs (.inl ⟨_, rfl⟩)) (ra_cons (re_isExc (c := .ref T.a_NoCode) hx T.x_NoArgs T.k_NoArgs_NoCode (.inl ⟨_, rfl⟩)) ra_nil)))) fun lb x0 H1 s1 hb e0 => ?_)
    have hx1 : upd H1 lb (.lst x0) x = some (ExcO x T.a_NoArgs) := (s1.trans (same_new hb _)) _ _ hx
    have nlb : lb ≠ x := fun z => by rw [z] at hb; rw [s1 _ _ hx] at hb; cases hb
    have hlb : H lb = none := s1.free hb
    have e0 := (same_new hb (.lst x0)).dats e0
    have h0 : upd H1 lb (.lst x0) lb = some (.lst x0) := upd_same
    have l0 : x0.length = 4 := e0.length.symm
    have bb0 : But lb H (upd H1 lb (.lst x0)) := (s1.trans (same_new hb _)).but
    refine rs_extl (K := K) (ra_cons (re_isExc (c := .ref T.a_NoSteps) hx1 T.x_NoArgs T.k_NoArgs_NoSteps (.inl ⟨_, rfl⟩)) (ra_cons (re_isExc (c := .ref T.a_Late) hx1 T.x_NoArgs T.k_NoArgs_Late (.inl ⟨_, rfl⟩)) (ra_cons (re_isExc (c := .ref T.a_NoPiece) hx1 T.x_NoArgs T.k_NoArgs_NoPiece (.inl ⟨_, rfl⟩)) (ra_cons (re_isExc (c := .ref T.a_NoSet) hx1 T.x_NoArgs T.k_NoArgs_NoSet (.inl ⟨_, rfl⟩)) ra_nil)))) h0 (by omega) fun x1 G1 b1 h1 f1 => ?_
    have hx2 := b1 _ _ (Ne.symm nlb) hx1
    have e1 := Dats.append (Dats.mono (b1.grow h0 h1) _ e0) f1
    have l1 : (x0 ++ x1).length = 8 := e1.length.symm
    have bb1 := bb0.trans b1
    refine rs_extl (K := K) (ra_cons (re_isExc (c := .ref T.a_NoCover) hx2 T.x_NoArgs T.k_NoArgs_NoCover (.inl ⟨_, rfl⟩)) (ra_cons (re_isExc (c := .ref T.a_NoParts) hx2 T.x_NoArgs T.k_NoArgs_NoParts (.inl ⟨_, rfl⟩)) (ra_cons (re_isExc (c := .ref T.a_NoName) hx2 T.x_NoArgs T.k_NoArgs_NoName (.inl ⟨_, rfl⟩)) (ra_cons (re_isExc (c := .ref T.a_Taken) hx2 T.x_NoArgs T.k_NoArgs_Taken (.inl ⟨_, rfl⟩)) ra_nil)))) h1 (by omega) fun x2 G2 b2 h2 f2 => ?_
    have hx3 := b2 _ _ (Ne.symm nlb) hx2
    have e2 := Dats.append (Dats.mono (b2.grow h1 h2) _ e1) f2
    have l2 : (x0 ++ x1 ++ x2).length = 12 := e2.length.symm
    have bb2 := bb1.trans b2
    refine rs_extl (K := K) (ra_cons (re_isExc (c := .ref T.a_Fault) hx3 T.x_NoArgs T.k_NoArgs_Fault (.inl ⟨_, rfl⟩)) (ra_cons (re_isExc (c := .ref T.a_Broken) hx3 T.x_NoArgs T.k_NoArgs_Broken (.inl ⟨_, rfl⟩)) ra_nil)) h2 (by omega) fun x3 G3 b3 h3 f3 => ?_
    have hx4 := b3 _ _ (Ne.symm nlb) hx3
    have e3 := Dats.append (Dats.mono (b3.grow h2 h3) _ e2) f3
    have l3 : (x0 ++ x1 ++ x2 ++ x3).length = 14 := e3.length.symm
    have bb3 := bb2.trans b3
    have sm : Same H G3 := fun b o hbo => bb3 b o (ne_of_none hbo hlb) hbo
    have ev := datBs (bs := [false, false, true, false, false, false, false, false, false, false, false, false, false, false]) e3
    have h3' : G3 lb = some (.lst (blV [false, false, true, false, false, false, false, false, false, false, false, false, false, false])) := by rw [← show _ = blV [false, false, true, false, false, false, false, false, false, false, false, false, false, false] from ev]; exact h3
    refine rs_ifr (K := K) (b := false) ?_ (fun c => nomatch c) (fun _ H5 s5 => ?_)
    · exact RT.as (rt_or (rt_test (re_neI (re_countB h3') re_int)) fun _ => rt_not (rt_truth (re_isExc (c := .ty "ValueError") hx4 T.x_NoArgs T.k_NoArgs_ValueError (.inr ⟨_, rfl⟩)))) rfl
    · refine rs_ret (K := K) (d := refu 2) (re_tup (ra_cons re_str (ra_cons (re_indexB (j := 2) (s5 _ _ h3') (by decide) rfl (fun m hm => ?_)) ra_nil))) fun v H' s q => post v H' (sm.trans (s5.trans s)) q
      match m, hm with
      | 0, _ => rfl
      | 1, _ => rfl

def Rask (ds : List D) (d : D) : Prop := ∃ x y z,
  (ds = [.int 0, x, y, z] ∧ isTreeD x = false ∧ d = refu 1) ∨
  (ds = [.int 1, x, y, z] ∧ ((isTreeD x = false ∧ d = refu 1) ∨ (isTreeD x = true ∧ wholeD z 2 10000 = false ∧ d = refu 0) ∨ (isTreeD x = true ∧ (∃ b, z = .int b ∧ 2 ≤ b ∧ b ≤ 10000 ∧ argsD y b = false) ∧ d = refu 2) ∨
    ∃ t as b, [x, y, z] = [toD t, .tup (as.map D.int), .int b] ∧ okT t ∧ deepT t ≤ 8 ∧ sizeT t ≤ 40 ∧ argsOk as b ∧ d = .int (worthT as b t)))
theorem ok__law_ask (T : Txt K mg) (F_parts_of : FnOk P w K mg base (CX1 P w) k T.a_parts_of T.d_parts_of ["tree"] (spE K (fun _ _ => False) (BneedT T.a_NoTree))) (F_worth : FnOk P w K mg base (CX1 P w) k T.a_worth T.d_worth ["tree", "args", "size"] (spE K Rworth (Bworth T.a_NoTree T.a_NoSize T.a_NoArgs))) (F__law_which : FnOkH P w K mg base k T.a__law_which T.d__law_which ["_law_e"] (spWhich T)) : FnOk P w K mg base CX0 (k + 1) T.a__law_ask T.d__law_ask ["_law_what", "_law_tree_here", "_law_args_here", "_law_base"] (spD K Rask) := by
  refine T.f__law_ask.ok sc__law_ask (fun vs H Q E h => ?_) (fun cdv A outer s H vs Q E hr h => ?_)
  · obtain ⟨ds, d, hd, ⟨x, y, z, h⟩, _⟩ := h; rcases h with ⟨rfl, _⟩ | ⟨rfl, _⟩ <;> exact hd.length.symm
  have nd := sc__law_ask.nd
  obtain ⟨ds, d, hd, ⟨x, y, z, hds⟩, post⟩ := h
  refine ⟨_, (pss_one (ps_tryAs (i := 4) (fun pn xe E hx => (pss_one (ps_ret (pe_ifExp (pt_cmpR op_eq (pv 0) pe_int (nomark _)) (pe_callS F_parts_of hr rfl T.m_parts_of T.f_parts_of.kp (b_parts_of T) .nil hx (pa_c (pv 1) pa_nil)) (pe_callKS F_worth hr rfl T.m_worth T.f_worth.kp (b_worth T) hx (pa_c (pv 1) (pa_c (pv 2) pa_nil)) (pk_cons (pv 3) pk_nil)))))) rfl T.g_PieceError nd rfl rfl (fun e => (pss_one (ps_ret (pe_callH (E := E0) F__law_which hr.h.mark rfl T.m__law_which T.f__law_which.kp (b__law_which T) .nil (pa_c (pv 4) pa_nil))))))), ?_⟩
  rcases hds with ⟨rfl, hx, rfl⟩ | ⟨rfl, hds⟩
  · obtain ⟨v0, v1, v2, v3, rfl, q0, q1, q2, q3⟩ := dats4 hd
    have e0 := q0.intE
    subst e0
    refine RT.use (b := true) (RT.as (rt_test (re_eqI (re_var (K := K) (k := 0) q0) re_int)) rfl) fun H1 s1 => ?_
    refine rx_callE (B := BneedT T.a_NoTree) (ra_cons (re_var (K := K) (k := 1) (s1.dat q1)) ra_nil) ⟨x, rfl, hx, rfl⟩ fun H2 s2 => ?_
    exact ⟨T.e_NoTree_PieceError, T.a_NoTree, rfl, fun a ha => ⟨_, rfl, a, T.a_NoTree, 1, rfl, upd_same, .inr (.inl ⟨rfl, rfl⟩), fun v H' s q => post v H' ((s1.trans s2).trans ((same_new ha _).trans s)) q⟩⟩
  · obtain ⟨v0, v1, v2, v3, rfl, q0, q1, q2, q3⟩ := dats4 hd
    have e0 := q0.intE
    subst e0
    refine RT.use (b := false) (RT.as (rt_test (re_eqI (re_var (K := K) (k := 0) q0) re_int)) rfl) fun H1 s1 => ?_
    have hg : ∀ (H : Hp) (vs zs : List V), Dats K H [x, y] vs → Dats K H [z] zs → Dats K H [x, y, z] (g_worth vs zs) := fun H vs zs h1 h2 => by
      obtain ⟨x0, x1, e, k0, k1⟩ := dats2 h1
      obtain ⟨y0, e', k2⟩ := dats1 h2
      subst e e'
      exact Dats.cons k0 (Dats.cons k1 (Dats.cons k2 Dats.nil))
    have rA : RA K (tCons (tVar 1) (tCons (tVar 2) tNil)) [some (.int 1), some v1, some v2, some v3, none] H1 [x, y] := ra_cons (re_var (s1.dat q1)) (ra_cons (re_var (s1.dat q2)) ra_nil)
    have rK : RA K (tCons (tVar 3) tNil) [some (.int 1), some v1, some v2, some v3, none] H1 [z] := ra_cons (re_var (s1.dat q3)) ra_nil
    rcases hds with ⟨hx, rfl⟩ | ⟨hx, hz, rfl⟩ | ⟨hx, ⟨b, rfl, hb1, hb2, hy⟩, rfl⟩ | ⟨t, as, b, e, ht, hn, hz, ha, rfl⟩
    · refine rx_callEK (B := Bworth T.a_NoTree T.a_NoSize T.a_NoArgs) rA rK hg ⟨x, y, z, rfl, .inl ⟨hx, rfl⟩⟩ fun H2 s2 => ?_
      exact ⟨T.e_NoTree_PieceError, T.a_NoTree, rfl, fun a ha => ⟨_, rfl, a, T.a_NoTree, 1, rfl, upd_same, .inr (.inl ⟨rfl, rfl⟩), fun v H' s q => post v H' ((s1.trans s2).trans ((same_new ha _).trans s)) q⟩⟩
    · refine rx_callEK (B := Bworth T.a_NoTree T.a_NoSize T.a_NoArgs) rA rK hg ⟨x, y, z, rfl, .inr (.inl ⟨hx, hz, rfl⟩)⟩ fun H2 s2 => ?_
      exact ⟨T.e_NoSize_PieceError, T.a_NoSize, rfl, fun a ha => ⟨_, rfl, a, T.a_NoSize, 0, rfl, upd_same, .inl ⟨rfl, rfl⟩, fun v H' s q => post v H' ((s1.trans s2).trans ((same_new ha _).trans s)) q⟩⟩
    · refine rx_callEK (B := Bworth T.a_NoTree T.a_NoSize T.a_NoArgs) rA rK hg ⟨x, y, .int b, rfl, .inr (.inr ⟨hx, b, rfl, hb1, hb2, hy, rfl⟩)⟩ fun H2 s2 => ?_
      exact ⟨T.e_NoArgs_PieceError, T.a_NoArgs, rfl, fun a ha => ⟨_, rfl, a, T.a_NoArgs, 2, rfl, upd_same, .inr (.inr ⟨rfl, rfl⟩), fun v H' s q => post v H' ((s1.trans s2).trans ((same_new ha _).trans s)) q⟩⟩
    · exact RE.use (re_callEK (R := Rworth) rA rK hg ⟨t, as, b, e, ht, hn, hz, ha, rfl⟩) fun v H2 s2 q => post v H2 (s1.trans s2) q
end
end My
end
section
set_option Elab.async false
set_option linter.all false
set_option maxRecDepth 100000
set_option maxHeartbeats 4000000
namespace My
open PySem L2 PyProof.Rows
section
variable {P : Program} {w : World} {K : PySem.W.Frag} {mg : Str → Option Value} {base : Heap} {k : Nat}
def odds : List D := [.non, .int 1, .int 0, .int (-1), .int 10001, .bl true, .str "5"]
def wrongs : List D := [.non, .tup [], .tup [.int 0, .int 0, .int 0], .tup [.int 0, .int 0, .int 0, .int 10], .tup [.int 0, .int 0, .int 0, .int (-1)], .lst, .tup [.int 0, .int 0, .bl true, .int 0], .tup [.int 0, .int 0, .int 0, .int 0, .int 0]]
theorem odds_no : ∀ d ∈ odds, wholeD d 2 10000 = false := by decide +kernel
theorem wrongs_no : ∀ d ∈ wrongs, argsD d 10 = false := by decide +kernel
theorem nines : argsOk [9, 9, 9, 9] 10 := ⟨rfl, by decide, by decide, by decide⟩
theorem nines_no : argsD (.tup [.int 9, .int 9, .int 9, .int 9]) 9 = false := by decide +kernel
theorem eqr0 : (!eqD (refu 0) (.tup [.str "refused", .int 0])) = false := by decide +kernel
theorem eqr1 : (!eqD (refu 1) (.tup [.str "refused", .int 1])) = false := by decide +kernel
theorem eqr2 : (!eqD (refu 2) (.tup [.str "refused", .int 2])) = false := by decide +kernel
theorem eqq2 : eqD (refu 2) (.tup [.str "refused", .int 2]) = true := by decide +kernel
theorem deepr {j : Nat} : deepD (refu j) ≤ 20 := by simp [refu, deepD, deepDs]
/-- what law(script) promises -/
def spLaw (K : PySem.W.Frag) : Sp := fun vs H Q _ => ∃ (a : Addr) (ns : List Int), vs = [.ref a] ∧ Scr K H a ns ∧ ∀ H', Q (.bl true) H'
theorem ok_law (T : Txt K mg) (F__law_tree : FnOk P w K mg base CX0 k T.a__law_tree T.d__law_tree ["_law_script", "_law_town", "_law_room"] (spTree K 5)) (F__law_no_tree : FnOk P w K mg base CX0 k T.a__law_no_tree T.d__law_no_tree ["_law_script", "_law_town"] (spNoTree K)) (F__law_pick : FnOk P w K mg base CX0 k T.a__law_pick T.d__law_pick ["_law_script", "_law_town", "_law_some"] (spPick K)) (F__law_ask : FnOk P w K mg base CX0 k T.a__law_ask T.d__law_ask ["_law_what", "_law_tree_here", "_law_args_here", "_law_base"] (spD K Rask)) : FnOk P w K mg base CX0 (k + 1) T.a_law T.d_law ["_law_script"] (spLaw K) := by
  refine T.f_law.ok sc_law (fun vs H Q E h => ?_) (fun cdv A outer s H vs Q E hr h => ?_)
  · obtain ⟨a, ns, rfl, _⟩ := h; rfl
  have nd := sc_law.nd
  obtain ⟨a, ns, rfl, hS, post⟩ := h
  refine' ⟨_, ?ybody, ?yread⟩
  case ybody =>
    refine' pss_cons ?y52 ?y53
    case y52 => exact (ps_set (i := 1) nd rfl (Or.inl rfl) (pe_lst (pa_c pe_int (pa_c pe_int (pa_c pe_int pa_nil)))))
    case y53 =>
      refine' pss_cons ?y50 ?y51
      case y50 => exact (ps_par (i := 2) (j := 3) rfl nd rfl rfl (by decide) rfl rfl (pa_c (pe_call F__law_no_tree hr rfl T.m__law_no_tree T.f__law_no_tree.kp (b__law_no_tree T) .nil pass0 (pa_c (pv 0) (pa_c (pv 1) pa_nil))) (pa_c (pe_call F__law_tree hr rfl T.m__law_tree T.f__law_tree.kp (b__law_tree T) .nil pass0 (pa_c (pv 0) (pa_c (pv 1) (pa_c pe_int pa_nil)))) pa_nil)) (by kernel_rfl))
      case y51 =>
        refine' pss_cons ?y48 ?y49
        case y48 => exact (ps_set (i := 4) nd rfl (Or.inl rfl) (pe_call F__law_pick hr rfl T.m__law_pick T.f__law_pick.kp (b__law_pick T) .nil pass0 (pa_c (pv 0) (pa_c (pv 1) (pa_c (pe_lst (pa_c pe_non (pa_c pe_int (pa_c pe_int (pa_c (pe_un un_neg pe_int) (pa_c pe_int (pa_c pe_bl (pa_c pe_str pa_nil)))))))) pa_nil)))))
        case y49 =>
          refine' pss_cons ?y46 ?y47
          case y46 =>
            refine' ps_set (i := 5) ?y18 ?y19 ?y20 ?y21
            case y18 => exact nd
            case y19 => exact rfl
            case y20 => exact Or.inl rfl
            case y21 =>
              refine' pe_lst ?y17
              case y17 =>
                refine' pa_c ?y15 ?y16
                case y15 => exact pe_non
                case y16 =>
                  refine' pa_c ?y13 ?y14
                  case y13 => exact (pe_tup pa_nil)
                  case y14 =>
                    refine' pa_c ?y11 ?y12
                    case y11 => exact (pe_tup (pa_c pe_int (pa_c pe_int (pa_c pe_int pa_nil))))
                    case y12 =>
                      refine' pa_c ?y9 ?y10
                      case y9 => exact (pe_tup (pa_c pe_int (pa_c pe_int (pa_c pe_int (pa_c pe_int pa_nil)))))
                      case y10 =>
                        refine' pa_c ?y7 ?y8
                        case y7 => exact (pe_tup (pa_c pe_int (pa_c pe_int (pa_c pe_int (pa_c (pe_un un_neg pe_int) pa_nil)))))
                        case y8 =>
                          refine' pa_c ?y5 ?y6
                          case y5 => exact (pe_lst (pa_c pe_int (pa_c pe_int (pa_c pe_int (pa_c pe_int pa_nil)))))
                          case y6 =>
                            refine' pa_c ?y3 ?y4
                            case y3 => exact (pe_tup (pa_c pe_int (pa_c pe_int (pa_c pe_bl (pa_c pe_int pa_nil)))))
                            case y4 =>
                              refine' pa_c ?y1 ?y2
                              case y1 => exact (pe_op op_repT (pe_tup (pa_c pe_int pa_nil)) pe_int)
                              case y2 => exact pa_nil
          case y47 =>
            refine' pss_cons ?y44 ?y45
            case y44 => exact (ps_set (i := 5) nd rfl (Or.inl rfl) (pe_call F__law_pick hr rfl T.m__law_pick T.f__law_pick.kp (b__law_pick T) .nil pass0 (pa_c (pv 0) (pa_c (pv 1) (pa_c (pv 5) pa_nil)))))
            case y45 =>
              refine' pss_cons ?y42 ?y43
              case y42 =>
                refine' ps_if ?y27 ?y28 ?y29
                case y27 =>
                  refine' PW.pt ?y25
                  case y25 =>
                    refine' pw_or ?y23 ?y24
                    case y23 => exact (pt_cmpR (op_neD hr) (pe_call F__law_ask hr rfl T.m__law_ask T.f__law_ask.kp (b__law_ask T) .nil pass0 (pa_c pe_int (pa_c (pv 2) (pa_c pe_non (pa_c pe_non pa_nil))))) (pe_tup (pa_c pe_str (pa_c pe_int pa_nil))) (nomark _))
                    case y24 =>
                      refine' pw_or1 ?y22
                      case y22 => exact (pt_cmpR (op_neD hr) (pe_call F__law_ask hr rfl T.m__law_ask T.f__law_ask.kp (b__law_ask T) .nil pass0 (pa_c pe_int (pa_c (pv 2) (pa_c (pv 5) (pa_c (pv 4) pa_nil))))) (pe_tup (pa_c pe_str (pa_c pe_int pa_nil))) (nomark _))
                case y28 =>
                  refine' pss_one ?y26
                  case y26 => exact (ps_ret pe_bl)
                case y29 => exact pss_nil
              case y43 =>
                refine' pss_cons ?y40 ?y41
                case y40 =>
                  refine' ps_if ?y35 ?y36 ?y37
                  case y35 =>
                    refine' PW.pt ?y33
                    case y33 =>
                      refine' pw_or ?y31 ?y32
                      case y31 => exact (pt_cmpR (op_neD hr) (pe_call F__law_ask hr rfl T.m__law_ask T.f__law_ask.kp (b__law_ask T) .nil pass0 (pa_c pe_int (pa_c (pv 3) (pa_c (pv 5) (pa_c (pv 4) pa_nil))))) (pe_tup (pa_c pe_str (pa_c pe_int pa_nil))) (nomark _))
                      case y32 =>
                        refine' pw_or1 ?y30
                        case y30 => exact (pt_cmpR (op_neD hr) (pe_call F__law_ask hr rfl T.m__law_ask T.f__law_ask.kp (b__law_ask T) .nil pass0 (pa_c pe_int (pa_c (pv 3) (pa_c (pv 5) (pa_c pe_int pa_nil))))) (pe_tup (pa_c pe_str (pa_c pe_int pa_nil))) (nomark _))
                  case y36 =>
                    refine' pss_one ?y34
                    case y34 => exact (ps_ret pe_bl)
                  case y37 => exact pss_nil
                case y41 =>
                  refine' pss_one ?y39
                  case y39 =>
                    refine' ps_ret ?y38
                    case y38 => exact (pe_and (pe_callB (call_isi hi_int) rfl T.n_isinstance bo_isinstance (pa_cons (pe_call F__law_ask hr rfl T.m__law_ask T.f__law_ask.kp (b__law_ask T) .nil pass0 (pa_c pe_int (pa_c (pv 3) (pa_c (pe_tup (pa_c pe_int (pa_c pe_int (pa_c pe_int (pa_c pe_int pa_nil))))) (pa_c pe_int pa_nil))))) (pa_cons (pe_bltn (v := .ty "int") rfl T.n_int bo_int rfl) pa_nil))) (pe_one (pe_cmpR (op_eqD hr) (pe_call F__law_ask hr rfl T.m__law_ask T.f__law_ask.kp (b__law_ask T) .nil pass0 (pa_c pe_int (pa_c (pv 3) (pa_c (pe_tup (pa_c pe_int (pa_c pe_int (pa_c pe_int (pa_c pe_int pa_nil))))) (pa_c pe_int pa_nil))))) (pe_tup (pa_c pe_str (pa_c pe_int pa_nil))) (nomark _))))
  case yread =>
    refine rs_asg ⟨small (by decide), fun t ht => ?_⟩
    have hS1 := hS.same (same_new ht (.lst [.int 0, .int 0, .int 5]))
    refine rs_seq ⟨_, rfl, _, rfl, a, t, ns, 0, 0, [.int 5], rfl, hS1, upd_same, by decide, fun u H2 d p2 q2 b2 t2 g2 hd dd => ⟨_, rfl, _, rfl, a, t, ns, 5, p2, q2, 5, rfl, hS1.but b2 upd_same, t2, g2, by decide, by decide, by decide, by decide, fun v H3 X p3 q3 c3 b3 t3 g3 c0 c9 okX dpX szX dX => ⟨u, v, rfl, ?_⟩⟩⟩
    have dd3 := Dat.mono (b3.grow t2 t3) _ dd
    have dp8 : deepT X ≤ 8 := by omega
    have sz40 : sizeT X ≤ 40 := by omega
    have hS3 := (hS1.but b2 upd_same).but b3 t2
    have dX3 := dX
    dsimp only
    refine rs_asg ⟨_, rfl, _, rfl, rl_lst (K := K) (ra_cons re_non (ra_cons re_int (ra_cons re_int (ra_cons (re_un re_int) (ra_cons re_int (ra_cons re_bl (ra_cons re_str ra_nil))))))) fun lo x0 H4 s4 hlo e0 => ?_⟩
    have s4' := s4.trans (same_new hlo (.lst x0))
    have t4 := s4' _ _ t3
    have nlo : lo ≠ t := fun z => by rw [z, s4 _ _ t3] at hlo; cases hlo
    have e0 := (same_new hlo (.lst x0)).dats e0
    have l0 : x0.length = 7 := e0.length.symm
    refine ⟨a, t, lo, ns, x0, p3, q3, [.int c3], rfl, hS3.same s4', SqL.of upd_same, nlo, by omega, by omega, t4, g3, fun i x H5 p5 q5 b5 t5 g5 hx => ?_⟩
    obtain ⟨od, ed, ho⟩ := e0.getV hx
    have od_in : od ∈ odds := List.mem_of_getElem? ed
    have g45 : Grow K _ H5 := b5.grow t4 t5
    have do5 := Dat.mono g45 _ ho
    have dd5 := Dat.mono g45 _ (s4'.dat dd3)
    have dX5 := Dat.mono g45 _ (s4'.dat dX3)
    have hS5 := (hS3.same s4').but b5 t4
    refine rs_asg (rl_lst (K := K) (ra_cons re_non (ra_cons (re_tup ra_nil) (ra_cons (re_tup (ra_cons re_int (ra_cons re_int (ra_cons re_int ra_nil)))) (ra_cons (re_tup (ra_cons re_int (ra_cons re_int (ra_cons re_int (ra_cons re_int ra_nil))))) (ra_cons (re_tup (ra_cons re_int (ra_cons re_int (ra_cons re_int (ra_cons (re_un re_int) ra_nil))))) (ra_cons (re_lst (ra_cons re_int (ra_cons re_int (ra_cons re_int (ra_cons re_int ra_nil))))) (ra_cons (re_tup (ra_cons re_int (ra_cons re_int (ra_cons re_bl (ra_cons re_int ra_nil))))) (ra_cons (re_rep (re_tup (ra_cons re_int ra_nil))) ra_nil)))))))) fun lw x1 H6 s6 hlw e1 => ?_)
    have s6' := s6.trans (same_new hlw (.lst x1))
    have t6 := s6' _ _ t5
    have nlw : lw ≠ t := fun z => by rw [z, s6 _ _ t5] at hlw; cases hlw
    have e1 := (same_new hlw (.lst x1)).dats e1
    have l1 : x1.length = 8 := e1.length.symm
    refine rs_asg ⟨_, rfl, _, rfl, _, rfl, a, t, lw, ns, x1, p5, q5, [.int c3], rfl, hS5.same s6', SqL.of upd_same, nlw, by omega, by omega, t6, g5, fun i2 y H7 p7 q7 b7 t7 g7 hy => ?_⟩
    obtain ⟨wr, ew, hw⟩ := e1.getV hy
    have wr_in : wr ∈ wrongs := List.mem_of_getElem? ew
    have g67 : Grow K _ H7 := b7.grow t6 t7
    have dw7 := Dat.mono g67 _ hw
    have do7 := Dat.mono g67 _ (s6'.dat do5)
    have dd7 := Dat.mono g67 _ (s6'.dat dd5)
    have dX7 := Dat.mono g67 _ (s6'.dat dX5)
    have hno := bads_no d hd
    have hyes := tree_ok okX dp8 sz40
    refine rs_ifr (K := K) (b := false) ?_ (fun c => nomatch c) (fun _ H8 s8 => ?_)
    · refine RT.as (rt_or (rt_test (re_neDD (d := refu 1) (re_call (R := Rask) (ra_cons re_int (ra_cons (re_var dd7) (ra_cons re_non (ra_cons re_non ra_nil)))) ⟨_, _, _, .inl ⟨rfl, hno, rfl⟩⟩) (re_tup (ra_cons re_str (ra_cons re_int ra_nil))) rfl rfl deepr)) fun _ => rt_test (re_neDD (d := refu 1) (re_call (R := Rask) (ra_cons re_int (ra_cons (re_var dd7) (ra_cons (re_var dw7) (ra_cons (re_var do7) ra_nil)))) ⟨_, _, _, .inr ⟨rfl, .inl ⟨hno, rfl⟩⟩⟩) (re_tup (ra_cons re_str (ra_cons re_int ra_nil))) rfl rfl deepr)) ?_
      rw [eqr1]
      rfl
    have dw8 := s8.dat dw7
    have do8 := s8.dat do7
    have dX8 := s8.dat dX7
    refine rs_ifr (K := K) (b := false) ?_ (fun c => nomatch c) (fun _ H9 s9 => ?_)
    · refine RT.as (rt_or (rt_test (re_neDD (d := refu 0) (re_call (R := Rask) (ra_cons re_int (ra_cons (re_var dX8) (ra_cons (re_var dw8) (ra_cons (re_var do8) ra_nil)))) ⟨_, _, _, .inr ⟨rfl, .inr (.inl ⟨hyes, odds_no _ od_in, rfl⟩)⟩⟩) (re_tup (ra_cons re_str (ra_cons re_int ra_nil))) rfl rfl deepr)) fun _ => rt_test (re_neDD (d := refu 2) (re_call (R := Rask) (ra_cons re_int (ra_cons (re_var dX8) (ra_cons (re_var dw8) (ra_cons re_int ra_nil)))) ⟨_, _, _, .inr ⟨rfl, .inr (.inr (.inl ⟨hyes, ⟨10, rfl, by decide, by decide, wrongs_no _ wr_in⟩, rfl⟩))⟩⟩) (re_tup (ra_cons re_str (ra_cons re_int ra_nil))) rfl rfl deepr)) ?_
      rw [eqr0, eqr2]
      rfl
    have dX9 := s9.dat dX8
    refine rs_ret (K := K) (d := .bl true) ?_ (fun v H' s d => ?_)
    · refine RE.as (re_and (b := true) (RE.as (re_isi (d := .int (worthT [9, 9, 9, 9] 10 X)) (re_call (R := Rask) (ra_cons re_int (ra_cons (re_var dX9) (ra_cons (re_tup (ra_cons re_int (ra_cons re_int (ra_cons re_int (ra_cons re_int ra_nil))))) (ra_cons re_int ra_nil)))) ⟨_, _, _, .inr ⟨rfl, .inr (.inr (.inr ⟨X, [9, 9, 9, 9], 10, rfl, okX, dp8, sz40, nines, rfl⟩))⟩⟩)) rfl) fun _ => re_eqDD (d := refu 2) (re_call (R := Rask) (ra_cons re_int (ra_cons (re_var dX9) (ra_cons (re_tup (ra_cons re_int (ra_cons re_int (ra_cons re_int (ra_cons re_int ra_nil))))) (ra_cons re_int ra_nil)))) ⟨_, _, _, .inr ⟨rfl, .inr (.inr (.inl ⟨hyes, ⟨9, rfl, by decide, by decide, nines_no⟩, rfl⟩))⟩⟩) (re_tup (ra_cons re_str (ra_cons re_int ra_nil))) rfl rfl deepr) ?_
      rw [eqq2]
      rfl
    · rw [d.blE]
      exact post _
end
end My
end
section
set_option Elab.async false
set_option linter.all false
set_option maxRecDepth 100000
set_option maxHeartbeats 4000000
open PySem PySem.W PyProof.Rows
section
local macro_rules | `(tactic| o_head $H:term) => `(tactic| (have _hook := $H; assumption))
theorem My.k0 (h : PySem.Challenge.rw_piecelay_k04_trees_refused.row.Holds) : PySem.Challenge.rw_piecelay_k04_trees_refused.row.Holds := by
  k_head
end
namespace My
def view : Program := { PySem.Challenge.pw_piecelay_k04_trees_refused with main := { PySem.Challenge.pw_piecelay_k04_trees_refused.main with body := [top 1, top 2, top 3, top 4, top 5, top 6, top 7, top 8, top 9, top 10, top 11, top 12, top 13, top 14, top 15, top 17, top 18, top 19, top 20, top 22, top 24, top 25, top 26, top 27, top 28, top 29, top 30, top 31, top 32, top 33, top 34, top 35, top 36, top 38, top 39, top 40, top 41, top 42, top 43, top 44, top 45, top 46] } }
abbrev PRG : Program := PySem.Challenge.pw_piecelay_k04_trees_refused
abbrev loose : List Str := ["need_size", "MOST_IN_LEAF", "TREES_IN_BRANCH"]
abbrev xt (s : Shared) : Bool := xlAt view [] s && recOk (RowW.records (OpenRow.toRowW (OpenLaw.row PySem.Challenge.rw_piecelay_k04_trees_refused))) s
abbrev kas : List Addr := [2, 3, 15, 22, 23, 24, 25, 28, 35, 36, 37, 40, 47, 48, 49, 52, 59, 60, 61, 64, 71, 72, 73, 76, 83, 84, 85, 88, 95, 96, 97, 100, 107, 108, 109, 112, 119, 120, 121, 124, 131, 132, 133, 136, 143, 144, 145, 148, 155, 156, 157, 160, 167, 168, 169, 172, 179, 181, 182, 184, 185, 186, 187, 188, 191, 198, 200, 201, 203, 204, 205, 206, 207, 210, 212, 213, 215, 216, 217, 219, 220, 222, 223, 224, 225, 227, 228, 230, 231, 232, 235, 236, 237, 238, 239, 241, 242, 244, 245, 246, 248, 249, 251, 252, 253, 256, 257, 258, 260, 261, 263, 264, 265, 267, 268, 270, 271, 272, 274, 275, 277, 278, 279, 281, 282, 284, 285, 286, 288, 289, 291, 292, 293, 295, 296, 298, 299, 300, 302, 303, 305, 306, 307, 309, 310, 312, 313, 314, 317, 318, 331, 333, 334, 336, 337, 338, 340, 341, 343, 344, 345, 347, 348, 350, 351, 352, 354, 355, 357, 358]
theorem kas_ok : ∀ P, kas = (My.k0.heap_1 P).map (·.1) := fun _ => by kernel_rfl
noncomputable abbrev hk : Hook := kHook My.k0.heap_1 kas kas_ok
abbrev NN : Nat := 9000
abbrev ranSo (w : World) (os : OsState) : Prop := (LT.ran PRG w 11 (some (.ref 6)) NN (LT.boot w.params os) (topStub PRG)).map (fun s => (LT.seenT PRG view loose xt w.params s.abs, Hook.obs hk s.abs)) = some ((true, openGood view loose), Hook.val hk w)
set_option maxHeartbeats 0 in
theorem ra : ∀ (w : World) (os : OsState), ranSo (w.withFollow "special-get-raises" false) os := fun w os => by unfold ranSo; kernel_rfl
set_option maxHeartbeats 0 in
theorem rb : ∀ (w : World) (os : OsState), ranSo (w.withFollow "special-get-raises" true) os := fun w os => by unfold ranSo; kernel_rfl
theorem left : LeftO PRG view loose xt (Hook.obs hk) (Hook.val hk) NN :=
  LT.left (by rfl) (by decide) (fun s => by rfl) fun w os => byRow2 "special-get-raises" (P := fun w => ranSo w os) (fun w => ra w os) (fun w => rb w os) w
end My
end
set_option Elab.async false
set_option linter.all false
set_option maxRecDepth 100000
set_option maxHeartbeats 4000000
namespace My
open PySem L2 PyProof.Rows
section
variable {P : Program} {w : World} {K : PySem.W.Frag} {mg : Str → Option Value} {base : Heap}
theorem no_reck0 (vs : List V) (H : Hp) (Q : VK) (E : XK) : ¬ spD K (Rreck 0) vs H Q E := fun ⟨ds, es, _, ⟨t, _, _, _, _, h, _⟩, _⟩ => by
  have := deepT_pos t
  omega
theorem no_tree0 (vs : List V) (H : Hp) (Q : VK) (E : XK) : ¬ spTree K 0 vs H Q E := fun ⟨a, t, ns, room, p, q, c, _, _, _, _, _, _, _, h, _⟩ => by omega
theorem chain (T : Txt K mg) : FnOk P w K mg base CX0 13 T.a_law T.d_law ["_law_script"] (spLaw K) := by
  have w1 := ok_is_whole (P := P) (w := w) (base := base) (k := 0) T
  have g1 := ok_is_tagged (P := P) (w := w) (base := base) (k := 0) T
  have n2 := ok_is_node (k := 1) T g1 w1
  have wi := ok_trees_within (P := P) (w := w) (base := base) (k := 0) T
  have it := ok_is_tree (k := 2) T n2 (wi.mono (by decide))
  have nt := ok_need_tree (k := 3) T it
  have ns := ok_need_size (k := 1) T w1
  have na := ok_need_args (k := 1) T w1
  have bo := ok_worth_of_both (P := P) (w := w) (base := base) (k := 0) T
  have rk : ∀ n : Nat, FnOk P w K mg base CX0 (n + 1) T.a_reckoned T.d_reckoned ["tree", "args", "size"] (spD K (Rreck n)) := by
    intro n
    induction n with
    | zero => exact fn_false no_reck0
    | succ n ih => exact ok_reckoned (k := n + 1) T (bo.mono (by omega)) ih
  have wo := ok_worth (k := 10) T (nt.mono (by decide)) (ns.mono (by decide)) (na.mono (by decide)) ((rk 8).mono (by decide))
  have po := ok_parts_of (k := 10) T (nt.mono (by decide)) (fn_false fun _ _ _ _ h => h)
  have wh := ok__law_which (P := P) (w := w) (base := base) (k := 10) T
  have ak := ok__law_ask (k := 11) T po wo wh
  have dr := ok__law_draw (P := P) (w := w) (base := base) (k := 0) T
  have pk := ok__law_pick (k := 1) T dr
  have tr : ∀ n : Nat, FnOk P w K mg base CX0 (n + 2) T.a__law_tree T.d__law_tree ["_law_script", "_law_town", "_law_room"] (spTree K n) := by
    intro n
    induction n with
    | zero => exact fn_false no_tree0
    | succ n ih => exact ok__law_tree (k := n + 2) T (dr.mono (by omega)) (pk.mono (by omega)) ih
  have no := ok__law_no_tree (k := 2) T pk
  exact ok_law (k := 12) T ((tr 5).mono (by decide)) (no.mono (by decide)) (pk.mono (by decide)) ak
end
theorem all_mk {l : PySem.W.OpenLaw} {w : World} {K : PySem.W.Frag} {h : Heap} {mg : Str → Option Value} {fa : Addr} (X : K.In h) (G : h.Ns mainGlobals mg) (hfa : mg "law" = some (.ref fa))
    {f1 : Addr} {od1 an1 : Option Addr} {sl1 : Array (Option Value)} {oc1 kV1 dc1 pm1 cd1 ct1 : Value}
    {f2 : Addr} {od2 an2 : Option Addr} {sl2 : Array (Option Value)} {oc2 kV2 dc2 pm2 cd2 ct2 : Value}
    {f3 : Addr} {od3 an3 : Option Addr} {sl3 : Array (Option Value)} {oc3 kV3 dc3 pm3 cd3 ct3 : Value}
    {f4 : Addr} {od4 an4 : Option Addr} {sl4 : Array (Option Value)} {oc4 kV4 dc4 pm4 cd4 ct4 : Value}
    {f5 : Addr} {od5 an5 : Option Addr} {sl5 : Array (Option Value)} {oc5 kV5 dc5 pm5 cd5 ct5 : Value}
    {f6 : Addr} {od6 an6 : Option Addr} {sl6 : Array (Option Value)} {oc6 kV6 dc6 pm6 cd6 ct6 : Value}
    {f7 : Addr} {od7 an7 : Option Addr} {sl7 : Array (Option Value)} {oc7 kV7 dc7 pm7 cd7 ct7 : Value}
    {f8 : Addr} {od8 an8 : Option Addr} {sl8 : Array (Option Value)} {oc8 kV8 dc8 pm8 cd8 ct8 : Value}
    {f9 : Addr} {od9 an9 : Option Addr} {sl9 : Array (Option Value)} {oc9 kV9 dc9 pm9 cd9 ct9 : Value}
    {v9 : Addr} {q9 : Tok} {vc9 : Value} {vd9 : Option Addr} {vs9 : Array (Option Value)} {vn9 : Nat}
    {f10 : Addr} {od10 an10 : Option Addr} {sl10 : Array (Option Value)} {oc10 kV10 dc10 pm10 cd10 ct10 : Value}
    {f11 : Addr} {od11 an11 : Option Addr} {sl11 : Array (Option Value)} {oc11 kV11 dc11 pm11 cd11 ct11 : Value}
    {f12 : Addr} {od12 an12 : Option Addr} {sl12 : Array (Option Value)} {oc12 kV12 dc12 pm12 cd12 ct12 : Value}
    {f13 : Addr} {od13 an13 : Option Addr} {sl13 : Array (Option Value)} {oc13 kV13 dc13 pm13 cd13 ct13 : Value}
    {f14 : Addr} {od14 an14 : Option Addr} {sl14 : Array (Option Value)} {oc14 kV14 dc14 pm14 cd14 ct14 : Value}
    {f15 : Addr} {od15 an15 : Option Addr} {sl15 : Array (Option Value)} {oc15 kV15 dc15 pm15 cd15 ct15 : Value}
    {f16 : Addr} {od16 an16 : Option Addr} {sl16 : Array (Option Value)} {oc16 kV16 dc16 pm16 cd16 ct16 : Value}
    {f17 : Addr} {od17 an17 : Option Addr} {sl17 : Array (Option Value)} {oc17 kV17 dc17 pm17 cd17 ct17 : Value}
    {f18 : Addr} {od18 an18 : Option Addr} {sl18 : Array (Option Value)} {oc18 kV18 dc18 pm18 cd18 ct18 : Value}
    {f19 : Addr} {od19 an19 : Option Addr} {sl19 : Array (Option Value)} {oc19 kV19 dc19 pm19 cd19 ct19 : Value}
    {f20 : Addr} {od20 an20 : Option Addr} {sl20 : Array (Option Value)} {oc20 kV20 dc20 pm20 cd20 ct20 : Value}
    {t_MOST_PARTS : Tok}
    {t_MOST_DEEP : Tok}
    {t_MANY_ARGS : Tok}
    {t_MOST_SIZE : Tok}
    {d_MOST_IN_LEAF : Addr}
    {d_TREES_IN_BRANCH : Addr}
    {d_PieceError : Addr}
    {d_NoSize : Addr}
    {d_NoTree : Addr}
    {d_NoArgs : Addr}
    {d_NoCode : Addr}
    {d_NoSteps : Addr}
    {d_Late : Addr}
    {d_NoPiece : Addr}
    {d_NoSet : Addr}
    {d_NoCover : Addr}
    {d_NoParts : Addr}
    {d_NoName : Addr}
    {d_Taken : Addr}
    {d_Fault : Addr}
    {d_Broken : Addr}
    (a1 : PySem.W.nsIn K mainGlobals "is_whole" = some (some (.ref f1))) (l1 : K.lookup f1 = some ⟨oc1, od1, .func (PySem.W.fnOf "is_whole" "is_whole" (defArgs s_is_whole) (defBody s_is_whole) (defScope s_is_whole) .none kV1 dc1 pm1 an1 cd1 ct1), sl1⟩) (c1 : PySem.W.codeIn K cd1 "is_whole" = true) (k1 : PySem.W.keepIn K (.ref f1) = true)
    (a2 : PySem.W.nsIn K mainGlobals "is_tagged" = some (some (.ref f2))) (l2 : K.lookup f2 = some ⟨oc2, od2, .func (PySem.W.fnOf "is_tagged" "is_tagged" (defArgs s_is_tagged) (defBody s_is_tagged) (defScope s_is_tagged) .none kV2 dc2 pm2 an2 cd2 ct2), sl2⟩) (c2 : PySem.W.codeIn K cd2 "is_tagged" = true) (k2 : PySem.W.keepIn K (.ref f2) = true)
    (a3 : PySem.W.nsIn K mainGlobals "is_node" = some (some (.ref f3))) (l3 : K.lookup f3 = some ⟨oc3, od3, .func (PySem.W.fnOf "is_node" "is_node" (defArgs s_is_node) (defBody s_is_node) (defScope s_is_node) .none kV3 dc3 pm3 an3 cd3 ct3), sl3⟩) (c3 : PySem.W.codeIn K cd3 "is_node" = true) (k3 : PySem.W.keepIn K (.ref f3) = true)
    (a4 : PySem.W.nsIn K mainGlobals "trees_within" = some (some (.ref f4))) (l4 : K.lookup f4 = some ⟨oc4, od4, .func (PySem.W.fnOf "trees_within" "trees_within" (defArgs s_trees_within) (defBody s_trees_within) (defScope s_trees_within) .none kV4 dc4 pm4 an4 cd4 ct4), sl4⟩) (c4 : PySem.W.codeIn K cd4 "trees_within" = true) (k4 : PySem.W.keepIn K (.ref f4) = true)
    (a5 : PySem.W.nsIn K mainGlobals "is_tree" = some (some (.ref f5))) (l5 : K.lookup f5 = some ⟨oc5, od5, .func (PySem.W.fnOf "is_tree" "is_tree" (defArgs s_is_tree) (defBody s_is_tree) (defScope s_is_tree) .none kV5 dc5 pm5 an5 cd5 ct5), sl5⟩) (c5 : PySem.W.codeIn K cd5 "is_tree" = true) (k5 : PySem.W.keepIn K (.ref f5) = true)
    (a6 : PySem.W.nsIn K mainGlobals "need_tree" = some (some (.ref f6))) (l6 : K.lookup f6 = some ⟨oc6, od6, .func (PySem.W.fnOf "need_tree" "need_tree" (defArgs s_need_tree) (defBody s_need_tree) (defScope s_need_tree) .none kV6 dc6 pm6 an6 cd6 ct6), sl6⟩) (c6 : PySem.W.codeIn K cd6 "need_tree" = true) (k6 : PySem.W.keepIn K (.ref f6) = true)
    (a7 : PySem.W.nsIn K mainGlobals "walked" = some (some (.ref f7))) (l7 : K.lookup f7 = some ⟨oc7, od7, .func (PySem.W.fnOf "walked" "walked" (defArgs s_walked) (defBody s_walked) (defScope s_walked) .none kV7 dc7 pm7 an7 cd7 ct7), sl7⟩) (c7 : PySem.W.codeIn K cd7 "walked" = true) (k7 : PySem.W.keepIn K (.ref f7) = true)
    (a8 : PySem.W.nsIn K mainGlobals "parts_of" = some (some (.ref f8))) (l8 : K.lookup f8 = some ⟨oc8, od8, .func (PySem.W.fnOf "parts_of" "parts_of" (defArgs s_parts_of) (defBody s_parts_of) (defScope s_parts_of) .none kV8 dc8 pm8 an8 cd8 ct8), sl8⟩) (c8 : PySem.W.codeIn K cd8 "parts_of" = true) (k8 : PySem.W.keepIn K (.ref f8) = true)
    (a9 : PySem.W.nsIn K mainGlobals "need_size" = some (some (.ref f9))) (l9 : K.lookup f9 = some ⟨oc9, od9, .func (PySem.W.fnOf "need_size" "need_size" (defArgs s_need_size) (defBody s_need_size) (defScope s_need_size) (.ref v9) kV9 dc9 pm9 an9 cd9 ct9), sl9⟩) (c9 : PySem.W.codeIn K cd9 "need_size" = true) (k9 : PySem.W.keepIn K (.ref f9) = true)
    (e9 : K.lookup v9 = some ⟨vc9, vd9, .seq #[.int 10000 q9] vn9, vs9⟩)
    (a10 : PySem.W.nsIn K mainGlobals "need_args" = some (some (.ref f10))) (l10 : K.lookup f10 = some ⟨oc10, od10, .func (PySem.W.fnOf "need_args" "need_args" (defArgs s_need_args) (defBody s_need_args) (defScope s_need_args) .none kV10 dc10 pm10 an10 cd10 ct10), sl10⟩) (c10 : PySem.W.codeIn K cd10 "need_args" = true) (k10 : PySem.W.keepIn K (.ref f10) = true)
    (a11 : PySem.W.nsIn K mainGlobals "worth_of_both" = some (some (.ref f11))) (l11 : K.lookup f11 = some ⟨oc11, od11, .func (PySem.W.fnOf "worth_of_both" "worth_of_both" (defArgs s_worth_of_both) (defBody s_worth_of_both) (defScope s_worth_of_both) .none kV11 dc11 pm11 an11 cd11 ct11), sl11⟩) (c11 : PySem.W.codeIn K cd11 "worth_of_both" = true) (k11 : PySem.W.keepIn K (.ref f11) = true)
    (a12 : PySem.W.nsIn K mainGlobals "reckoned" = some (some (.ref f12))) (l12 : K.lookup f12 = some ⟨oc12, od12, .func (PySem.W.fnOf "reckoned" "reckoned" (defArgs s_reckoned) (defBody s_reckoned) (defScope s_reckoned) .none kV12 dc12 pm12 an12 cd12 ct12), sl12⟩) (c12 : PySem.W.codeIn K cd12 "reckoned" = true) (k12 : PySem.W.keepIn K (.ref f12) = true)
    (a13 : PySem.W.nsIn K mainGlobals "worth" = some (some (.ref f13))) (l13 : K.lookup f13 = some ⟨oc13, od13, .func (PySem.W.fnOf "worth" "worth" (defArgs s_worth) (defBody s_worth) (defScope s_worth) .none kV13 dc13 pm13 an13 cd13 ct13), sl13⟩) (c13 : PySem.W.codeIn K cd13 "worth" = true) (k13 : PySem.W.keepIn K (.ref f13) = true)
    (a14 : PySem.W.nsIn K mainGlobals "_law_draw" = some (some (.ref f14))) (l14 : K.lookup f14 = some ⟨oc14, od14, .func (PySem.W.fnOf "_law_draw" "_law_draw" (defArgs s__law_draw) (defBody s__law_draw) (defScope s__law_draw) .none kV14 dc14 pm14 an14 cd14 ct14), sl14⟩) (c14 : PySem.W.codeIn K cd14 "_law_draw" = true) (k14 : PySem.W.keepIn K (.ref f14) = true)
    (a15 : PySem.W.nsIn K mainGlobals "_law_pick" = some (some (.ref f15))) (l15 : K.lookup f15 = some ⟨oc15, od15, .func (PySem.W.fnOf "_law_pick" "_law_pick" (defArgs s__law_pick) (defBody s__law_pick) (defScope s__law_pick) .none kV15 dc15 pm15 an15 cd15 ct15), sl15⟩) (c15 : PySem.W.codeIn K cd15 "_law_pick" = true) (k15 : PySem.W.keepIn K (.ref f15) = true)
    (a16 : PySem.W.nsIn K mainGlobals "_law_tree" = some (some (.ref f16))) (l16 : K.lookup f16 = some ⟨oc16, od16, .func (PySem.W.fnOf "_law_tree" "_law_tree" (defArgs s__law_tree) (defBody s__law_tree) (defScope s__law_tree) .none kV16 dc16 pm16 an16 cd16 ct16), sl16⟩) (c16 : PySem.W.codeIn K cd16 "_law_tree" = true) (k16 : PySem.W.keepIn K (.ref f16) = true)
    (a17 : PySem.W.nsIn K mainGlobals "_law_no_tree" = some (some (.ref f17))) (l17 : K.lookup f17 = some ⟨oc17, od17, .func (PySem.W.fnOf "_law_no_tree" "_law_no_tree" (defArgs s__law_no_tree) (defBody s__law_no_tree) (defScope s__law_no_tree) .none kV17 dc17 pm17 an17 cd17 ct17), sl17⟩) (c17 : PySem.W.codeIn K cd17 "_law_no_tree" = true) (k17 : PySem.W.keepIn K (.ref f17) = true)
    (a18 : PySem.W.nsIn K mainGlobals "_law_which" = some (some (.ref f18))) (l18 : K.lookup f18 = some ⟨oc18, od18, .func (PySem.W.fnOf "_law_which" "_law_which" (defArgs s__law_which) (defBody s__law_which) (defScope s__law_which) .none kV18 dc18 pm18 an18 cd18 ct18), sl18⟩) (c18 : PySem.W.codeIn K cd18 "_law_which" = true) (k18 : PySem.W.keepIn K (.ref f18) = true)
    (a19 : PySem.W.nsIn K mainGlobals "_law_ask" = some (some (.ref f19))) (l19 : K.lookup f19 = some ⟨oc19, od19, .func (PySem.W.fnOf "_law_ask" "_law_ask" (defArgs s__law_ask) (defBody s__law_ask) (defScope s__law_ask) .none kV19 dc19 pm19 an19 cd19 ct19), sl19⟩) (c19 : PySem.W.codeIn K cd19 "_law_ask" = true) (k19 : PySem.W.keepIn K (.ref f19) = true)
    (a20 : PySem.W.nsIn K mainGlobals "law" = some (some (.ref f20))) (l20 : K.lookup f20 = some ⟨oc20, od20, .func (PySem.W.fnOf "law" "law" (defArgs s_law) (defBody s_law) (defScope s_law) .none kV20 dc20 pm20 an20 cd20 ct20), sl20⟩) (c20 : PySem.W.codeIn K cd20 "law" = true) (k20 : PySem.W.keepIn K (.ref f20) = true)
    (g_MOST_PARTS : PySem.W.nsIn K mainGlobals "MOST_PARTS" = some (some (.int 40 t_MOST_PARTS)))
    (g_MOST_DEEP : PySem.W.nsIn K mainGlobals "MOST_DEEP" = some (some (.int 8 t_MOST_DEEP)))
    (g_MANY_ARGS : PySem.W.nsIn K mainGlobals "MANY_ARGS" = some (some (.int 4 t_MANY_ARGS)))
    (g_MOST_SIZE : PySem.W.nsIn K mainGlobals "MOST_SIZE" = some (some (.int 10000 t_MOST_SIZE)))
    (g_MOST_IN_LEAF : PySem.W.nsIn K mainGlobals "MOST_IN_LEAF" = some (some (.ref d_MOST_IN_LEAF))) (t_MOST_IN_LEAF : KTD.tabLook (KTD.datLooks fun b => K.lookup b) (fun b => K.lookup b) d_MOST_IN_LEAF TL = true)
    (g_TREES_IN_BRANCH : PySem.W.nsIn K mainGlobals "TREES_IN_BRANCH" = some (some (.ref d_TREES_IN_BRANCH))) (t_TREES_IN_BRANCH : KTD.tabLook (KTD.datLooks fun b => K.lookup b) (fun b => K.lookup b) d_TREES_IN_BRANCH TB = true)
    (g_PieceError : PySem.W.nsIn K mainGlobals "PieceError" = some (some (.ref d_PieceError)))
    (g_NoSize : PySem.W.nsIn K mainGlobals "NoSize" = some (some (.ref d_NoSize)))
    (g_NoTree : PySem.W.nsIn K mainGlobals "NoTree" = some (some (.ref d_NoTree)))
    (g_NoArgs : PySem.W.nsIn K mainGlobals "NoArgs" = some (some (.ref d_NoArgs)))
    (g_NoCode : PySem.W.nsIn K mainGlobals "NoCode" = some (some (.ref d_NoCode)))
    (g_NoSteps : PySem.W.nsIn K mainGlobals "NoSteps" = some (some (.ref d_NoSteps)))
    (g_Late : PySem.W.nsIn K mainGlobals "Late" = some (some (.ref d_Late)))
    (g_NoPiece : PySem.W.nsIn K mainGlobals "NoPiece" = some (some (.ref d_NoPiece)))
    (g_NoSet : PySem.W.nsIn K mainGlobals "NoSet" = some (some (.ref d_NoSet)))
    (g_NoCover : PySem.W.nsIn K mainGlobals "NoCover" = some (some (.ref d_NoCover)))
    (g_NoParts : PySem.W.nsIn K mainGlobals "NoParts" = some (some (.ref d_NoParts)))
    (g_NoName : PySem.W.nsIn K mainGlobals "NoName" = some (some (.ref d_NoName)))
    (g_Taken : PySem.W.nsIn K mainGlobals "Taken" = some (some (.ref d_Taken)))
    (g_Fault : PySem.W.nsIn K mainGlobals "Fault" = some (some (.ref d_Fault)))
    (g_Broken : PySem.W.nsIn K mainGlobals "Broken" = some (some (.ref d_Broken)))
    (r_NoSize : excAt K d_NoSize [.type "ValueError", .type "Exception", .type "BaseException", .type "object"] "ValueError.__new__" none = true) (x_NoSize : ExcK K d_NoSize)
    (r_NoTree : excAt K d_NoTree [.type "ValueError", .type "Exception", .type "BaseException", .type "object"] "ValueError.__new__" none = true) (x_NoTree : ExcK K d_NoTree)
    (r_NoArgs : excAt K d_NoArgs [.type "ValueError", .type "Exception", .type "BaseException", .type "object"] "ValueError.__new__" none = true) (x_NoArgs : ExcK K d_NoArgs)
    (e_NoSize_PieceError : PySem.W.exmOne K (.ref d_NoSize) (.ref d_PieceError) = some true)
    (e_NoTree_PieceError : PySem.W.exmOne K (.ref d_NoTree) (.ref d_PieceError) = some true)
    (e_NoArgs_PieceError : PySem.W.exmOne K (.ref d_NoArgs) (.ref d_PieceError) = some true)
    (k_NoSize_NoSize : PySem.W.kitOne K (.ref d_NoSize) (.ref d_NoSize) = some true)
    (k_NoSize_NoTree : PySem.W.kitOne K (.ref d_NoSize) (.ref d_NoTree) = some false)
    (k_NoSize_NoArgs : PySem.W.kitOne K (.ref d_NoSize) (.ref d_NoArgs) = some false)
    (k_NoSize_NoCode : PySem.W.kitOne K (.ref d_NoSize) (.ref d_NoCode) = some false)
    (k_NoSize_NoSteps : PySem.W.kitOne K (.ref d_NoSize) (.ref d_NoSteps) = some false)
    (k_NoSize_Late : PySem.W.kitOne K (.ref d_NoSize) (.ref d_Late) = some false)
    (k_NoSize_NoPiece : PySem.W.kitOne K (.ref d_NoSize) (.ref d_NoPiece) = some false)
    (k_NoSize_NoSet : PySem.W.kitOne K (.ref d_NoSize) (.ref d_NoSet) = some false)
    (k_NoSize_NoCover : PySem.W.kitOne K (.ref d_NoSize) (.ref d_NoCover) = some false)
    (k_NoSize_NoParts : PySem.W.kitOne K (.ref d_NoSize) (.ref d_NoParts) = some false)
    (k_NoSize_NoName : PySem.W.kitOne K (.ref d_NoSize) (.ref d_NoName) = some false)
    (k_NoSize_Taken : PySem.W.kitOne K (.ref d_NoSize) (.ref d_Taken) = some false)
    (k_NoSize_Fault : PySem.W.kitOne K (.ref d_NoSize) (.ref d_Fault) = some false)
    (k_NoSize_Broken : PySem.W.kitOne K (.ref d_NoSize) (.ref d_Broken) = some false)
    (k_NoTree_NoSize : PySem.W.kitOne K (.ref d_NoTree) (.ref d_NoSize) = some false)
    (k_NoTree_NoTree : PySem.W.kitOne K (.ref d_NoTree) (.ref d_NoTree) = some true)
    (k_NoTree_NoArgs : PySem.W.kitOne K (.ref d_NoTree) (.ref d_NoArgs) = some false)
    (k_NoTree_NoCode : PySem.W.kitOne K (.ref d_NoTree) (.ref d_NoCode) = some false)
    (k_NoTree_NoSteps : PySem.W.kitOne K (.ref d_NoTree) (.ref d_NoSteps) = some false)
    (k_NoTree_Late : PySem.W.kitOne K (.ref d_NoTree) (.ref d_Late) = some false)
    (k_NoTree_NoPiece : PySem.W.kitOne K (.ref d_NoTree) (.ref d_NoPiece) = some false)
    (k_NoTree_NoSet : PySem.W.kitOne K (.ref d_NoTree) (.ref d_NoSet) = some false)
    (k_NoTree_NoCover : PySem.W.kitOne K (.ref d_NoTree) (.ref d_NoCover) = some false)
    (k_NoTree_NoParts : PySem.W.kitOne K (.ref d_NoTree) (.ref d_NoParts) = some false)
    (k_NoTree_NoName : PySem.W.kitOne K (.ref d_NoTree) (.ref d_NoName) = some false)
    (k_NoTree_Taken : PySem.W.kitOne K (.ref d_NoTree) (.ref d_Taken) = some false)
    (k_NoTree_Fault : PySem.W.kitOne K (.ref d_NoTree) (.ref d_Fault) = some false)
    (k_NoTree_Broken : PySem.W.kitOne K (.ref d_NoTree) (.ref d_Broken) = some false)
    (k_NoArgs_NoSize : PySem.W.kitOne K (.ref d_NoArgs) (.ref d_NoSize) = some false)
    (k_NoArgs_NoTree : PySem.W.kitOne K (.ref d_NoArgs) (.ref d_NoTree) = some false)
    (k_NoArgs_NoArgs : PySem.W.kitOne K (.ref d_NoArgs) (.ref d_NoArgs) = some true)
    (k_NoArgs_NoCode : PySem.W.kitOne K (.ref d_NoArgs) (.ref d_NoCode) = some false)
    (k_NoArgs_NoSteps : PySem.W.kitOne K (.ref d_NoArgs) (.ref d_NoSteps) = some false)
    (k_NoArgs_Late : PySem.W.kitOne K (.ref d_NoArgs) (.ref d_Late) = some false)
    (k_NoArgs_NoPiece : PySem.W.kitOne K (.ref d_NoArgs) (.ref d_NoPiece) = some false)
    (k_NoArgs_NoSet : PySem.W.kitOne K (.ref d_NoArgs) (.ref d_NoSet) = some false)
    (k_NoArgs_NoCover : PySem.W.kitOne K (.ref d_NoArgs) (.ref d_NoCover) = some false)
    (k_NoArgs_NoParts : PySem.W.kitOne K (.ref d_NoArgs) (.ref d_NoParts) = some false)
    (k_NoArgs_NoName : PySem.W.kitOne K (.ref d_NoArgs) (.ref d_NoName) = some false)
    (k_NoArgs_Taken : PySem.W.kitOne K (.ref d_NoArgs) (.ref d_Taken) = some false)
    (k_NoArgs_Fault : PySem.W.kitOne K (.ref d_NoArgs) (.ref d_Fault) = some false)
    (k_NoArgs_Broken : PySem.W.kitOne K (.ref d_NoArgs) (.ref d_Broken) = some false)
    (k_NoSize_ValueError : PySem.W.kitOne K (.ref d_NoSize) (.type "ValueError") = some true)
    (k_NoTree_ValueError : PySem.W.kitOne K (.ref d_NoTree) (.type "ValueError") = some true)
    (k_NoArgs_ValueError : PySem.W.kitOne K (.ref d_NoArgs) (.type "ValueError") = some true)
    (z_len : PySem.W.nsIn K mainGlobals "len" = some none)
    (z_isinstance : PySem.W.nsIn K mainGlobals "isinstance" = some none)
    (z_int : PySem.W.nsIn K mainGlobals "int" = some none)
    (z_bool : PySem.W.nsIn K mainGlobals "bool" = some none)
    (z_str : PySem.W.nsIn K mainGlobals "str" = some none)
    (z_tuple : PySem.W.nsIn K mainGlobals "tuple" = some none)
    (z_list : PySem.W.nsIn K mainGlobals "list" = some none)
    (z_range : PySem.W.nsIn K mainGlobals "range" = some none)
    (z_all : PySem.W.nsIn K mainGlobals "all" = some none)
    (z_ValueError : PySem.W.nsIn K mainGlobals "ValueError" = some none) :
    ∃ fd : FuncData, (∀ (s : Shared) (v : Value), BindsTo s fd ⟨[v], []⟩ [("_law_script", v)]) ∧ ∀ base : Heap, K.In base → base.Ns mainGlobals mg → FnOk l.prog w K mg base CX0 13 fa fd ["_law_script"] (spLaw K) := by
  have e := hfa.symm.trans (PySem.W.mg_of X G a20)
  cases e
  let T : Txt K mg :=
    { a_is_whole := f1, d_is_whole := PySem.W.fnOf "is_whole" "is_whole" (defArgs s_is_whole) (defBody s_is_whole) (defScope s_is_whole) .none kV1 dc1 pm1 an1 cd1 ct1, f_is_whole := fun_mk (st := s_is_whole) l1 c1 k1, m_is_whole := PySem.W.mg_of X G a1,
      a_is_tagged := f2, d_is_tagged := PySem.W.fnOf "is_tagged" "is_tagged" (defArgs s_is_tagged) (defBody s_is_tagged) (defScope s_is_tagged) .none kV2 dc2 pm2 an2 cd2 ct2, f_is_tagged := fun_mk (st := s_is_tagged) l2 c2 k2, m_is_tagged := PySem.W.mg_of X G a2,
      a_is_node := f3, d_is_node := PySem.W.fnOf "is_node" "is_node" (defArgs s_is_node) (defBody s_is_node) (defScope s_is_node) .none kV3 dc3 pm3 an3 cd3 ct3, f_is_node := fun_mk (st := s_is_node) l3 c3 k3, m_is_node := PySem.W.mg_of X G a3,
      a_trees_within := f4, d_trees_within := PySem.W.fnOf "trees_within" "trees_within" (defArgs s_trees_within) (defBody s_trees_within) (defScope s_trees_within) .none kV4 dc4 pm4 an4 cd4 ct4, f_trees_within := fun_mk (st := s_trees_within) l4 c4 k4, m_trees_within := PySem.W.mg_of X G a4,
      a_is_tree := f5, d_is_tree := PySem.W.fnOf "is_tree" "is_tree" (defArgs s_is_tree) (defBody s_is_tree) (defScope s_is_tree) .none kV5 dc5 pm5 an5 cd5 ct5, f_is_tree := fun_mk (st := s_is_tree) l5 c5 k5, m_is_tree := PySem.W.mg_of X G a5,
      a_need_tree := f6, d_need_tree := PySem.W.fnOf "need_tree" "need_tree" (defArgs s_need_tree) (defBody s_need_tree) (defScope s_need_tree) .none kV6 dc6 pm6 an6 cd6 ct6, f_need_tree := fun_mk (st := s_need_tree) l6 c6 k6, m_need_tree := PySem.W.mg_of X G a6,
      a_walked := f7, d_walked := PySem.W.fnOf "walked" "walked" (defArgs s_walked) (defBody s_walked) (defScope s_walked) .none kV7 dc7 pm7 an7 cd7 ct7, f_walked := fun_mk (st := s_walked) l7 c7 k7, m_walked := PySem.W.mg_of X G a7,
      a_parts_of := f8, d_parts_of := PySem.W.fnOf "parts_of" "parts_of" (defArgs s_parts_of) (defBody s_parts_of) (defScope s_parts_of) .none kV8 dc8 pm8 an8 cd8 ct8, f_parts_of := fun_mk (st := s_parts_of) l8 c8 k8, m_parts_of := PySem.W.mg_of X G a8,
      a_need_size := f9, d_need_size := PySem.W.fnOf "need_size" "need_size" (defArgs s_need_size) (defBody s_need_size) (defScope s_need_size) (.ref v9) kV9 dc9 pm9 an9 cd9 ct9, u_need_size := v9, q_need_size := q9, f_need_size := ⟨⟨_, _, _, _, _, _, _, _, _, rfl, l9, c9⟩, k9, ⟨_, _, e9, rfl⟩⟩, m_need_size := PySem.W.mg_of X G a9,
      a_need_args := f10, d_need_args := PySem.W.fnOf "need_args" "need_args" (defArgs s_need_args) (defBody s_need_args) (defScope s_need_args) .none kV10 dc10 pm10 an10 cd10 ct10, f_need_args := fun_mk (st := s_need_args) l10 c10 k10, m_need_args := PySem.W.mg_of X G a10,
      a_worth_of_both := f11, d_worth_of_both := PySem.W.fnOf "worth_of_both" "worth_of_both" (defArgs s_worth_of_both) (defBody s_worth_of_both) (defScope s_worth_of_both) .none kV11 dc11 pm11 an11 cd11 ct11, f_worth_of_both := fun_mk (st := s_worth_of_both) l11 c11 k11, m_worth_of_both := PySem.W.mg_of X G a11,
      a_reckoned := f12, d_reckoned := PySem.W.fnOf "reckoned" "reckoned" (defArgs s_reckoned) (defBody s_reckoned) (defScope s_reckoned) .none kV12 dc12 pm12 an12 cd12 ct12, f_reckoned := fun_mk (st := s_reckoned) l12 c12 k12, m_reckoned := PySem.W.mg_of X G a12,
      a_worth := f13, d_worth := PySem.W.fnOf "worth" "worth" (defArgs s_worth) (defBody s_worth) (defScope s_worth) .none kV13 dc13 pm13 an13 cd13 ct13, f_worth := fun_mk (st := s_worth) l13 c13 k13, m_worth := PySem.W.mg_of X G a13,
      a__law_draw := f14, d__law_draw := PySem.W.fnOf "_law_draw" "_law_draw" (defArgs s__law_draw) (defBody s__law_draw) (defScope s__law_draw) .none kV14 dc14 pm14 an14 cd14 ct14, f__law_draw := fun_mk (st := s__law_draw) l14 c14 k14, m__law_draw := PySem.W.mg_of X G a14,
      a__law_pick := f15, d__law_pick := PySem.W.fnOf "_law_pick" "_law_pick" (defArgs s__law_pick) (defBody s__law_pick) (defScope s__law_pick) .none kV15 dc15 pm15 an15 cd15 ct15, f__law_pick := fun_mk (st := s__law_pick) l15 c15 k15, m__law_pick := PySem.W.mg_of X G a15,
      a__law_tree := f16, d__law_tree := PySem.W.fnOf "_law_tree" "_law_tree" (defArgs s__law_tree) (defBody s__law_tree) (defScope s__law_tree) .none kV16 dc16 pm16 an16 cd16 ct16, f__law_tree := fun_mk (st := s__law_tree) l16 c16 k16, m__law_tree := PySem.W.mg_of X G a16,
      a__law_no_tree := f17, d__law_no_tree := PySem.W.fnOf "_law_no_tree" "_law_no_tree" (defArgs s__law_no_tree) (defBody s__law_no_tree) (defScope s__law_no_tree) .none kV17 dc17 pm17 an17 cd17 ct17, f__law_no_tree := fun_mk (st := s__law_no_tree) l17 c17 k17, m__law_no_tree := PySem.W.mg_of X G a17,
      a__law_which := f18, d__law_which := PySem.W.fnOf "_law_which" "_law_which" (defArgs s__law_which) (defBody s__law_which) (defScope s__law_which) .none kV18 dc18 pm18 an18 cd18 ct18, f__law_which := fun_mk (st := s__law_which) l18 c18 k18, m__law_which := PySem.W.mg_of X G a18,
      a__law_ask := f19, d__law_ask := PySem.W.fnOf "_law_ask" "_law_ask" (defArgs s__law_ask) (defBody s__law_ask) (defScope s__law_ask) .none kV19 dc19 pm19 an19 cd19 ct19, f__law_ask := fun_mk (st := s__law_ask) l19 c19 k19, m__law_ask := PySem.W.mg_of X G a19,
      a_law := fa, d_law := PySem.W.fnOf "law" "law" (defArgs s_law) (defBody s_law) (defScope s_law) .none kV20 dc20 pm20 an20 cd20 ct20, f_law := fun_mk (st := s_law) l20 c20 k20, m_law := PySem.W.mg_of X G a20,
      t_MOST_PARTS := t_MOST_PARTS, g_MOST_PARTS := PySem.W.mg_of X G g_MOST_PARTS,
      t_MOST_DEEP := t_MOST_DEEP, g_MOST_DEEP := PySem.W.mg_of X G g_MOST_DEEP,
      t_MANY_ARGS := t_MANY_ARGS, g_MANY_ARGS := PySem.W.mg_of X G g_MANY_ARGS,
      t_MOST_SIZE := t_MOST_SIZE, g_MOST_SIZE := PySem.W.mg_of X G g_MOST_SIZE,
      a_MOST_IN_LEAF := d_MOST_IN_LEAF, g_MOST_IN_LEAF := PySem.W.mg_of X G g_MOST_IN_LEAF, t_MOST_IN_LEAF := fun h x => PySem.W.kt_text_in x t_MOST_IN_LEAF,
      a_TREES_IN_BRANCH := d_TREES_IN_BRANCH, g_TREES_IN_BRANCH := PySem.W.mg_of X G g_TREES_IN_BRANCH, t_TREES_IN_BRANCH := fun h x => PySem.W.kt_text_in x t_TREES_IN_BRANCH,
      a_PieceError := d_PieceError, g_PieceError := PySem.W.mg_of X G g_PieceError,
      a_NoSize := d_NoSize, g_NoSize := PySem.W.mg_of X G g_NoSize,
      a_NoTree := d_NoTree, g_NoTree := PySem.W.mg_of X G g_NoTree,
      a_NoArgs := d_NoArgs, g_NoArgs := PySem.W.mg_of X G g_NoArgs,
      a_NoCode := d_NoCode, g_NoCode := PySem.W.mg_of X G g_NoCode,
      a_NoSteps := d_NoSteps, g_NoSteps := PySem.W.mg_of X G g_NoSteps,
      a_Late := d_Late, g_Late := PySem.W.mg_of X G g_Late,
      a_NoPiece := d_NoPiece, g_NoPiece := PySem.W.mg_of X G g_NoPiece,
      a_NoSet := d_NoSet, g_NoSet := PySem.W.mg_of X G g_NoSet,
      a_NoCover := d_NoCover, g_NoCover := PySem.W.mg_of X G g_NoCover,
      a_NoParts := d_NoParts, g_NoParts := PySem.W.mg_of X G g_NoParts,
      a_NoName := d_NoName, g_NoName := PySem.W.mg_of X G g_NoName,
      a_Taken := d_Taken, g_Taken := PySem.W.mg_of X G g_Taken,
      a_Fault := d_Fault, g_Fault := PySem.W.mg_of X G g_Fault,
      a_Broken := d_Broken, g_Broken := PySem.W.mg_of X G g_Broken,
      r_NoSize := r_NoSize, x_NoSize := x_NoSize,
      r_NoTree := r_NoTree, x_NoTree := x_NoTree,
      r_NoArgs := r_NoArgs, x_NoArgs := x_NoArgs,
      e_NoSize_PieceError := e_NoSize_PieceError,
      e_NoTree_PieceError := e_NoTree_PieceError,
      e_NoArgs_PieceError := e_NoArgs_PieceError,
      k_NoSize_NoSize := k_NoSize_NoSize,
      k_NoSize_NoTree := k_NoSize_NoTree,
      k_NoSize_NoArgs := k_NoSize_NoArgs,
      k_NoSize_NoCode := k_NoSize_NoCode,
      k_NoSize_NoSteps := k_NoSize_NoSteps,
      k_NoSize_Late := k_NoSize_Late,
      k_NoSize_NoPiece := k_NoSize_NoPiece,
      k_NoSize_NoSet := k_NoSize_NoSet,
      k_NoSize_NoCover := k_NoSize_NoCover,
      k_NoSize_NoParts := k_NoSize_NoParts,
      k_NoSize_NoName := k_NoSize_NoName,
      k_NoSize_Taken := k_NoSize_Taken,
      k_NoSize_Fault := k_NoSize_Fault,
      k_NoSize_Broken := k_NoSize_Broken,
      k_NoTree_NoSize := k_NoTree_NoSize,
      k_NoTree_NoTree := k_NoTree_NoTree,
      k_NoTree_NoArgs := k_NoTree_NoArgs,
      k_NoTree_NoCode := k_NoTree_NoCode,
      k_NoTree_NoSteps := k_NoTree_NoSteps,
      k_NoTree_Late := k_NoTree_Late,
      k_NoTree_NoPiece := k_NoTree_NoPiece,
      k_NoTree_NoSet := k_NoTree_NoSet,
      k_NoTree_NoCover := k_NoTree_NoCover,
      k_NoTree_NoParts := k_NoTree_NoParts,
      k_NoTree_NoName := k_NoTree_NoName,
      k_NoTree_Taken := k_NoTree_Taken,
      k_NoTree_Fault := k_NoTree_Fault,
      k_NoTree_Broken := k_NoTree_Broken,
      k_NoArgs_NoSize := k_NoArgs_NoSize,
      k_NoArgs_NoTree := k_NoArgs_NoTree,
      k_NoArgs_NoArgs := k_NoArgs_NoArgs,
      k_NoArgs_NoCode := k_NoArgs_NoCode,
      k_NoArgs_NoSteps := k_NoArgs_NoSteps,
      k_NoArgs_Late := k_NoArgs_Late,
      k_NoArgs_NoPiece := k_NoArgs_NoPiece,
      k_NoArgs_NoSet := k_NoArgs_NoSet,
      k_NoArgs_NoCover := k_NoArgs_NoCover,
      k_NoArgs_NoParts := k_NoArgs_NoParts,
      k_NoArgs_NoName := k_NoArgs_NoName,
      k_NoArgs_Taken := k_NoArgs_Taken,
      k_NoArgs_Fault := k_NoArgs_Fault,
      k_NoArgs_Broken := k_NoArgs_Broken,
      k_NoSize_ValueError := k_NoSize_ValueError,
      k_NoTree_ValueError := k_NoTree_ValueError,
      k_NoArgs_ValueError := k_NoArgs_ValueError,
      n_len := PySem.W.mg_none_of X G z_len,
      n_isinstance := PySem.W.mg_none_of X G z_isinstance,
      n_int := PySem.W.mg_none_of X G z_int,
      n_bool := PySem.W.mg_none_of X G z_bool,
      n_str := PySem.W.mg_none_of X G z_str,
      n_tuple := PySem.W.mg_none_of X G z_tuple,
      n_list := PySem.W.mg_none_of X G z_list,
      n_range := PySem.W.mg_none_of X G z_range,
      n_all := PySem.W.mg_none_of X G z_all,
      n_ValueError := PySem.W.mg_none_of X G z_ValueError }
  exact ⟨_, fun s v => .of_eq rfl, fun base _ _ => chain T⟩
theorem walk {l : PySem.W.OpenLaw} {q : Program} {loose : List Str} {XP : (Str → Option Value) → Heap → Prop} {YP : World → Heap → Prop} {d : DefRec} {K : Params → PySem.W.Frag} (hn : l.most = some 63) (hdf : d.params.defaults = [])
    (hY : ∀ (w : World) (h : Heap), YP w h → (K w.params).In h)
    (F : ∀ (w : World) (mg : Str → Option Value) (fa : Addr) (h : Heap), (K w.params).In h → h.Ns mainGlobals mg → mg d.name = some (.ref fa) →
      ∃ fd : FuncData, (∀ (s : Shared) (u : Value), BindsTo s fd ⟨[u], []⟩ [("_law_script", u)]) ∧ ∀ base : Heap, (K w.params).In base → base.Ns mainGlobals mg → FnOk l.prog w (K w.params) mg base CX0 13 fa fd ["_law_script"] (spLaw (K w.params))) :
    PySem.W.WalkO q loose XP YP l.row.toRowW d [] (fun f vs => PySem.call f vs) :=
  L2.walk_of (n := 63) (k := 13) (x := "_law_script") (CX := fun _ => CX0) (sp := fun w => spLaw (K w.params)) hn (by decide) hdf ⟨rfl, by decide, by decide⟩ hY F (fun _ _ a ns hl hO hS => ⟨a, ns, rfl, scr_of hO hS, fun _ => rfl⟩) fun _ _ _ _ _ z => z
end My
open PySem PySem.W PyProof.Rows
set_option maxRecDepth 100000 in
set_option maxHeartbeats 0 in
theorem PySem.Challenge.cw_piecelay_k04_trees_refused_holds : PySem.Challenge.rw_piecelay_k04_trees_refused.Holds := by
  w_on; o_law
  refine holds_open (q := My.view) (loose := My.loose) (Xt := My.xt) (XP := XL My.view []) (Yf := Hook.obs (kHook My.k0.heap_1 My.kas My.kas_ok)) (Ya := Hook.val (kHook My.k0.heap_1 My.kas My.kas_ok)) (YP := Hook.says (kHook My.k0.heap_1 My.kas My.kas_ok)) (N := My.NN) My.left (Hook.of (kHook My.k0.heap_1 My.kas My.kas_ok)) (Hook.keeps (kHook My.k0.heap_1 My.kas My.kas_ok)) (fun s e => xl_of s (Bool.and_eq_true_iff.mp e).1) XL.keeps (by rfl) (by rfl) (by rfl) (fun s e => recFacts_of (Bool.and_eq_true_iff.mp e).2) (by rfl) (by first | assumption | decide +kernel) (by decide +kernel) ⟨rfl, rfl, rfl, rfl, rfl, by decide +kernel⟩ ?hw ?hc
  case hw => w_witness2
  k_fill
  refine My.walk (l := PySem.Challenge.rw_piecelay_k04_trees_refused) rfl rfl (fun w h Y => PySem.W.kIn_of Y) ?F
  case F =>
    intro w mg fa h KX G hmg
    refine' My.all_mk KX G hmg ?a1 ?l1 ?c1 ?k1 ?a2 ?l2 ?c2 ?k2 ?a3 ?l3 ?c3 ?k3 ?a4 ?l4 ?c4 ?k4 ?a5 ?l5 ?c5 ?k5 ?a6 ?l6 ?c6 ?k6 ?a7 ?l7 ?c7 ?k7 ?a8 ?l8 ?c8 ?k8 ?a9 ?l9 ?c9 ?k9 ?e9 ?a10 ?l10 ?c10 ?k10 ?a11 ?l11 ?c11 ?k11 ?a12 ?l12 ?c12 ?k12 ?a13 ?l13 ?c13 ?k13 ?a14 ?l14 ?c14 ?k14 ?a15 ?l15 ?c15 ?k15 ?a16 ?l16 ?c16 ?k16 ?a17 ?l17 ?c17 ?k17 ?a18 ?l18 ?c18 ?k18 ?a19 ?l19 ?c19 ?k19 ?a20 ?l20 ?c20 ?k20 ?g_MOST_PARTS ?g_MOST_DEEP ?g_MANY_ARGS ?g_MOST_SIZE ?g_MOST_IN_LEAF ?t_MOST_IN_LEAF ?g_TREES_IN_BRANCH ?t_TREES_IN_BRANCH ?g_PieceError ?g_NoSize ?g_NoTree ?g_NoArgs ?g_NoCode ?g_NoSteps ?g_Late ?g_NoPiece ?g_NoSet ?g_NoCover ?g_NoParts ?g_NoName ?g_Taken ?g_Fault ?g_Broken ?r_NoSize ?x_NoSize ?r_NoTree ?x_NoTree ?r_NoArgs ?x_NoArgs ?e_NoSize_PieceError ?e_NoTree_PieceError ?e_NoArgs_PieceError ?k_NoSize_NoSize ?k_NoSize_NoTree ?k_NoSize_NoArgs ?k_NoSize_NoCode ?k_NoSize_NoSteps ?k_NoSize_Late ?k_NoSize_NoPiece ?k_NoSize_NoSet ?k_NoSize_NoCover ?k_NoSize_NoParts ?k_NoSize_NoName ?k_NoSize_Taken ?k_NoSize_Fault ?k_NoSize_Broken ?k_NoTree_NoSize ?k_NoTree_NoTree ?k_NoTree_NoArgs ?k_NoTree_NoCode ?k_NoTree_NoSteps ?k_NoTree_Late ?k_NoTree_NoPiece ?k_NoTree_NoSet ?k_NoTree_NoCover ?k_NoTree_NoParts ?k_NoTree_NoName ?k_NoTree_Taken ?k_NoTree_Fault ?k_NoTree_Broken ?k_NoArgs_NoSize ?k_NoArgs_NoTree ?k_NoArgs_NoArgs ?k_NoArgs_NoCode ?k_NoArgs_NoSteps ?k_NoArgs_Late ?k_NoArgs_NoPiece ?k_NoArgs_NoSet ?k_NoArgs_NoCover ?k_NoArgs_NoParts ?k_NoArgs_NoName ?k_NoArgs_Taken ?k_NoArgs_Fault ?k_NoArgs_Broken ?k_NoSize_ValueError ?k_NoTree_ValueError ?k_NoArgs_ValueError ?z_len ?z_isinstance ?z_int ?z_bool ?z_str ?z_tuple ?z_list ?z_range ?z_all ?z_ValueError
    (case a1 => k_is)
    (case l1 => k_is)
    (case c1 => k_is)
    (case k1 => k_is)
    (case a2 => k_is)
    (case l2 => k_is)
    (case c2 => k_is)
    (case k2 => k_is)
    (case a3 => k_is)
    (case l3 => k_is)
    (case c3 => k_is)
    (case k3 => k_is)
    (case a4 => k_is)
    (case l4 => k_is)
    (case c4 => k_is)
    (case k4 => k_is)
    (case a5 => k_is)
    (case l5 => k_is)
    (case c5 => k_is)
    (case k5 => k_is)
    (case a6 => k_is)
    (case l6 => k_is)
    (case c6 => k_is)
    (case k6 => k_is)
    (case a7 => k_is)
    (case l7 => k_is)
    (case c7 => k_is)
    (case k7 => k_is)
    (case a8 => k_is)
    (case l8 => k_is)
    (case c8 => k_is)
    (case k8 => k_is)
    (case a9 => k_is)
    (case l9 => k_is)
    (case c9 => k_is)
    (case k9 => k_is)
    (case e9 => k_is)
    (case a10 => k_is)
    (case l10 => k_is)
    (case c10 => k_is)
    (case k10 => k_is)
    (case a11 => k_is)
    (case l11 => k_is)
    (case c11 => k_is)
    (case k11 => k_is)
    (case a12 => k_is)
    (case l12 => k_is)
    (case c12 => k_is)
    (case k12 => k_is)
    (case a13 => k_is)
    (case l13 => k_is)
    (case c13 => k_is)
    (case k13 => k_is)
    (case a14 => k_is)
    (case l14 => k_is)
    (case c14 => k_is)
    (case k14 => k_is)
    (case a15 => k_is)
    (case l15 => k_is)
    (case c15 => k_is)
    (case k15 => k_is)
    (case a16 => k_is)
    (case l16 => k_is)
    (case c16 => k_is)
    (case k16 => k_is)
    (case a17 => k_is)
    (case l17 => k_is)
    (case c17 => k_is)
    (case k17 => k_is)
    (case a18 => k_is)
    (case l18 => k_is)
    (case c18 => k_is)
    (case k18 => k_is)
    (case a19 => k_is)
    (case l19 => k_is)
    (case c19 => k_is)
    (case k19 => k_is)
    (case a20 => k_is)
    (case l20 => k_is)
    (case c20 => k_is)
    (case k20 => k_is)
    (case g_MOST_PARTS => k_is)
    (case g_MOST_DEEP => k_is)
    (case g_MANY_ARGS => k_is)
    (case g_MOST_SIZE => k_is)
    (case g_MOST_IN_LEAF => k_is)
    (case t_MOST_IN_LEAF => first | rfl | decide +kernel)
    (case g_TREES_IN_BRANCH => k_is)
    (case t_TREES_IN_BRANCH => first | rfl | decide +kernel)
    (case g_PieceError => k_is)
    (case g_NoSize => k_is)
    (case g_NoTree => k_is)
    (case g_NoArgs => k_is)
    (case g_NoCode => k_is)
    (case g_NoSteps => k_is)
    (case g_Late => k_is)
    (case g_NoPiece => k_is)
    (case g_NoSet => k_is)
    (case g_NoCover => k_is)
    (case g_NoParts => k_is)
    (case g_NoName => k_is)
    (case g_Taken => k_is)
    (case g_Fault => k_is)
    (case g_Broken => k_is)
    (case r_NoSize => first | rfl | kernel_rfl | decide +kernel)
    (case x_NoSize => refine ⟨?_, ?_, ?_, ?_, ?_, ?_, ?_, ?_⟩ <;> (first | rfl | kernel_rfl | decide +kernel))
    (case r_NoTree => first | rfl | kernel_rfl | decide +kernel)
    (case x_NoTree => refine ⟨?_, ?_, ?_, ?_, ?_, ?_, ?_, ?_⟩ <;> (first | rfl | kernel_rfl | decide +kernel))
    (case r_NoArgs => first | rfl | kernel_rfl | decide +kernel)
    (case x_NoArgs => refine ⟨?_, ?_, ?_, ?_, ?_, ?_, ?_, ?_⟩ <;> (first | rfl | kernel_rfl | decide +kernel))
    (case e_NoSize_PieceError => first | rfl | kernel_rfl | decide +kernel)
    (case e_NoTree_PieceError => first | rfl | kernel_rfl | decide +kernel)
    (case e_NoArgs_PieceError => first | rfl | kernel_rfl | decide +kernel)
    (case k_NoSize_NoSize => first | rfl | kernel_rfl | decide +kernel)
    (case k_NoSize_NoTree => first | rfl | kernel_rfl | decide +kernel)
    (case k_NoSize_NoArgs => first | rfl | kernel_rfl | decide +kernel)
    (case k_NoSize_NoCode => first | rfl | kernel_rfl | decide +kernel)
    (case k_NoSize_NoSteps => first | rfl | kernel_rfl | decide +kernel)
    (case k_NoSize_Late => first | rfl | kernel_rfl | decide +kernel)
    (case k_NoSize_NoPiece => first | rfl | kernel_rfl | decide +kernel)
    (case k_NoSize_NoSet => first | rfl | kernel_rfl | decide +kernel)
    (case k_NoSize_NoCover => first | rfl | kernel_rfl | decide +kernel)
    (case k_NoSize_NoParts => first | rfl | kernel_rfl | decide +kernel)
    (case k_NoSize_NoName => first | rfl | kernel_rfl | decide +kernel)
    (case k_NoSize_Taken => first | rfl | kernel_rfl | decide +kernel)
    (case k_NoSize_Fault => first | rfl | kernel_rfl | decide +kernel)
    (case k_NoSize_Broken => first | rfl | kernel_rfl | decide +kernel)
    (case k_NoTree_NoSize => first | rfl | kernel_rfl | decide +kernel)
    (case k_NoTree_NoTree => first | rfl | kernel_rfl | decide +kernel)
    (case k_NoTree_NoArgs => first | rfl | kernel_rfl | decide +kernel)
    (case k_NoTree_NoCode => first | rfl | kernel_rfl | decide +kernel)
    (case k_NoTree_NoSteps => first | rfl | kernel_rfl | decide +kernel)
    (case k_NoTree_Late => first | rfl | kernel_rfl | decide +kernel)
    (case k_NoTree_NoPiece => first | rfl | kernel_rfl | decide +kernel)
    (case k_NoTree_NoSet => first | rfl | kernel_rfl | decide +kernel)
    (case k_NoTree_NoCover => first | rfl | kernel_rfl | decide +kernel)
    (case k_NoTree_NoParts => first | rfl | kernel_rfl | decide +kernel)
    (case k_NoTree_NoName => first | rfl | kernel_rfl | decide +kernel)
    (case k_NoTree_Taken => first | rfl | kernel_rfl | decide +kernel)
    (case k_NoTree_Fault => first | rfl | kernel_rfl | decide +kernel)
    (case k_NoTree_Broken => first | rfl | kernel_rfl | decide +kernel)
    (case k_NoArgs_NoSize => first | rfl | kernel_rfl | decide +kernel)
    (case k_NoArgs_NoTree => first | rfl | kernel_rfl | decide +kernel)
    (case k_NoArgs_NoArgs => first | rfl | kernel_rfl | decide +kernel)
    (case k_NoArgs_NoCode => first | rfl | kernel_rfl | decide +kernel)
    (case k_NoArgs_NoSteps => first | rfl | kernel_rfl | decide +kernel)
    (case k_NoArgs_Late => first | rfl | kernel_rfl | decide +kernel)
    (case k_NoArgs_NoPiece => first | rfl | kernel_rfl | decide +kernel)
    (case k_NoArgs_NoSet => first | rfl | kernel_rfl | decide +kernel)
    (case k_NoArgs_NoCover => first | rfl | kernel_rfl | decide +kernel)
    (case k_NoArgs_NoParts => first | rfl | kernel_rfl | decide +kernel)
    (case k_NoArgs_NoName => first | rfl | kernel_rfl | decide +kernel)
    (case k_NoArgs_Taken => first | rfl | kernel_rfl | decide +kernel)
    (case k_NoArgs_Fault => first | rfl | kernel_rfl | decide +kernel)
    (case k_NoArgs_Broken => first | rfl | kernel_rfl | decide +kernel)
    (case k_NoSize_ValueError => first | rfl | kernel_rfl | decide +kernel)
    (case k_NoTree_ValueError => first | rfl | kernel_rfl | decide +kernel)
    (case k_NoArgs_ValueError => first | rfl | kernel_rfl | decide +kernel)
    (case z_len => k_is)
    (case z_isinstance => k_is)
    (case z_int => k_is)
    (case z_bool => k_is)
    (case z_str => k_is)
    (case z_tuple => k_is)
    (case z_list => k_is)
    (case z_range => k_is)
    (case z_all => k_is)
    (case z_ValueError => k_is)
#print axioms PySem.Challenge.cw_piecelay_k04_trees_refused_holds
