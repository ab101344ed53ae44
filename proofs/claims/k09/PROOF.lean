import PyProof.Rows.All
import Wide.All
import OpenK.AllK
import Wide.FinOn
import Lean
import PyProof.EqAt
import PyProof.EqKinds
import PyProof.TupleCall
import PyProof.NeKinds
import KE.KTab
import KE.KTops
import PyProof.FString5
import PyProof.ListRange
import KE.KRevIter
import PyProof.Rows.SumAny
import PyProof.Rows.SetFrom
import KE.KRevSl
import KE.KTryMore
import PyProof.ExcAttrAll.ValueError
import PyProof.Rows.CountFlat
import PyProof.ExcInit
import PyProof.InstStoreFacts
import PyProof.Draws
import PyProof.EnumMake
import PySem.Challenge.RW_piecelay_k09_pieces
section
set_option Elab.async false
set_option linter.all false
set_option maxRecDepth 100000
/-! THE HAND LAYER, for ints, bools, texts, own classes, LISTS and tuples (index, slices, in, append, pop ..), calls, loops. Paste it whole ahead of your own text; what your proof does not reach may be deleted. -/
namespace L2
open PySem PySem.Spec PyProof.Rows

/-- a key: an int or a str -/
abbrev Key := Sum Int Str
def keyIs : Key → Value → Bool
  | .inl k, v => Value.isInt k v
  | .inr x, v => Value.isStrOf x v
def keyH (w : World) : Key → Int
  | .inl k => hashInt k
  | .inr x => hashStr w x
theorem keyIs_shape : ∀ {k : Key} {v : Value}, keyIs k v = true → (∃ i t, k = Sum.inl i ∧ v = Value.int i t) ∨ (∃ x t, k = Sum.inr x ∧ v = Value.str x t)
  | .inl i, v, h => by
    obtain ⟨t, e⟩ := Value.isInt_shape (k := i) (v := v) h
    exact .inl ⟨i, t, rfl, e⟩
  | .inr x, v, h => by
    obtain ⟨t, e⟩ := Value.isStrOf_shape (x := x) (v := v) h
    exact .inr ⟨x, t, rfl, e⟩
theorem key_ll (a b : Int) : decide ((Sum.inl a : Key) = Sum.inl b) = (a == b) := by
  by_cases e : a = b
  · subst e; simp
  · have h : ¬ (Sum.inl a : Key) = Sum.inl b := fun q => e (Sum.inl.inj q)
    rw [decide_eq_false h]
    exact (beq_eq_false_iff_ne.mpr e).symm
theorem key_rr (a b : Str) : decide ((Sum.inr a : Key) = Sum.inr b) = decide (a = b) := by
  by_cases e : a = b
  · subst e; simp
  · have h : ¬ (Sum.inr a : Key) = Sum.inr b := fun q => e (Sum.inr.inj q)
    rw [decide_eq_false h, decide_eq_false e]
theorem key_lr (a : Int) (b : Str) : decide ((Sum.inl a : Key) = Sum.inr b) = false := decide_eq_false (fun q => nomatch q)
theorem key_rl (a : Str) (b : Int) : decide ((Sum.inr a : Key) = Sum.inl b) = false := decide_eq_false (fun q => nomatch q)

def mixKind (prog : Program) (w : World) : PySem.KeyKind prog w Key where
  is := keyIs
  hash := keyH w
  inj := fun v a b ha hb => by
    rcases keyIs_shape ha with ⟨i, t, rfl, rfl⟩ | ⟨x, t, rfl, rfl⟩
    · rcases keyIs_shape hb with ⟨j, u, rfl, e⟩ | ⟨y, u, rfl, e⟩
      · injection e with e1 _; rw [e1]
      · exact nomatch e
    · rcases keyIs_shape hb with ⟨j, u, rfl, e⟩ | ⟨y, u, rfl, e⟩
      · exact nomatch e
      · injection e with e1 _; rw [e1]
  byValue := fun k v h => by
    rcases keyIs_shape h with ⟨i, t, rfl, rfl⟩ | ⟨x, t, rfl, rfl⟩ <;> rfl
  pyHash := fun hv h => by
    rcases keyIs_shape hv with ⟨i, t, rfl, rfl⟩ | ⟨x, t, rfl, rfl⟩
    · exact wpAny_pyHash_int h
    · exact wpAny_pyHash_str h
  eqBool := fun hu hv h => by
    rcases keyIs_shape hu with ⟨i, t, rfl, rfl⟩ | ⟨x, t, rfl, rfl⟩
    · rcases keyIs_shape hv with ⟨j, u, rfl, rfl⟩ | ⟨y, u, rfl, rfl⟩
      · rw [key_ll] at h; exact wpAny_eqBool_int h
      · rw [key_lr] at h; exact SeqAt.EqAt.int_str i t y u _ _ _ _ h
    · rcases keyIs_shape hv with ⟨j, u, rfl, rfl⟩ | ⟨y, u, rfl, rfl⟩
      · rw [key_rl] at h; exact SeqAt.EqAt.str_int x t j u _ _ _ _ h
      · rw [key_rr] at h; exact wpAny_eqBool_str h
  «strs» := fun k x t v h => by
    rcases keyIs_shape h with ⟨i, u, rfl, e⟩ | ⟨y, u, rfl, e⟩
    · exact nomatch e
    · injection e with e1 _
      subst e1
      cases v <;> rfl

end L2

namespace L2
open PySem PySem.Spec PyProof.Rows

/-- a value, without the heap -/
inductive V where
  | non | bl (b : Bool) | int (i : Int) | str (x : Str) | byt (b : Array UInt8) | flt (b : UInt64) | ref (a : Addr) | ty (n : String)
  deriving DecidableEq

def RelV : V → Value → Prop
  | .non, u => u = Value.none
  | .bl b, u => u = Value.bool b
  | .int i, u => ∃ t, u = Value.int i t
  | .str x, u => ∃ t, u = Value.str x t
  | .byt b, u => ∃ t, u = Value.bytes b t
  | .flt b, u => ∃ t, u = Value.float b t
  | .ref a, u => u = Value.ref a
  | .ty n, u => u = Value.type n

abbrev Vals : List V → List Value → Prop := Paired RelV
theorem Vals.length {xs : List V} {us : List Value} (r : Vals xs us) : xs.length = us.length := Paired.length r
theorem Vals.get : ∀ {xs : List V} {us : List Value} {i : Nat} {x : V}, Vals xs us → xs[i]? = some x → ∃ u, us[i]? = some u ∧ RelV x u
  | _, _, _, _, .nil, e => by simp at e
  | _, _, 0, _, .cons r _, e => by simp at e; subst e; exact ⟨_, rfl, r⟩
  | _, _, i + 1, x, .cons _ t, e => by
    obtain ⟨u, h1, h2⟩ := Vals.get (i := i) (x := x) t (by simpa using e)
    exact ⟨u, by simpa using h1, h2⟩
theorem Vals.set {x : V} {u : Value} (r : RelV x u) : ∀ {xs : List V} {us : List Value} (i : Nat), Vals xs us → Vals (xs.set i x) (us.set i u)
  | _, _, _, .nil => .nil
  | _, _, 0, .cons _ t => .cons r t
  | _, _, i + 1, .cons q t => .cons q (Vals.set r i t)
theorem Vals.append : ∀ {xs ys : List V} {us ws : List Value}, Vals xs us → Vals ys ws → Vals (xs ++ ys) (us ++ ws)
  | _, _, _, _, .nil, s => s
  | _, _, _, _, .cons r t, s => .cons r (Vals.append t s)
theorem Vals.take : ∀ {xs : List V} {us : List Value} (n : Nat), Vals xs us → Vals (xs.take n) (us.take n)
  | _, _, 0, _ => .nil
  | _, _, _ + 1, .nil => .nil
  | _, _, n + 1, .cons r t => .cons r (Vals.take n t)
theorem Vals.drop : ∀ {xs : List V} {us : List Value} (n : Nat), Vals xs us → Vals (xs.drop n) (us.drop n)
  | _, _, 0, r => r
  | _, _, _ + 1, .nil => .nil
  | _, _, n + 1, .cons _ t => Vals.drop n t

def RelO : Option V → Option Value → Prop
  | some v, some u => RelV v u
  | none, none => True
  | _, _ => False
def KV {κ : Type} : List (κ × V) → List (κ × Value) → Prop := Paired fun (p : κ × V) (q : κ × Value) => p.1 = q.1 ∧ RelV p.2 q.2

/-- a key of a dict (00_mix): an int or a text -/
def kV : Key → V
  | .inl i => .int i
  | .inr x => .str x

/-- what stands at a tracked address -/
inductive HO where
  /-- a list -/
  | lst (xs : List V)
  /-- a tuple (never changes) -/
  | tup (xs : List V)
  /-- a dict whose keys are ints and texts; one whose keys are tuples of ints and texts (the empty one is both) -/
  | dK (kvs : List (Key × V)) | dT (kvs : List (List Key × V))
  /-- a set of ints: its members, its size -/
  | set (S : Int → Bool) (n : Nat)
  /-- an instance of the class at C, its dict at dx, its attributes -/
  | ins (C dx : Addr) (fs : List (Str × V))
  /-- the dict of the instance at x -/
  | own (x : Addr)
  /-- the dict of an exception -/
  | xd (fs : List (Str × V))
  /-- a bound method, f of x -/
  | met (f x : Addr)
  /-- a range object lo, lo + 1, .. below hi -/
  | rng (lo hi : Int)
  /-- a thing that is known to the object (the script; a dict while a loop walks it): read, never written while it is so -/
  | frz (o : Obj) (u : HO)
  /-- a code object's table -/
  | tbl (ps : Array Value)
  /-- any other thing, by what is true of its one object (a def of one's own: SetO a S n := HO.ext fun h => ..) -/
  | ext (φ : Heap → Prop)

abbrev Hp := Addr → Option HO
def upd (H : Hp) (a : Addr) (o : HO) : Hp := fun b => if b = a then some o else H b
theorem upd_same {H : Hp} {a : Addr} {o : HO} : upd H a o a = some o := by unfold upd; rw [if_pos rfl]
theorem upd_ne {H : Hp} {a b : Addr} {o : HO} (h : b ≠ a) : upd H a o b = H b := by unfold upd; rw [if_neg h]
theorem ne_of_none {H : Hp} {a b : Addr} {o : HO} (h : H a = some o) (h' : H b = none) : a ≠ b := by
  intro e; subst e; rw [h] at h'; cases h'

section
variable (P : Program) (w : World)
def ObjOk (H : Hp) (h : Heap) (a : Addr) : HO → Prop
  | .lst xs => xs.length ≤ sizeLine ∧ ∃ (its : List Value) (n : Nat), Vals xs its ∧ h.get? a = some { cls := .type "list", data := .seq its.toArray n }
  | .tup xs => xs.length ≤ sizeLine ∧ ∃ its : List Value, Vals xs its ∧ IsTup h a its.toArray
  | .dK kvs => kvs.length ≤ sizeLine ∧ (a == sysModules) = false ∧ ∃ vs, KV kvs vs ∧ h.DictOf (mixKind P w) a vs
  | .dT kvs => kvs.length ≤ sizeLine ∧ (a == sysModules) = false ∧ ∃ xs : List (List Key × Addr × Value),
      Paired (fun (p : List Key × V) (q : List Key × Addr × Value) => p.1 = q.1 ∧ H q.2.1 = some (.tup (p.1.map kV)) ∧ RelV p.2 q.2.2) kvs xs ∧
      ∃ o es ep, h.get? a = some o ∧ o.ExactDict ∧ o.data = .dict es ep ∧ es.toList = xs.map (entryOfKey (tupleKind (mixKind P w))) ∧ (xs.map (·.1)).Nodup
  | .set S n => h.SetOf (intKind P w) a S n
  | .ins C dx fs => H dx = some (.own a) ∧ fs.length ≤ 1000 ∧ dx ≠ a ∧ h.get? a = some (PySem.W.instObj C dx) ∧
      ∃ mA, h.Ns1 dx mA ∧ (∀ f, RelO (fs.lookup f) (mA f)) ∧ PySem.Within mA (fs.map (·.1))
  | .own _ => ∃ o, h.get? a = some o
  | .xd fs => ∃ mA, h.Ns1 a mA ∧ ∀ f, RelO (fs.lookup f) (mA f)
  | .rng lo hi => ∃ t u v, h.get? a = some { cls := .type "range", data := .fields #[.int lo t, .int hi u, .int 1 v] }
  | .frz o u => h.get? a = some o ∧ ObjOk H h a u
  | .tbl ps => h.get? a = some { cls := .none, data := .fields ps }
  | .met f x => h.get? a = some (PySem.W.methodObj (.ref f) (.ref x))
  | .ext φ => φ h ∧ (∃ o, h.get? a = some o) ∧ ∀ h1 h2 : Heap, φ h1 → (∀ o, h1.get? a = some o → h2.get? a = some o) → φ h2
/-- the abstract heap is held -/
def HOk (H : Hp) (h : Heap) : Prop := ∀ a o, H a = some o → ObjOk P w H h a o
end

section
variable {P : Program} {w : World} {H H' : Hp} {h h' : Heap} {a : Addr} {o : HO}
theorem ObjOk.lt (x : ObjOk P w H h a o) : a < h.objs.size := by
  cases o with
  | lst xs => obtain ⟨_, _, _, _, e⟩ := x; exact Heap.lt_size e
  | tup xs => obtain ⟨_, _, _, p⟩ := x; exact p.lt
  | dK kvs => obtain ⟨_, _, _, _, o, _, _, e, _⟩ := x; exact Heap.lt_size e
  | dT kvs => obtain ⟨_, _, _, _, o, _, _, e, _⟩ := x; exact Heap.lt_size e
  | set S n => obtain ⟨o, _, _, _, e, _⟩ := x; exact Heap.lt_size e
  | ins C dx fs => obtain ⟨_, _, _, e, _⟩ := x; exact Heap.lt_size e
  | own y => obtain ⟨_, e⟩ := x; exact Heap.lt_size e
  | xd fs => obtain ⟨_, ⟨_, _, _, e, _⟩, _⟩ := x; exact Heap.lt_size e
  | rng lo hi => obtain ⟨_, _, _, e⟩ := x; exact Heap.lt_size e
  | frz ob u => obtain ⟨e, _⟩ := x; exact Heap.lt_size e
  | tbl ps => exact Heap.lt_size (show h.get? a = some _ from x)
  | met f y => exact Heap.lt_size (show h.get? a = some _ from x)
  | ext φ => obtain ⟨_, ⟨_, e⟩, _⟩ := x; exact Heap.lt_size e
theorem Paired.mapP {α β : Type} {F G : α → β → Prop} : ∀ {l₁ : List α} {l₂ : List β}, Paired F l₁ l₂ → (∀ a b, F a b → G a b) → Paired G l₁ l₂
  | _, _, .nil, _ => .nil
  | _, _, .cons r t, f => .cons (f _ _ r) (Paired.mapP t f)
/-- what an object's description leans on: its own object, its own dict, the tuples -/
theorem ObjOk.stay (x : ObjOk P w H h a o) (k : ∀ b u, (b = a ∨ H b = some (.own a)) → h.get? b = some u → h'.get? b = some u)
    (ho : ∀ b, H b = some (.own a) → H' b = some (.own a)) (ht : ∀ b xs, H b = some (.tup xs) → H' b = some (.tup xs)) : ObjOk P w H' h' a o := by
  induction o with
  | lst xs => obtain ⟨z, its, n, r, e⟩ := x; exact ⟨z, its, n, r, k _ _ (.inl rfl) e⟩
  | tup xs => obtain ⟨z, its, r, ob, e, c⟩ := x; exact ⟨z, its, r, ob, k _ _ (.inl rfl) e, c⟩
  | dK kvs => obtain ⟨z, y, vs, r, ob, es, ep, e, c⟩ := x; exact ⟨z, y, vs, r, ob, es, ep, k _ _ (.inl rfl) e, c⟩
  | dT kvs =>
    obtain ⟨z, y, xs, r, ob, es, ep, e, c⟩ := x
    exact ⟨z, y, xs, Paired.mapP r fun p q z => ⟨z.1, ht _ _ z.2.1, z.2.2⟩, ob, es, ep, k _ _ (.inl rfl) e, c⟩
  | set S n => obtain ⟨ob, es, ep, t, e, c⟩ := x; exact ⟨ob, es, ep, t, k _ _ (.inl rfl) e, c⟩
  | ins C dx fs =>
    obtain ⟨d, z, ne, e, mA, ⟨od, es, ep, e2, c⟩, r⟩ := x
    exact ⟨ho _ d, z, ne, k _ _ (.inl rfl) e, mA, ⟨od, es, ep, k _ _ (.inr d) e2, c⟩, r⟩
  | own y => obtain ⟨ob, e⟩ := x; exact ⟨ob, k _ _ (.inl rfl) e⟩
  | xd fs => obtain ⟨mA, ⟨od, es, ep, e, c⟩, r⟩ := x; exact ⟨mA, ⟨od, es, ep, k _ _ (.inl rfl) e, c⟩, r⟩
  | rng lo hi => obtain ⟨t, u, v, e⟩ := x; exact ⟨t, u, v, k _ _ (.inl rfl) e⟩
  | frz ob u ih => obtain ⟨e, q⟩ := x; exact ⟨k _ _ (.inl rfl) e, ih q⟩
  | tbl ps =>
    have e : h.get? a = some { cls := .none, data := .fields ps } := x
    show h'.get? a = some { cls := .none, data := .fields ps }
    exact k a _ (.inl rfl) e
  | met f y =>
    have e : h.get? a = some (PySem.W.methodObj (.ref f) (.ref y)) := x
    show h'.get? a = some (PySem.W.methodObj (.ref f) (.ref y))
    exact k a _ (.inl rfl) e
  | ext φ => obtain ⟨p, ⟨o, e⟩, st⟩ := x; exact ⟨st _ _ p fun o q => k _ _ (.inl rfl) q, ⟨o, k _ _ (.inl rfl) e⟩, st⟩
theorem HOk.lt (x : HOk P w H h) (e : H a = some o) : a < h.objs.size := (x a o e).lt
theorem HOk.fresh (x : HOk P w H h) (e : h.objs.size ≤ a) : H a = none := by
  cases q : H a with
  | none => rfl
  | some u => exact absurd (Nat.lt_of_lt_of_le (x.lt q) e) (Nat.lt_irrefl _)
/-- every object of the heap is kept -/
theorem HOk.kept (x : HOk P w H h) (k : ∀ b u, h.get? b = some u → h'.get? b = some u) : HOk P w H h' := fun a o e =>
  (x a o e).stay (fun b u _ q => k b u q) (fun _ q => q) fun _ _ q => q
/-- a new object is laid and tracked -/
theorem HOk.laid (x : HOk P w H h) (k : ∀ b u, h.get? b = some u → h'.get? b = some u) (hp : h.objs.size ≤ a) (new : ObjOk P w (upd H a o) h' a o) : HOk P w (upd H a o) h' := fun b u e => by
  have hn := x.fresh hp
  by_cases hb : b = a
  · subst hb; rw [upd_same] at e; cases e; exact new
  · rw [upd_ne hb] at e
    exact (x b u e).stay (fun c v _ q => k c v q) (fun c q => by rw [upd_ne (ne_of_none q hn)]; exact q) fun c xs q => by rw [upd_ne (ne_of_none q hn)]; exact q
end

/-- what may be read as u: it is u, or a known u -/
def Rd (H : Hp) (a : Addr) (u : HO) : Prop := H a = some u ∨ ∃ o, H a = some (.frz o u)
theorem Rd.ok {P : Program} {w : World} {H : Hp} {h : Heap} {a : Addr} {u : HO} (r : Rd H a u) (x : HOk P w H h) : ObjOk P w H h a u := by
  rcases r with r | ⟨o, r⟩
  · exact x a u r
  · obtain ⟨_, q⟩ := x a _ r
    exact q
/-- what may be written -/
def Mut : Option HO → Prop
  | some (.lst _) => True
  | some (.dK _) => True
  | some (.dT _) => True
  | some (.set _ _) => True
  | some (.ins _ _ _) => True
  | some (.ext _) => True
  | _ => False
section
variable {P : Program} {w : World} {H : Hp} {h h' : Heap} {x e : Addr} {o' : HO}
/-- the object at e is changed: x itself, or the dict of the instance x -/
theorem HOk.write (ok : HOk P w H h) (mu : Mut (H x)) (he : e = x ∨ H e = some (.own x)) (k : ∀ b u, b ≠ e → h.get? b = some u → h'.get? b = some u) (heo : ∃ u, h'.get? e = some u)
    (new : ObjOk P w (upd H x o') h' x o') : HOk P w (upd H x o') h' := fun b u q => by
  have nown : ∀ c y, H c = some (.own y) → c ≠ x := fun c y r z => by subst z; rw [r] at mu; exact mu
  have ntup : ∀ c xs, H c = some (.tup xs) → c ≠ x := fun c xs r z => by subst z; rw [r] at mu; exact mu
  by_cases hb : b = x
  · subst hb; rw [upd_same] at q; cases q; exact new
  · rw [upd_ne hb] at q
    by_cases hbe : b = e
    · have q' : H b = some (.own x) := by
        rcases he with z | z
        · exact absurd (hbe.trans z) hb
        · rw [hbe]; exact z
      rw [q] at q'; cases q'
      obtain ⟨v, hv⟩ := heo
      exact ⟨v, by rw [hbe]; exact hv⟩
    · refine (ok b u q).stay (fun c v hc r => k c v ?_ r) (fun c r => by rw [upd_ne (nown c b r)]; exact r) fun c xs r => by rw [upd_ne (ntup c xs r)]; exact r
      rcases hc with rfl | hc
      · exact hbe
      · rintro rfl
        rcases he with z | z
        · exact nown c b hc z
        · rw [hc] at z; cases z; exact hb rfl
end

/-! ### kept unless tracked; of the frames at fs (the callers') the slots may change (an exception that passes writes there); of the records at ex (iterators) nothing is said -/
structure Un (fs ex : List Addr) (H H' : Hp) (h h' : Heap) : Prop where
  keep : ∀ b o, h.get? b = some o → H b = none → b ∉ fs → b ∉ ex → h'.get? b = some o
  slot : ∀ b o, h.get? b = some o → H b = none → b ∈ fs → b ∉ ex → ∃ sl, h'.get? b = some { o with slots := sl }
  free : ∀ b o, h.get? b = some o → H b = none → b ∉ ex → H' b = none
  there : ∀ b o, h.get? b = some o → b ∉ ex → ∃ o', h'.get? b = some o'
  tups : ∀ b xs, H b = some (.tup xs) → H' b = some (.tup xs)
  frzs : ∀ b o u, H b = some (.frz o u) → H' b = some (.frz o u)
  tbls : ∀ b ps, H b = some (.tbl ps) → ∃ more, H' b = some (.tbl (ps ++ more))
section
variable {fs fs' ex ex' : List Addr} {H H1 H2 : Hp} {h h1 h2 h' : Heap} {a x e : Addr} {o : HO}
theorem Un.any (u : Un fs ex H H1 h h1) {b : Addr} {ob : Obj} (q : h.get? b = some ob) (n : H b = none) (hx : b ∉ ex) : ∃ sl, h1.get? b = some { ob with slots := sl } := by
  by_cases hb : b ∈ fs
  · exact u.slot b ob q n hb hx
  · exact ⟨ob.slots, u.keep b ob q n hb hx⟩
theorem Un.kept (k : ∀ b u, h.get? b = some u → h'.get? b = some u) : Un fs ex H H h h' :=
  ⟨fun b ob q _ _ _ => k b ob q, fun b ob q _ _ _ => ⟨ob.slots, k b ob q⟩, fun _ _ _ n _ => n, fun b ob q _ => ⟨ob, k b ob q⟩, fun _ _ q => q, fun _ _ _ q => q, fun _ ps q => ⟨#[], by rw [q]; simp⟩⟩
theorem Un.refl : Un fs ex H H h h := Un.kept fun _ _ q => q
theorem Un.laid (k : ∀ b u, h.get? b = some u → h'.get? b = some u) (hp : h.objs.size ≤ a) (hn : H a = none) : Un fs ex H (upd H a o) h h' where
  keep := fun b u q _ _ _ => k b u q
  slot := fun b u q _ _ _ => ⟨u.slots, k b u q⟩
  free := fun b u q n _ => by rw [upd_ne (Nat.ne_of_lt (Nat.lt_of_lt_of_le (Heap.lt_size q) hp))]; exact n
  there := fun b u q _ => ⟨u, k b u q⟩
  tups := fun b xs q => by rw [upd_ne (ne_of_none q hn)]; exact q
  frzs := fun b u xs q => by rw [upd_ne (ne_of_none q hn)]; exact q
  tbls := fun b ps q => ⟨#[], by rw [upd_ne (ne_of_none q hn), q]; simp⟩
theorem Un.write (mu : Mut (H x)) (he : e = x ∨ H e = some (.own x)) (k : ∀ b u, b ≠ e → h.get? b = some u → h'.get? b = some u) (heo : ∃ u, h'.get? e = some u) : Un fs ex H (upd H x o) h h' := by
  have hx : ∀ b, H b = none → b ≠ x := fun b n z => by subst z; rw [n] at mu; exact mu
  have hb : ∀ b, H b = none → b ≠ e := fun b n z => by
    subst z
    rcases he with r | r
    · exact hx b n r
    · rw [n] at r; cases r
  have hm : ∀ b u, H b = some u → ¬ Mut (some u) → b ≠ x := fun b u q nm z => by subst z; rw [q] at mu; exact nm mu
  refine ⟨fun b u q n _ _ => k b u (hb b n) q, fun b u q n _ _ => ⟨u.slots, k b u (hb b n) q⟩, fun b u q n _ => by rw [upd_ne (hx b n)]; exact n, fun b u q _ => ?_,
    fun b xs q => by rw [upd_ne (hm b _ q fun z => z)]; exact q, fun b u xs q => by rw [upd_ne (hm b _ q fun z => z)]; exact q, fun b ps q => ⟨#[], by rw [upd_ne (hm b _ q fun z => z), q]; simp⟩⟩
  by_cases hbe : b = e
  · subst hbe; exact heo
  · exact ⟨u, k b u hbe q⟩
end

/-! ### the heap without what is tracked -/
def trk (h : Heap) (H : Hp) : List Addr := (List.range h.objs.size).filter fun a => (H a).isSome
def hidT (h : Heap) (H : Hp) : Heap := PySem.W.hideAll h (trk h H)
theorem hidT_size (h : Heap) (H : Hp) : (hidT h H).objs.size = h.objs.size := PySem.W.hideAll_size _ _
theorem hidT_get {h : Heap} {H : Hp} {b : Addr} {o : Obj} (e : h.get? b = some o) (n : H b = none) : (hidT h H).get? b = some o :=
  PySem.W.hideAll_get _ e fun hm => by
    have q : (H b).isSome = true := (List.mem_filter.mp hm).2
    rw [n] at q; simp at q
theorem of_hidT {h : Heap} {H : Hp} {b : Addr} {o : Obj} (e : (hidT h H).get? b = some o) : h.get? b = some o ∧ H b = none := by
  have e' : h.get? b = some o := PySem.W.of_hideAll (trk h H) e
  refine ⟨e', ?_⟩
  cases q : H b with
  | none => rfl
  | some x =>
    have hm : b ∈ trk h H := List.mem_filter.mpr ⟨List.mem_range.mpr (Heap.lt_size e'), by simp [q]⟩
    have z : (hidT h H).get? b = none := PySem.W.hideAll_none (trk h H) hm
    rw [z] at e; cases e

/-! ### OpenK's ledger, filled with every new object but one -/
end L2

namespace L2
open PySem PySem.Spec PyProof.Rows

/-- the module's facts, over the base: the heap at the law's entry without what is tracked there -/
structure Mod (K : PySem.W.Frag) (mg : Str → Option Value) (base : Heap) : Prop where
  kin : K.In base
  glob : base.Ns mainGlobals mg
  blt : ∃ mb, base.Ns builtinsNs mb ∧ ∀ x : Str, x ≠ "__name__" → mb x = bootBuiltins x
  nolimit : base.NoLimit

/-- the context: a def's body (or a comprehension's block) running. base: fixed through the whole law; s₀, H₀: the entry; outer: the frames whose slots others may change (a def's callers); stack: all frames that run;
   ex: iterators that were made ahead of the entry and are walked here (a comprehension's); fn: the names whose cells were made at the entry (a def: all; a comprehension's block: its own); calm: not within an except suite; pn: pins that every state bears; xe: what is wanted of an exception that leaves the code -/
structure Cx where
  prog : Program
  w : World
  K : PySem.W.Frag
  mg : Str → Option Value
  base : Heap
  A : Around
  N : List Str
  s₀ : Shared
  H₀ : Hp
  env : Env
  outer : List Env
  stack : List Env
  ex : List Addr
  fn : Str → Bool
  calm : Bool
  pn : List (Addr × Obj)
  xe : Value → Shared → Prop
/-- the callers' frames -/
def frs (l : List Env) : List Addr := l.filterMap (·.frame)
abbrev Cx.fs (X : Cx) : List Addr := frs X.outer

def Vis (sc : Scope) (x : Str) : Prop := sc.names.lookup x = some .local ∨ sc.names.lookup x = some .cell ∨ sc.names.lookup x = some .free
def Loc (sc : Scope) (x : Str) : Prop := sc.names.lookup x = some .local ∨ sc.names.lookup x = some .cell
def Look (env : Env) (h : Heap) (m : Str → Option Value) (x : Str) (u : Value) : Prop :=
  (env.kindOf x = some .local ∧ m x = some u) ∨ ((env.kindOf x = some .cell ∨ env.kindOf x = some .free) ∧ ∃ c, env.cells.lookup x = some c ∧ h.IsCell c (some u))

structure Cx.Ok (X : Cx) : Prop where
  mod : Mod X.K X.mg X.base
  kind : X.env.scope.kind = .function
  glob : X.env.globals = mainGlobals
  blt : X.env.builtins = builtinsNs
  above : X.s₀.heap.objs.size ≤ X.env.locals
  inj : ∀ x y c, X.env.cells.lookup x = some c → X.env.cells.lookup y = some c → x = y
  has : ∀ x, (X.env.kindOf x = some .cell ∨ X.env.kindOf x = some .free) → ∃ c, X.env.cells.lookup x = some c
  cab : ∀ x c, X.fn x = true → X.env.cells.lookup x = some c → X.s₀.heap.objs.size ≤ c
  hd : X.calm = true → X.A.handled = none
  frames : X.A.frames = some X.stack
  stk : X.stack = X.outer ∨ (X.stack = X.env :: X.outer ∧ X.env.frame = some X.env.locals)
  exf : ∀ b ∈ X.ex, b ≠ X.env.locals ∧ ∀ x c, X.env.cells.lookup x = some c → c ≠ b
  bs : ∀ b o, X.base.get? b = some o → X.s₀.heap.get? b = some o ∧ X.H₀ b = none
  bsz : X.base.objs.size ≤ X.s₀.heap.objs.size
  noex : ∀ b o, X.base.get? b = some o → b ∉ X.ex
  exfs : ∀ b ∈ X.ex, b ∉ X.fs
  funs : X.s₀.heap.FunFrames X.base X.outer
  frf : ∀ b ∈ X.fs, X.H₀ b = none

structure Inv (X : Cx) (pins : List (Addr × Obj)) (σ : List (Option V)) (H : Hp) (s : Shared) : Prop where
  ok : X.Ok
  os : s.os = X.s₀.os
  bare : AllBare s.gens
  base : Un X.fs X.ex X.H₀ H X.s₀.heap s.heap
  loc : ∃ m, s.heap.Ns X.env.locals m ∧ ∀ (i : Nat) (x : Str) (v : V), X.N[i]? = some x → σ[i]? = some (some v) → Vis X.env.scope x → ∃ u, RelV v u ∧ Look X.env s.heap m x u
  cell : ∀ x c, X.env.cells.lookup x = some c → ∃ v, s.heap.IsCell c v
  free : H X.env.locals = none
  freeC : ∀ x c, X.env.cells.lookup x = some c → H c = none
  pin : ∀ p ∈ X.pn ++ pins, s.heap.get? p.1 = some p.2 ∧ H p.1 = none ∧ p.1 ≠ X.env.locals ∧ p.1 ∉ X.fs ∧ ∀ v, p.2.data ≠ .cell v
  hok : HOk X.prog X.w H s.heap
  len : σ.length = X.N.length

section
variable {X : Cx} {pins : List (Addr × Obj)} {σ : List (Option V)} {H H' : Hp} {s : Shared} {h' : Heap}

theorem Cx.Ok.nofr (ok : X.Ok) {b : Addr} {o : Obj} (e : X.base.get? b = some o) : b ∉ X.fs := fun hb => by
  have := (ok.funs.mem hb).1
  rw [e] at this; cases this
theorem Inv.bs (I : Inv X pins σ H s) : ∀ b o, X.base.get? b = some o → s.heap.get? b = some o ∧ H b = none := fun b o e =>
  ⟨I.base.keep b o (I.ok.bs b o e).1 (I.ok.bs b o e).2 (I.ok.nofr e) (I.ok.noex b o e), I.base.free b o (I.ok.bs b o e).1 (I.ok.bs b o e).2 (I.ok.noex b o e)⟩
theorem Inv.bk (I : Inv X pins σ H s) : ∀ b o, X.base.get? b = some o → s.heap.get? b = some o := fun b o e => (I.bs b o e).1
theorem Inv.mod (I : Inv X pins σ H s) : Mod X.K X.mg X.base := I.ok.mod
theorem Inv.kIn (I : Inv X pins σ H s) : X.K.In s.heap := I.ok.mod.kin.keeps I.bk
theorem Inv.lt (I : Inv X pins σ H s) : X.env.locals < s.heap.objs.size := let ⟨_, hn, _⟩ := I.loc; hn.lt
theorem Inv.sz (I : Inv X pins σ H s) : X.s₀.heap.objs.size ≤ s.heap.objs.size := Nat.le_trans I.ok.above (Nat.le_of_lt I.lt)
theorem Inv.nofs (I : Inv X pins σ H s) {a : Addr} (h : s.heap.objs.size ≤ a) : a ∉ X.fs := fun hb => by
  obtain ⟨_, o, ho, _⟩ := I.ok.funs.mem hb
  exact absurd (Nat.lt_of_lt_of_le (Heap.lt_size ho) (Nat.le_trans I.sz h)) (Nat.lt_irrefl _)
theorem Inv.cne (I : Inv X pins σ H s) : ∀ x c, X.env.cells.lookup x = some c → c ≠ X.env.locals := fun x c e z => by
  obtain ⟨v, o, ho, hd⟩ := I.cell x c e
  obtain ⟨m, ⟨o', es, ep, ho', hd', _⟩, _⟩ := I.loc
  rw [z, ho'] at ho; cases ho; rw [hd'] at hd; cases hd
theorem Inv.funs (I : Inv X pins σ H s) : s.heap.FunFrames X.base X.outer := by
  have all : ∀ (l : List Env), (∀ b ∈ frs l, b ∈ X.fs) → X.s₀.heap.FunFrames X.base l → s.heap.FunFrames X.base l := by
    intro l
    induction l with
    | nil => intro _ _; trivial
    | cons env r ih =>
      intro hs hl
      obtain ⟨hk, ⟨L, o, hf, hn, ho, hd⟩, hr⟩ := hl
      have hL : L ∈ X.fs := hs L (by unfold frs; rw [List.filterMap_cons, hf]; exact List.mem_cons_self)
      obtain ⟨sl, e⟩ := I.base.slot L o ho (I.ok.frf L hL) hL fun z => I.ok.exfs L z hL
      exact ⟨hk, ⟨L, _, hf, hn, e, hd⟩, ih (fun b hb => hs b (by unfold frs; rw [List.filterMap_cons, hf]; exact List.mem_cons_of_mem _ hb)) hr⟩
  exact all X.outer (fun _ hb => hb) I.ok.funs

/-- the frames that run, for a call -/
theorem Inv.stack (I : Inv X pins σ H s) : s.heap.FunFrames X.base X.stack := by
  rcases I.ok.stk with e | ⟨e, hf⟩
  · rw [e]; exact I.funs
  · rw [e]
    obtain ⟨m, hn, _⟩ := I.loc
    refine .cons (by rw [I.ok.kind]; decide) hf hn ?_ I.funs
    exact Heap.get?_none_of_le (Nat.le_trans I.ok.bsz I.ok.above)
theorem Inv.stkSub (I : Inv X pins σ H s) : ∀ b ∈ frs X.stack, b ∈ X.env.locals :: X.fs := fun b hb => by
  rcases I.ok.stk with e | ⟨e, hf⟩
  · rw [e] at hb; exact List.mem_cons_of_mem _ hb
  · rw [e] at hb
    unfold frs at hb
    rw [List.filterMap_cons, hf] at hb
    exact hb
theorem Inv.stkFree (I : Inv X pins σ H s) : ∀ b ∈ frs X.stack, H b = none := fun b hb => by
  rcases List.mem_cons.mp (I.stkSub b hb) with e | hb
  · rw [e]; exact I.free
  · obtain ⟨_, o, ho, _⟩ := I.ok.funs.mem hb
    exact I.base.free b o ho (I.ok.frf b hb) fun z => I.ok.exfs b z hb

/-- THE STEP: the untracked objects but the frame and the records at ch are kept (the callers' frames up to slots), the frame's map is kept, the new abstract heap is held -/
theorem Inv.step {g' : Array GenState} {t' : Nat} {d' : Drawn} {ch : List Addr} (I : Inv X pins σ H s)
    (hch : ∀ b ∈ ch, (b ∈ X.ex ∨ X.s₀.heap.objs.size ≤ b) ∧ b ≠ X.env.locals ∧ (∀ x c, X.env.cells.lookup x = some c → c ≠ b) ∧ ∀ p ∈ X.pn ++ pins, p.1 ≠ b)
    (keep : ∀ b o, b ≠ X.env.locals → b ∉ X.fs → b ∉ ch → s.heap.get? b = some o → H b = none → h'.get? b = some o)
    (slot : ∀ b o, b ≠ X.env.locals → b ∈ X.fs → b ∉ ch → s.heap.get? b = some o → H b = none → ∃ sl, h'.get? b = some { o with slots := sl }) (free : ∀ b o, b ∉ ch → s.heap.get? b = some o → H b = none → H' b = none)
    (there : ∀ b o, b ∉ ch → s.heap.get? b = some o → ∃ o', h'.get? b = some o')
    (tups : ∀ b xs, H b = some (.tup xs) → H' b = some (.tup xs)) (frzs : ∀ b o u, H b = some (.frz o u) → H' b = some (.frz o u)) (tbls : ∀ b ps, H b = some (.tbl ps) → ∃ more, H' b = some (.tbl (ps ++ more)))
    (ns : ∀ m, s.heap.Ns X.env.locals m → h'.Ns X.env.locals m) (hok : HOk X.prog X.w H' h') (hg : AllBare g') :
    Inv X pins σ H' { s with heap := h', gens := g', drawn := d', toks := t' } := by
  have neL : ∀ b o, X.s₀.heap.get? b = some o → b ≠ X.env.locals := fun b o e => Nat.ne_of_lt (Nat.lt_of_lt_of_le (Heap.lt_size e) I.ok.above)
  have neC : ∀ b o, X.s₀.heap.get? b = some o → b ∉ X.ex → b ∉ ch := fun b o e hx hb => by
    rcases (hch b hb).1 with z | z
    · exact hx z
    · exact absurd (Nat.lt_of_lt_of_le (Heap.lt_size e) z) (Nat.lt_irrefl _)
  have cellK : ∀ x c, X.env.cells.lookup x = some c → ∀ v, s.heap.IsCell c v → h'.IsCell c v := fun x c e v ⟨o, ho, hd⟩ => by
    have nch : c ∉ ch := fun z => (hch c z).2.2.1 x c e rfl
    by_cases hc : c ∈ X.fs
    · obtain ⟨sl, q⟩ := slot c o (I.cne x c e) hc nch ho (I.freeC x c e)
      exact ⟨_, q, hd⟩
    · exact ⟨o, keep c o (I.cne x c e) hc nch ho (I.freeC x c e), hd⟩
  refine ⟨I.ok, I.os, hg, ⟨fun b o e n hb hx => ?_, fun b o e n hb hx => ?_, fun b o e n hx => ?_, fun b o e hx => ?_, fun b xs e => tups b xs (I.base.tups b xs e), fun b o xs e => frzs b o xs (I.base.frzs b o xs e), fun b ps e => ?_⟩, ?_, fun x c e => ?_, ?_, fun x c e => ?_, fun p hp => ?_, hok, I.len⟩
  · exact keep b o (neL b o e) hb (neC b o e hx) (I.base.keep b o e n hb hx) (I.base.free b o e n hx)
  · obtain ⟨sl, e1⟩ := I.base.slot b o e n hb hx
    obtain ⟨sl', e2⟩ := slot b _ (neL b o e) hb (neC b o e hx) e1 (I.base.free b o e n hx)
    exact ⟨sl', e2⟩
  · obtain ⟨o', e1⟩ := I.base.there b o e hx
    exact free b o' (neC b o e hx) e1 (I.base.free b o e n hx)
  · obtain ⟨o', e1⟩ := I.base.there b o e hx
    exact there b o' (neC b o e hx) e1
  · obtain ⟨m1, e1⟩ := I.base.tbls b ps e
    obtain ⟨m2, e2⟩ := tbls b _ e1
    exact ⟨m1 ++ m2, by rw [e2, Array.append_assoc]⟩
  · obtain ⟨m, hn, hl⟩ := I.loc
    refine ⟨m, ns m hn, fun i x v e1 e2 e3 => ?_⟩
    obtain ⟨u, r, l⟩ := hl i x v e1 e2 e3
    refine ⟨u, r, ?_⟩
    rcases l with l | ⟨k, c, e, z⟩
    · exact .inl l
    · exact .inr ⟨k, c, e, cellK x c e _ z⟩
  · obtain ⟨v, z⟩ := I.cell x c e
    exact ⟨v, cellK x c e v z⟩
  · obtain ⟨m, ⟨o, _, _, ho, _⟩, _⟩ := I.loc
    exact free _ o (fun z => (hch _ z).2.1 rfl) ho I.free
  · obtain ⟨v, o, ho, hd⟩ := I.cell x c e
    exact free c o (fun z => (hch c z).2.2.1 x c e rfl) ho (I.freeC x c e)
  · obtain ⟨e, n, ne, nf, d⟩ := I.pin p hp
    have nch : p.1 ∉ ch := fun z => (hch p.1 z).2.2.2 p hp rfl
    exact ⟨keep p.1 p.2 ne nf nch e n, free p.1 p.2 nch e n, ne, nf, d⟩
/-- .. where the frame's own object is kept too -/
theorem Inv.un {t' : Nat} (I : Inv X pins σ H s) (u : Un X.fs [] H H' s.heap h') (hok : HOk X.prog X.w H' h') : Inv X pins σ H' { s with heap := h', toks := t' } := by
  obtain ⟨m, ⟨o, es, ep, ho, r⟩, _⟩ := id I.loc
  obtain ⟨sl, hL⟩ := u.any ho I.free (by simp)
  exact I.step (g' := s.gens) (d' := s.drawn) (ch := []) (fun _ z => nomatch z) (fun b o _ hb _ e n => u.keep b o e n hb (by simp)) (fun b o _ hb _ e n => u.slot b o e n hb (by simp)) (fun b o _ e n => u.free b o e n (by simp)) (fun b o _ e => u.there b o e (by simp)) u.tups u.frzs u.tbls (fun m' hm => by
    obtain ⟨o', es', ep', ho', r'⟩ := hm
    rw [ho] at ho'; cases ho'
    exact ⟨_, es', ep', hL, r'⟩) hok I.bare
/-- behind a call (or a comprehension's block): the slots of this frame may have changed too, the records at ch may have turned -/
theorem Inv.call {g' : Array GenState} {t' : Nat} {d' : Drawn} {ch : List Addr} (I : Inv X pins σ H s) (u : Un (frs X.stack) ch H H' s.heap h') (hok : HOk X.prog X.w H' h') (hg : AllBare g')
    (hch : ∀ b ∈ ch, (b ∈ X.ex ∨ X.s₀.heap.objs.size ≤ b) ∧ b ≠ X.env.locals ∧ (∀ x c, X.env.cells.lookup x = some c → c ≠ b) ∧ ∀ p ∈ X.pn ++ pins, p.1 ≠ b) :
    Inv X pins σ H' { s with heap := h', gens := g', drawn := d', toks := t' } := by
  obtain ⟨m, ⟨o, es, ep, ho, r⟩, _⟩ := id I.loc
  obtain ⟨sl, hL⟩ := u.any ho I.free fun z => (hch _ z).2.1 rfl
  exact I.step (ch := ch) hch (fun b o hL hb hc e n => u.keep b o e n (fun z => (List.mem_cons.mp (I.stkSub b z)).elim hL hb) hc) (fun b o _ _ hc e n => u.any e n hc) (fun b o hc e n => u.free b o e n hc) (fun b o hc e => u.there b o e hc) u.tups u.frzs u.tbls (fun m' hm => by
    obtain ⟨o', es', ep', ho', r'⟩ := hm
    rw [ho] at ho'; cases ho'
    exact ⟨_, es', ep', hL, r'⟩) hok hg
/-- an untracked record of ours (an iterator) has turned -/
theorem Inv.turned {t' : Nat} {it : Addr} (I : Inv X pins σ H s) (k : ∀ b o, b ≠ it → s.heap.get? b = some o → h'.get? b = some o) (hn : H it = none) (hL : it ≠ X.env.locals)
    (h1 : it ∈ X.ex ∨ X.s₀.heap.objs.size ≤ it) (h2 : ∀ x c, X.env.cells.lookup x = some c → c ≠ it) (h3 : ∀ p ∈ X.pn ++ pins, p.1 ≠ it) : Inv X pins σ H { s with heap := h', toks := t' } := by
  have nit : ∀ b u, H b = some u → b ≠ it := fun b u e z => by rw [z, hn] at e; cases e
  refine I.step (g' := s.gens) (d' := s.drawn) (ch := [it]) (fun b hb => ?_) (fun b o _ _ hc e _ => k b o (fun z => hc (by simp [z])) e) (fun b o _ _ hc e _ => ⟨o.slots, k b o (fun z => hc (by simp [z])) e⟩) (fun _ _ _ _ n => n)
    (fun b o hc e => ⟨o, k b o (fun z => hc (by simp [z])) e⟩) (fun _ _ e => e) (fun _ _ _ e => e) (fun b ps e => ⟨#[], by rw [e]; simp⟩) (fun m hm => ?_) (fun b u e => ?_) I.bare
  · have e : b = it := by simpa using hb
    subst e
    exact ⟨h1, hL, h2, h3⟩
  · obtain ⟨o, es, ep, ho, r⟩ := hm
    exact ⟨o, es, ep, k _ o (Ne.symm hL) ho, r⟩
  · refine (I.hok b u e).stay (fun c v hc q => k c v ?_ q) (fun _ q => q) fun _ _ q => q
    rcases hc with z | z
    · rw [z]; exact nit b u e
    · exact nit c _ z
theorem Inv.tok (I : Inv X pins σ H s) (t : Nat) : Inv X pins σ H { s with toks := t } := I.un (h' := s.heap) (t' := t) Un.refl I.hok
/-- all objects kept -/
theorem Inv.kept {t' : Nat} (I : Inv X pins σ H s) (k : ∀ b u, s.heap.get? b = some u → h'.get? b = some u) : Inv X pins σ H { s with heap := h', toks := t' } := I.un (Un.kept k) (I.hok.kept k)
/-- a new object laid and tracked -/
theorem Inv.laid {a : Addr} {o : HO} {t' : Nat} (I : Inv X pins σ H s) (k : ∀ b u, s.heap.get? b = some u → h'.get? b = some u) (hp : s.heap.objs.size ≤ a) (new : ObjOk X.prog X.w (upd H a o) h' a o) :
    Inv X pins σ (upd H a o) { s with heap := h', toks := t' } := I.un (Un.laid k hp (I.hok.fresh hp)) (I.hok.laid k hp new)
/-- an object written -/
theorem Inv.write {x e : Addr} {o : HO} {t' : Nat} (I : Inv X pins σ H s) (mu : Mut (H x)) (he : e = x ∨ H e = some (.own x)) (k : ∀ b u, b ≠ e → s.heap.get? b = some u → h'.get? b = some u) (heo : ∃ u, h'.get? e = some u)
    (new : ObjOk X.prog X.w (upd H x o) h' x o) : Inv X pins σ (upd H x o) { s with heap := h', toks := t' } := I.un (Un.write mu he k heo) (I.hok.write mu he k heo new)
theorem Inv.pins_of {pins' : List (Addr × Obj)} (I : Inv X pins σ H s) (h : ∀ p ∈ pins', s.heap.get? p.1 = some p.2 ∧ H p.1 = none ∧ p.1 ≠ X.env.locals ∧ p.1 ∉ X.fs ∧ ∀ v, p.2.data ≠ .cell v) : Inv X pins' σ H s :=
  ⟨I.ok, I.os, I.bare, I.base, I.loc, I.cell, I.free, I.freeC, fun p hp => (List.mem_append.mp hp).elim (fun z => I.pin p (List.mem_append_left _ z)) (h p), I.hok, I.len⟩

theorem nodup_ix {N : List Str} (hN : N.Nodup) {i j : Nat} {x : Str} (a : N[i]? = some x) (b : N[j]? = some x) : i = j := by
  obtain ⟨h1, e1⟩ := List.getElem?_eq_some_iff.mp a
  obtain ⟨h2, e2⟩ := List.getElem?_eq_some_iff.mp b
  exact (List.getElem_inj hN).mp (e1.trans e2.symm)

/-- a name is stored; what changed -/
theorem store_ok2 {M : Model} {A : Around} {E : Value → Shared → Prop} {i : Nat} {x : Str} {v : V} {u : Value} {Q : Unit → Shared → Prop} (I : Inv X pins σ H s) (hN : X.N.Nodup) (hi : X.N[i]? = some x) (hx : Loc X.env.scope x) (r : RelV v u)
    (h : ∀ s', Inv X pins (σ.set i (some v)) H s' → (∃ a, Heap.SameBut a s.heap s'.heap ∧ (a = X.env.locals ∨ X.env.cells.lookup x = some a)) → Q () s') (hf : X.fn x = true ∨ X.env.scope.names.lookup x = some .local := by first | exact .inl rfl | exact .inr rfl | assumption) : wpAny M A (storeName X.env x u) Q E s := by
  obtain ⟨m, hn, hl⟩ := id I.loc
  have hcls : (X.env.scope.kind == .class || (X.env.scope.kind == .module && X.env.locals != X.env.globals)) = false := by rw [I.ok.kind]; rfl
  have hiσ : i < σ.length := by rw [I.len]; exact (List.getElem?_eq_some_iff.mp hi).1
  have cne := I.cne
  have tracked : ∀ {a : Addr} {h' : Heap}, (∃ o, s.heap.get? a = some o ∧ H a = none) → Heap.SameBut a s.heap h' → HOk X.prog X.w H h' := fun {a h'} ha hs b ob e => by
    obtain ⟨_, _, hfree⟩ := ha
    refine (I.hok b ob e).stay (fun c w' hc q => (hs.2 c ?_).trans q) (fun _ q => q) fun _ _ q => q
    rintro rfl
    rcases hc with rfl | hc
    · rw [hfree] at e; cases e
    · rw [hfree] at hc; cases hc
  rcases hx with hk | hk
  · refine wpAny_storeName_local hk hn (fun h' hn' hs => ?_) hcls
    obtain ⟨oL, _, _, hoL, _⟩ := id hn
    refine h _ ⟨I.ok, I.os, I.bare, ⟨fun b o e n hb hx => ?_, fun b o e n hb hx => ?_, I.base.free, fun b o e hx => ?_, I.base.tups, I.base.frzs, I.base.tbls⟩, ⟨_, hn', fun j y v' e1 e2 e3 => ?_⟩, fun y c e => ?_, I.free, I.freeC, fun p hp => ?_, tracked ⟨oL, hoL, I.free⟩ hs, by simpa using I.len⟩ ⟨_, hs, .inl rfl⟩
    · exact (hs.2 b (Nat.ne_of_lt (Nat.lt_of_lt_of_le (Heap.lt_size e) I.ok.above))).trans (I.base.keep b o e n hb hx)
    · obtain ⟨sl, e1⟩ := I.base.slot b o e n hb hx
      exact ⟨sl, (hs.2 b (Nat.ne_of_lt (Nat.lt_of_lt_of_le (Heap.lt_size e) I.ok.above))).trans e1⟩
    · obtain ⟨o', e1⟩ := I.base.there b o e hx
      exact ⟨o', (hs.2 b (Nat.ne_of_lt (Nat.lt_of_lt_of_le (Heap.lt_size e) I.ok.above))).trans e1⟩
    · by_cases hj : j = i
      · subst hj
        rw [hi] at e1; cases e1
        rw [List.getElem?_set_self hiσ] at e2
        cases e2
        exact ⟨u, r, .inl ⟨hk, by simp⟩⟩
      · rw [List.getElem?_set_ne (Ne.symm hj)] at e2
        obtain ⟨u', r', q⟩ := hl j y v' e1 e2 e3
        refine ⟨u', r', ?_⟩
        rcases q with ⟨k, e⟩ | ⟨k, c, e, z⟩
        · refine .inl ⟨k, ?_⟩
          have : y ≠ x := fun e => hj (nodup_ix hN e1 (e ▸ hi))
          simp [this, e]
        · exact .inr ⟨k, c, e, z.sameBut hs (cne y c e)⟩
    · obtain ⟨w', z⟩ := I.cell y c e
      exact ⟨w', z.sameBut hs (cne y c e)⟩
    · obtain ⟨e, n, ne, nf, d⟩ := I.pin p hp
      exact ⟨(hs.2 p.1 ne).trans e, n, ne, nf, d⟩
  · have hfn : X.fn x = true := by
      rcases hf with z | z
      · exact z
      · rw [z] at hk; cases hk
    obtain ⟨c, hc⟩ := I.ok.has x (.inl hk)
    obtain ⟨w', z⟩ := I.cell x c hc
    refine wpAny_storeName_cell I.ok.kind hk hc z (fun h' hc' hs => ?_)
    obtain ⟨oc, hoc, hocd⟩ := id z
    refine h { s with heap := h' } ⟨I.ok, I.os, I.bare, ⟨fun b o e n hb hx => ?_, fun b o e n hb hx => ?_, I.base.free, fun b o e hx => ?_, I.base.tups, I.base.frzs, I.base.tbls⟩, ⟨m, hn.sameBut hs (Ne.symm (cne x c hc)), fun j y v' e1 e2 e3 => ?_⟩, fun y c' e => ?_, I.free, I.freeC, fun p hp => ?_, tracked ⟨oc, hoc, I.freeC x c hc⟩ hs, by simpa using I.len⟩ ⟨c, hs, .inr hc⟩
    · exact (hs.2 b (Nat.ne_of_lt (Nat.lt_of_lt_of_le (Heap.lt_size e) (I.ok.cab x c hfn hc)))).trans (I.base.keep b o e n hb hx)
    · obtain ⟨sl, e1⟩ := I.base.slot b o e n hb hx
      exact ⟨sl, (hs.2 b (Nat.ne_of_lt (Nat.lt_of_lt_of_le (Heap.lt_size e) (I.ok.cab x c hfn hc)))).trans e1⟩
    · obtain ⟨o', e1⟩ := I.base.there b o e hx
      exact ⟨o', (hs.2 b (Nat.ne_of_lt (Nat.lt_of_lt_of_le (Heap.lt_size e) (I.ok.cab x c hfn hc)))).trans e1⟩
    · by_cases hj : j = i
      · subst hj
        rw [hi] at e1; cases e1
        rw [List.getElem?_set_self hiσ] at e2
        cases e2
        exact ⟨u, r, .inr ⟨.inl hk, c, hc, hc'⟩⟩
      · rw [List.getElem?_set_ne (Ne.symm hj)] at e2
        obtain ⟨u', r', q⟩ := hl j y v' e1 e2 e3
        refine ⟨u', r', ?_⟩
        rcases q with q | ⟨k, c', e, z'⟩
        · exact .inl q
        · refine .inr ⟨k, c', e, z'.sameBut hs ?_⟩
          rintro rfl
          exact hj (nodup_ix hN e1 (I.ok.inj _ _ _ e hc ▸ hi))
    · by_cases hcc : c' = c
      · subst hcc; exact ⟨_, hc'⟩
      · obtain ⟨w2, z2⟩ := I.cell y c' e
        exact ⟨w2, z2.sameBut hs hcc⟩
    · obtain ⟨e, n, ne, nf, d⟩ := I.pin p hp
      refine ⟨(hs.2 p.1 ?_).trans e, n, ne, nf, d⟩
      intro q
      rw [q, hoc] at e
      have q' : oc = p.2 := Option.some.inj e
      exact d w' (by rw [← q']; exact hocd)
theorem store_ok {M : Model} {A : Around} {E : Value → Shared → Prop} {i : Nat} {x : Str} {v : V} {u : Value} {Q : Unit → Shared → Prop} (I : Inv X pins σ H s) (hN : X.N.Nodup) (hi : X.N[i]? = some x) (hx : Loc X.env.scope x) (r : RelV v u)
    (h : ∀ s', Inv X pins (σ.set i (some v)) H s' → Q () s') (hf : X.fn x = true ∨ X.env.scope.names.lookup x = some .local := by first | exact .inl rfl | exact .inr rfl | assumption) : wpAny M A (storeName X.env x u) Q E s :=
  store_ok2 I hN hi hx r (fun s' I' _ => h s' I') hf
/-- behind a call or a block, the state as it is -/
theorem Inv.call' {s' : Shared} {ch : List Addr} (I : Inv X pins σ H s) (ho : s'.os = s.os) (u : Un (frs X.stack) ch H H' s.heap s'.heap) (hok : HOk X.prog X.w H' s'.heap) (hg : AllBare s'.gens)
    (hch : ∀ b ∈ ch, (b ∈ X.ex ∨ X.s₀.heap.objs.size ≤ b) ∧ b ≠ X.env.locals ∧ (∀ x c, X.env.cells.lookup x = some c → c ≠ b) ∧ ∀ p ∈ X.pn ++ pins, p.1 ≠ b) : Inv X pins σ H' s' := by
  obtain ⟨h', g', d', t', o'⟩ := s'
  have e : o' = s.os := ho
  subst e
  exact I.call (g' := g') (t' := t') (d' := d') u hok hg hch
end

/-! ### the judgements -/
/-- an exception: its class, its own dict's address (where it has one), the abstract heap behind it -/
abbrev XK := Value → Option Addr → Hp → Prop
abbrev St := List (Option V)
abbrev VK := V → Hp → Prop
/-- an expression's reading; a test's; an argument list's -/
abbrev TE := St → Hp → VK → Prop
abbrev TT := St → Hp → (Bool → Hp → Prop) → Prop
abbrev TA := St → Hp → (List V → Hp → Prop) → Prop
/-- what is wanted behind a statement -/
structure Ends where
  nx : St → Hp → Prop
  rt : VK
  bk : St → Hp → Prop := fun _ _ => False
  ct : St → Hp → Prop := fun _ _ => False
abbrev TS := Ends → St → Hp → Prop

def EP (X : Cx) (pins : List (Addr × Obj)) (σ : St) (Q : VK) (u : Value) (s' : Shared) : Prop := ∃ v H', Inv X pins σ H' s' ∧ RelV v u ∧ Q v H'
def TP (X : Cx) (pins : List (Addr × Obj)) (σ : St) (Q : Bool → Hp → Prop) (b : Bool) (s' : Shared) : Prop := ∃ H', Inv X pins σ H' s' ∧ Q b H'
def AP (X : Cx) (pins : List (Addr × Obj)) (σ : St) (Q : List V → Hp → Prop) (us : List Value) (s' : Shared) : Prop := ∃ vs H', Inv X pins σ H' s' ∧ Vals vs us ∧ Q vs H'
def SP (X : Cx) (pins : List (Addr × Obj)) (D : Ends) (f : Flow) (s' : Shared) : Prop :=
  match f with
  | .next => ∃ σ' H', Inv X pins σ' H' s' ∧ D.nx σ' H'
  | .brk => ∃ σ' H', Inv X pins σ' H' s' ∧ D.bk σ' H'
  | .cont => ∃ σ' H', Inv X pins σ' H' s' ∧ D.ct σ' H'
  | .ret u => ∃ v σ' H', Inv X pins σ' H' s' ∧ RelV v u ∧ D.rt v H'

def PE (X : Cx) (e : Expr) (t : TE) : Prop :=
  ∀ (pins : List (Addr × Obj)) (s : Shared) (σ : St) (H : Hp) (Q : VK), Inv X pins σ H s → t σ H Q → wpAny (model X.prog X.w) X.A (eval e X.env) (EP X pins σ Q) X.xe s
def PT (X : Cx) (e : Expr) (t : TT) : Prop :=
  ∀ (pins : List (Addr × Obj)) (s : Shared) (σ : St) (H : Hp) (Q : Bool → Hp → Prop), Inv X pins σ H s → t σ H Q → wpAny (model X.prog X.w) X.A (isTrue e X.env (eval e X.env)) (TP X pins σ Q) X.xe s
/-- a test whatever its 'whole' is (and, or) -/
def PW (X : Cx) (e : Expr) (t : TT) : Prop :=
  ∀ (whole : Sem Value) (pins : List (Addr × Obj)) (s : Shared) (σ : St) (H : Hp) (Q : Bool → Hp → Prop), Inv X pins σ H s → t σ H Q → wpAny (model X.prog X.w) X.A (isTrue e X.env whole) (TP X pins σ Q) X.xe s
theorem PW.pt {X : Cx} {e : Expr} {t : TT} (h : PW X e t) : PT X e t := h _
/-- an argument list (no star), from the left -/
def PA (X : Cx) (es : List Expr) (t : TA) : Prop :=
  ∀ (pos : Pos) (pins : List (Addr × Obj)) (s : Shared) (σ : St) (H : Hp) (Q : List V → Hp → Prop), Inv X pins σ H s → t σ H Q → wpAny (model X.prog X.w) X.A (spliced (backTo pos (starEach es X.env))) (AP X pins σ Q) X.xe s
def PS (X : Cx) (st : Stmt) (t : TS) : Prop :=
  ∀ (pins : List (Addr × Obj)) (s : Shared) (σ : St) (H : Hp) (D : Ends), Inv X pins σ H s → t D σ H → wpAny (model X.prog X.w) X.A (exec st X.env) (SP X pins D) X.xe s
def PSs (X : Cx) (st : List Stmt) (t : TS) : Prop :=
  ∀ (pins : List (Addr × Obj)) (s : Shared) (σ : St) (H : Hp) (D : Ends), Inv X pins σ H s → t D σ H → wpAny (model X.prog X.w) X.A (execs st X.env) (SP X pins D) X.xe s
/-- weaken the end -/
theorem thn {α : Type} {t : Sem α} {Q Q' : α → Shared → Prop} {M : Model} {A : Around} {E : Value → Shared → Prop} {s : Shared} (h : wpAny M A t Q E s) (hQ : ∀ a s, Q a s → Q' a s) : wpAny M A t Q' E s := wpAny_mono h hQ fun _ _ x => x
end L2

namespace L2
open PySem PySem.Spec PyProof.Rows
section
variable {X : Cx}

/-! ### names and constants -/
def tVar (i : Nat) : TE := fun σ H Q => ∃ v, σ[i]? = some (some v) ∧ Q v H
def tC (v : V) : TE := fun _ H Q => Q v H
theorem pe_var {i : Nat} {x : Str} {pos : Pos} (hN : X.N[i]? = some x) (hv : Vis X.env.scope x) (hd : (x == ("__debug__" : Str)) = false := by decide) (hcd : (x == ("__classdict__" : Str)) = false := by decide) : PE X (.Name x pos) (tVar i) := by
  intro pins s σ H Q I h
  obtain ⟨v, e, h⟩ := h
  obtain ⟨m, hn, hl⟩ := I.loc
  obtain ⟨u, r, l⟩ := hl i x v hN e hv
  have fin : EP X pins σ Q u s := ⟨v, H, I, r, h⟩
  rcases l with ⟨hk, hm⟩ | ⟨hk, c, hc, hcell⟩
  · exact wpAny_Name (wpAny_loadName_local I.ok.kind hk hn hm fin) hd
  · rcases hk with hk | hk
    · exact wpAny_Name (wpAny_loadName_cell I.ok.kind hk hc hcell fin) hd
    · exact wpAny_Name (wpAny_loadName_free I.ok.kind hk hc hcell fin hcd) hd
theorem pe_int {i j pos} : PE X (.Constant (.int i) j pos) (tC (.int i)) := fun _ _ _ H _ I h => wpAny_Constant_int ⟨.int i, H, I.tok _, ⟨_, rfl⟩, h⟩
theorem pe_bl {b j pos} : PE X (.Constant (.bool b) j pos) (tC (.bl b)) := fun _ _ _ H _ I h => Constant_bool ⟨.bl b, H, I, rfl, h⟩
theorem pe_non {j pos} : PE X (.Constant .none j pos) (tC .non) := fun _ _ _ H _ I h => Constant_none ⟨.non, H, I, rfl, h⟩
theorem pe_str {x j pos} : PE X (.Constant (.str x) j pos) (tC (.str x)) := fun _ _ _ H _ I h => Calls.Constant_str ⟨.str x, H, I.tok _, ⟨_, rfl⟩, h⟩

/-- a global name of the def -/
def Gl (X : Cx) (x : Str) : Prop := X.env.kindOf x = some .globalImplicit
theorem ld_glob {E : Value → Shared → Prop} {pins : List (Addr × Obj)} {s : Shared} {σ : St} {H : Hp} {x : Str} {u : Value} {pos : Pos} {Q : Value → Shared → Prop} (I : Inv X pins σ H s) (hg : Gl X x) (hm : X.mg x = some u) (h : Q u s)
    (hd : (x == ("__debug__" : Str)) = false := by decide) : wpAny (model X.prog X.w) X.A (eval (.Name x pos) X.env) Q E s :=
  Calls.Name_function_global I.ok.kind hg (Calls.loadGlobal_global (by rw [I.ok.glob]; exact I.mod.glob.keeps I.bk) hm h) hd
theorem ld_blt {E : Value → Shared → Prop} {pins : List (Addr × Obj)} {s : Shared} {σ : St} {H : Hp} {x : Str} {u : Value} {pos : Pos} {Q : Value → Shared → Prop} (I : Inv X pins σ H s) (hg : Gl X x) (hm : X.mg x = none) (hv : bootBuiltins x = some u) (h : Q u s)
    (hn : x ≠ "__name__" := by decide) (hd : (x == ("__debug__" : Str)) = false := by decide) : wpAny (model X.prog X.w) X.A (eval (.Name x pos) X.env) Q E s := by
  obtain ⟨mb, h1, h2⟩ := I.mod.blt
  exact Calls.Name_function_global I.ok.kind hg (Calls.loadGlobal_builtin (by rw [I.ok.glob]; exact I.mod.glob.keeps I.bk) hm (by rw [I.ok.blt]; exact h1.keeps I.bk) ((h2 x hn).trans hv) h) hd
/-- a module's constant, a class, a function, as a value -/
theorem pe_glob {x : Str} {v : V} {u : Value} {pos : Pos} (hg : Gl X x) (hm : X.mg x = some u) (r : RelV v u) (hd : (x == ("__debug__" : Str)) = false := by decide) : PE X (.Name x pos) (tC v) :=
  fun _ _ _ H _ I h => ld_glob I hg hm ⟨v, H, I, r, h⟩ hd
theorem pe_bltn {x : Str} {v : V} {u : Value} {pos : Pos} (hg : Gl X x) (hm : X.mg x = none) (hv : bootBuiltins x = some u) (r : RelV v u) (hn : x ≠ "__name__" := by decide) (hd : (x == ("__debug__" : Str)) = false := by decide) : PE X (.Name x pos) (tC v) :=
  fun _ _ _ H _ I h => ld_blt I hg hm hv ⟨v, H, I, r, h⟩ hn hd

/-! ### arithmetic -/
variable {a b : Expr} {ta tb : TE} {pos : Pos}

/-! ### comparisons -/

/-! ### and, or, not -/
variable {tA tB' : TT} {rest : List Expr}
def tAnd (t u : TT) : TT := fun σ H Q => t σ H fun c H1 => if c = true then u σ H1 Q else Q false H1
def tOr (t u : TT) : TT := fun σ H Q => t σ H fun c H1 => if c = true then Q true H1 else u σ H1 Q
def tNot (t : TT) : TT := fun σ H Q => t σ H fun c H1 => Q (!c) H1
theorem pw_and1 (ha : PT X a tA) : PW X (.BoolOp .And [a] pos) tA := by
  intro wh pins s σ H Q I h
  refine isTrue_and (thn (ha pins s σ H Q I h) fun c s1 e => ?_)
  cases c with
  | true => exact isTrue_and_nil e
  | false => exact e
theorem pw_or1 (ha : PT X a tA) : PW X (.BoolOp .Or [a] pos) tA := by
  intro wh pins s σ H Q I h
  refine isTrue_or (thn (ha pins s σ H Q I h) fun c s1 e => ?_)
  cases c with
  | false => exact isTrue_or_nil e
  | true => exact e
theorem pw_and (ha : PT X a tA) (hb : PW X (.BoolOp .And (b :: rest) pos) tB') : PW X (.BoolOp .And (a :: b :: rest) pos) (tAnd tA tB') := by
  intro wh pins s σ H Q I h
  refine isTrue_and (thn (ha pins s σ H _ I h) fun c s1 ⟨H1, I1, q1⟩ => ?_)
  cases c with
  | true => exact hb wh pins s1 σ H1 Q I1 q1
  | false => exact ⟨H1, I1, q1⟩
theorem pw_or (ha : PT X a tA) (hb : PW X (.BoolOp .Or (b :: rest) pos) tB') : PW X (.BoolOp .Or (a :: b :: rest) pos) (tOr tA tB') := by
  intro wh pins s σ H Q I h
  refine isTrue_or (thn (ha pins s σ H _ I h) fun c s1 ⟨H1, I1, q1⟩ => ?_)
  cases c with
  | true => exact ⟨H1, I1, q1⟩
  | false => exact hb wh pins s1 σ H1 Q I1 q1
theorem pt_not (ha : PT X a tA) : PT X (.UnaryOp .Not a pos) (tNot tA) := by
  intro pins s σ H Q I h
  exact isTrue_not (ha pins s σ H (fun c H1 => Q (!c) H1) I h)
/-- .. as values (bools) -/
def tAndV (ta tb : TE) : TE := fun σ H Q => ta σ H fun x H1 => ∃ c, x = .bl c ∧ if c = true then tb σ H1 Q else Q (.bl false) H1
def tOrV (ta tb : TE) : TE := fun σ H Q => ta σ H fun x H1 => ∃ c, x = .bl c ∧ if c = true then Q (.bl true) H1 else tb σ H1 Q
def tNotV (ta : TE) : TE := fun σ H Q => ta σ H fun x H1 => ∃ c, x = .bl c ∧ Q (.bl (!c)) H1
theorem pe_one {op} {t : TE} (h : PE X a t) : PE X (.BoolOp op [a] pos) t := fun pins s σ H Q I hw => BoolOp_one (h pins s σ H Q I hw)
theorem pe_and (ha : PE X a ta) (hb : PE X (.BoolOp .And (b :: rest) pos) tb) : PE X (.BoolOp .And (a :: b :: rest) pos) (tAndV ta tb) := by
  intro pins s σ H Q I h
  refine BoolOp_and (thn (ha pins s σ H _ I h) fun v s1 ⟨x, H1, I1, r1, q1⟩ => ?_)
  obtain ⟨c, rfl, q1⟩ := q1
  cases r1
  refine wpAny_truthy_bool ?_
  cases c with
  | true => exact hb pins s1 σ H1 Q I1 q1
  | false => exact ⟨.bl false, H1, I1, rfl, q1⟩
theorem pe_or (ha : PE X a ta) (hb : PE X (.BoolOp .Or (b :: rest) pos) tb) : PE X (.BoolOp .Or (a :: b :: rest) pos) (tOrV ta tb) := by
  intro pins s σ H Q I h
  refine BoolOp_or (thn (ha pins s σ H _ I h) fun v s1 ⟨x, H1, I1, r1, q1⟩ => ?_)
  obtain ⟨c, rfl, q1⟩ := q1
  cases r1
  refine wpAny_truthy_bool ?_
  cases c with
  | false => exact hb pins s1 σ H1 Q I1 q1
  | true => exact ⟨.bl true, H1, I1, rfl, q1⟩
theorem pe_not (ha : PE X a ta) : PE X (.UnaryOp .Not a pos) (tNotV ta) := by
  intro pins s σ H Q I h
  refine UnaryOp_ (thn (ha pins s σ H _ I h) fun v s1 ⟨x, H1, I1, r1, q1⟩ => ?_)
  obtain ⟨c, rfl, q1⟩ := q1
  cases r1
  exact not_of (wpAny_truthy_bool ⟨.bl (!c), H1, I1, rfl, q1⟩)
end
end L2

namespace L2
open PySem PySem.Spec PyProof.Rows

/-! ### a list, a tuple that is read: tracked, frozen, or an object of the module -/
def SqL (K : PySem.W.Frag) (H : Hp) (a : Addr) (xs : List V) : Prop :=
  Rd H a (.lst xs) ∨
    ∃ (o : Obj) (its : Array Value) (n : Nat), K.lookup a = some o ∧ o.cls = .type "list" ∧ o.dict = none ∧ o.data = .seq its n ∧ its.size ≤ sizeLine ∧ Vals xs its.toList
def SqT (K : PySem.W.Frag) (H : Hp) (a : Addr) (xs : List V) : Prop :=
  Rd H a (.tup xs) ∨
    ∃ (o : Obj) (its : Array Value) (n : Nat), K.lookup a = some o ∧ o.cls = .type "tuple" ∧ o.data = .seq its n ∧ its.size ≤ sizeLine ∧ Vals xs its.toList
def absV : Value → Option V
  | .none => some .non
  | .bool b => some (.bl b)
  | .int i _ => some (.int i)
  | .str x _ => some (.str x)
  | .bytes b _ => some (.byt b)
  | .float b _ => some (.flt b)
  | .ref a => some (.ref a)
  | .type n => some (.ty n)
  | _ => none
theorem RelV.abs {x : V} {u : Value} (r : RelV x u) : absV u = some x := by
  cases x with
  | non => cases r; rfl
  | bl _ => cases r; rfl
  | int _ => obtain ⟨t, rfl⟩ := r; rfl
  | str _ => obtain ⟨t, rfl⟩ := r; rfl
  | byt _ => obtain ⟨t, rfl⟩ := r; rfl
  | flt _ => obtain ⟨t, rfl⟩ := r; rfl
  | ref _ => cases r; rfl
  | ty _ => cases r; rfl
theorem RelV.inj {x y : V} {u : Value} (r : RelV x u) (q : RelV y u) : x = y := Option.some.inj (r.abs.symm.trans q.abs)
theorem Vals.inj : ∀ {xs ys : List V} {us : List Value}, Vals xs us → Vals ys us → xs = ys
  | _, _, _, .nil, .nil => rfl
  | _, _, _, .cons r t, .cons r' t' => by rw [r.inj r', Vals.inj t t']
section
variable {X : Cx} {pins : List (Addr × Obj)} {σ : St} {H : Hp} {s : Shared} {a : Addr} {xs ys : List V}
theorem SqL.of {K : PySem.W.Frag} (h : H a = some (.lst xs)) : SqL K H a xs := .inl (.inl h)
theorem SqT.of {K : PySem.W.Frag} (h : H a = some (.tup xs)) : SqT K H a xs := .inl (.inl h)
theorem Inv.list (I : Inv X pins σ H s) (h : SqL X.K H a xs) : ∃ its : List Value, Vals xs its ∧ PlainL s.heap a its.toArray ∧ xs.length ≤ sizeLine := by
  rcases h with h | ⟨o, its, n, hk, hc, hd, hs, hz, r⟩
  · obtain ⟨z, its, n, r, e⟩ := h.ok I.hok
    exact ⟨its, r, ⟨_, n, e, rfl, rfl, rfl⟩, z⟩
  · refine ⟨its.toList, r, ⟨o, n, I.kIn a o hk, hc, hd, by simpa using hs⟩, ?_⟩
    have e := r.length
    simp only [Array.length_toList] at e
    omega
theorem Inv.tuple (I : Inv X pins σ H s) (h : SqT X.K H a xs) : ∃ its : List Value, Vals xs its ∧ IsTup s.heap a its.toArray ∧ xs.length ≤ sizeLine := by
  rcases h with h | ⟨o, its, n, hk, hc, hs, hz, r⟩
  · obtain ⟨z, its, r, p⟩ := h.ok I.hok
    exact ⟨its, r, p, z⟩
  · refine ⟨its.toList, r, ⟨o, I.kIn a o hk, hc, n, by simpa using hs⟩, ?_⟩
    have e := r.length
    simp only [Array.length_toList] at e
    omega
theorem Inv.list_inj (I : Inv X pins σ H s) (h : SqL X.K H a xs) (h' : SqL X.K H a ys) : xs = ys := by
  obtain ⟨its, r, ⟨o, n, e, _, _, d⟩, _⟩ := I.list h
  obtain ⟨its', r', ⟨o', n', e', _, _, d'⟩, _⟩ := I.list h'
  rw [e] at e'; cases e'
  rw [d] at d'
  injection d' with d1 _
  have : its = its' := by simpa using congrArg Array.toList d1
  subst this
  exact r.inj r'
theorem Inv.tuple_inj (I : Inv X pins σ H s) (h : SqT X.K H a xs) (h' : SqT X.K H a ys) : xs = ys := by
  obtain ⟨its, r, ⟨o, e, _, n, d⟩, _⟩ := I.tuple h
  obtain ⟨its', r', ⟨o', e', _, n', d'⟩, _⟩ := I.tuple h'
  rw [e] at e'; cases e'
  rw [d] at d'
  injection d' with d1 _
  have : its = its' := by simpa using congrArg Array.toList d1
  subst this
  exact r.inj r'
end

/-! ### another wish about exceptions -/
abbrev Cx.wish (X : Cx) (E : Value → Shared → Prop) : Cx := { X with xe := E }
/-- no exception leaves -/
abbrev Cx.nox (X : Cx) : Cx := X.wish fun _ _ => False
theorem Cx.Ok.wish {X : Cx} (ok : X.Ok) (E : Value → Shared → Prop) : (X.wish E).Ok :=
  ⟨ok.mod, ok.kind, ok.glob, ok.blt, ok.above, ok.inj, ok.has, ok.cab, ok.hd, ok.frames, ok.stk, ok.exf, ok.bs, ok.bsz, ok.noex, ok.exfs, ok.funs, ok.frf⟩
theorem Cx.Ok.unwish {X : Cx} {E : Value → Shared → Prop} (ok : (X.wish E).Ok) : X.Ok :=
  ⟨ok.mod, ok.kind, ok.glob, ok.blt, ok.above, ok.inj, ok.has, ok.cab, ok.hd, ok.frames, ok.stk, ok.exf, ok.bs, ok.bsz, ok.noex, ok.exfs, ok.funs, ok.frf⟩
section
variable {X : Cx} {pins : List (Addr × Obj)} {σ : St} {H : Hp} {s : Shared} {E : Value → Shared → Prop}
theorem Inv.wish (I : Inv X pins σ H s) (E : Value → Shared → Prop) : Inv (X.wish E) pins σ H s := ⟨I.ok.wish E, I.os, I.bare, I.base, I.loc, I.cell, I.free, I.freeC, I.pin, I.hok, I.len⟩
theorem Inv.unwish (I : Inv (X.wish E) pins σ H s) : Inv X pins σ H s := ⟨I.ok.unwish, I.os, I.bare, I.base, I.loc, I.cell, I.free, I.freeC, I.pin, I.hok, I.len⟩
theorem SP.unwish {D : Ends} {f : Flow} {s' : Shared} (h : SP (X.wish E) pins D f s') : SP X pins D f s' := by
  cases f with
  | next => obtain ⟨σ', H', I, q⟩ := h; exact ⟨σ', H', I.unwish, q⟩
  | brk => obtain ⟨σ', H', I, q⟩ := h; exact ⟨σ', H', I.unwish, q⟩
  | cont => obtain ⟨σ', H', I, q⟩ := h; exact ⟨σ', H', I.unwish, q⟩
  | ret u => obtain ⟨v, σ', H', I, r, q⟩ := h; exact ⟨v, σ', H', I.unwish, r, q⟩
theorem PSs.nox {st : List Stmt} {t : TS} (h : PSs X.nox st t) : PSs X st t := fun pins s σ H D I hw =>
  wpAny_mono (h pins s σ H D (I.wish _) hw) (fun _ _ q => q.unwish) fun _ _ z => False.elim z
end

/-! ### blocks and small statements -/
section
variable {X : Cx} {st : Stmt} {rest : List Stmt} {t u : TS} {e : Expr} {te : TE} {pos : Pos}
def tNext : TS := fun D σ H => D.nx σ H
def tSeq (t u : TS) : TS := fun D σ H => t { D with nx := u D } σ H
theorem pss_nil : PSs X [] tNext := fun _ _ σ H _ I h => wpAny_execs_nil ⟨σ, H, I, h⟩
theorem pss_cons (h1 : PS X st t) (h2 : PSs X rest u) : PSs X (st :: rest) (tSeq t u) := by
  intro pins s σ H D I h
  refine wpAny_execs_cons (thn (h1 pins s σ H { D with nx := u D } I h) fun f s1 q => ?_)
  cases f with
  | next =>
    obtain ⟨σ', H', I', q⟩ := q
    exact h2 pins s1 σ' H' D I' q
  | ret v => exact q
  | brk => exact q
  | cont => exact q
theorem pss_one (h1 : PS X st t) : PSs X [st] t := by
  intro pins s σ H D I h
  refine wpAny_execs_cons (thn (h1 pins s σ H D I h) fun f s1 q => ?_)
  cases f with
  | next => exact wpAny_execs_nil q
  | ret v => exact q
  | brk => exact q
  | cont => exact q
/-- in a def's body nothing is shown -/
theorem Inv.quiet {pins : List (Addr × Obj)} {σ : St} {H : Hp} {s : Shared} (I : Inv X pins σ H s) : interactive X.env = false := by simp [interactive, I.ok.kind]
/-- an expression whose value is dropped -/
def tDrop (te : TE) : TS := fun D σ H => te σ H fun _ H1 => D.nx σ H1
theorem ps_expr (he : PE X e te) (hs : swapsWith e none pos.line X.env = pure false := by rfl) : PS X (.Expr e pos) (tDrop te) := by
  intro pins s σ H D I h
  exact wpAny_Expr_any (thn (he pins s σ H _ I h) fun v s1 ⟨x, H1, I1, r1, q1⟩ => ⟨σ, H1, I1, q1⟩) I.quiet hs
def tRet (te : TE) : TS := fun D σ H => te σ H D.rt
theorem ps_ret (he : PE X e te) : PS X (.Return (some e) pos) (tRet te) := by
  intro pins s σ H D I h
  exact wpAny_Return_some (thn (he pins s σ H _ I h) fun v s1 ⟨x, H1, I1, r1, q1⟩ => ⟨x, σ, H1, I1, r1, q1⟩)
def tIfS (c : TT) (t u : TS) : TS := fun D σ H => c σ H fun b H1 => if b = true then t D σ H1 else u D σ H1
theorem ps_if {c : Expr} {a b : List Stmt} {tc : TT} (hc : PT X c tc) (ha : PSs X a t) (hb : PSs X b u) : PS X (.If c a b pos) (tIfS tc t u) := by
  intro pins s σ H D I h
  refine wpAny_If (thn (hc pins s σ H _ I h) fun d s1 ⟨H1, I1, q1⟩ => ?_)
  cases d with
  | true => exact ha pins s1 σ H1 D I1 q1
  | false => exact hb pins s1 σ H1 D I1 q1
end

/-! ### targets -/
abbrev TG := V → St → Hp → (St → Hp → Prop) → Prop
abbrev TGs := List V → St → Hp → (St → Hp → Prop) → Prop
def PG (X : Cx) (target : Expr) (t : TG) : Prop :=
  ∀ (pins : List (Addr × Obj)) (s : Shared) (σ : St) (H : Hp) (v : V) (u : Value) (Q : St → Hp → Prop), Inv X pins σ H s → RelV v u → t v σ H Q →
    wpAny (model X.prog X.w) X.A (assign target X.env u) (fun _ s' => ∃ σ' H', Inv X pins σ' H' s' ∧ Q σ' H') X.xe s
/-- several targets, one after another -/
def PGs (X : Cx) (ts : List Expr) (t : TGs) : Prop :=
  ∀ (pins : List (Addr × Obj)) (s : Shared) (σ : St) (H : Hp) (vs : List V) (us : List Value) (Q : St → Hp → Prop), Inv X pins σ H s → Vals vs us → t vs σ H Q →
    wpAny (model X.prog X.w) X.A (assignInOrder ((assignEach ts X.env).map (·.2)) us) (fun _ s' => ∃ σ' H', Inv X pins σ' H' s' ∧ Q σ' H') X.xe s
/-- o[i] = v, by values -/
abbrev TSet := V → V → V → Hp → (Hp → Prop) → Prop
def PSet (X : Cx) (t : TSet) : Prop :=
  ∀ (pins : List (Addr × Obj)) (s : Shared) (σ : St) (H : Hp) (o i v : V) (ov iv u : Value) (Q : Hp → Prop), Inv X pins σ H s → RelV o ov → RelV i iv → RelV v u → t o i v H Q →
    wpAny (model X.prog X.w) X.A (setItem ov iv u) (fun _ s' => ∃ H', Inv X pins σ H' s' ∧ Q H') X.xe s
/-- a op= b, by values -/
abbrev TIp := V → V → Hp → VK → Prop
def PIp (X : Cx) (op : Operator) (t : TIp) : Prop :=
  ∀ (pins : List (Addr × Obj)) (s : Shared) (σ : St) (H : Hp) (x y : V) (v u : Value) (Q : VK), Inv X pins σ H s → RelV x v → RelV y u → t x y H Q →
    wpAny (model X.prog X.w) X.A (inplaceOp op v u) (EP X pins σ Q) X.xe s
section
variable {X : Cx} {pos : Pos}
def gName (i : Nat) : TG := fun v σ H Q => Q (σ.set i (some v)) H
theorem pg_name {i : Nat} {x : Str} (hN : X.N.Nodup) (hi : X.N[i]? = some x) (hx : Loc X.env.scope x) (hf : X.fn x = true ∨ X.env.scope.names.lookup x = some .local := by first | exact .inl rfl | exact .inr rfl | assumption) : PG X (.Name x pos) (gName i) := by
  intro pins s σ H v u Q I r h
  exact wpAny_assign_Name (store_ok I hN hi hx r (fun s' I' => ⟨_, H, I', h⟩) hf)
def gNil : TGs := fun vs σ H Q => vs = [] ∧ Q σ H
def gCons (t : TG) (u : TGs) : TGs := fun vs σ H Q => ∃ v r, vs = v :: r ∧ t v σ H fun σ' H' => u r σ' H' Q
theorem pgs_nil : PGs X [] gNil := by
  intro pins s σ H vs us Q I r h
  obtain ⟨e, h⟩ := h
  subst e
  cases r
  exact assignInOrder_nil ⟨σ, H, I, h⟩
theorem pgs_cons {e : Expr} {es : List Expr} {t : TG} {u : TGs} (h1 : PG X e t) (h2 : PGs X es u)
    (hs : (assignEach (e :: es) X.env).map (·.2) = assign e X.env :: (assignEach es X.env).map (·.2) := by rfl) : PGs X (e :: es) (gCons t u) := by
  intro pins s σ H vs us Q I r h
  obtain ⟨v, vr, e1, h⟩ := h
  subst e1
  cases r with
  | cons r rr =>
    rw [hs]
    refine assignInOrder_cons (thn (h1 pins s σ H _ _ _ I r h) fun _ s1 ⟨σ1, H1, I1, q1⟩ => ?_)
    exact h2 pins s1 σ1 H1 _ _ Q I1 rr q1
/-- (a, b, ..) = a tuple of that length -/
def gTup (K : PySem.W.Frag) (n : Nat) (t : TGs) : TG := fun v σ H Q => ∃ a xs, v = .ref a ∧ SqT K H a xs ∧ xs.length = n ∧ t xs σ H Q
theorem pg_tup {es : List Expr} {k : Nat} {t : TGs} {n : Nat} (hc : X.calm = true) (h : PGs X es t)
    (hn : (assignEach es X.env).length = n := by rfl) (hst : (assignEach es X.env).findIdx? (·.1) = none := by rfl) : PG X (.Tuple es k pos) (gTup X.K n t) := by
  intro pins s σ H v u Q I r hw
  obtain ⟨a, xs, e1, hq, hl, hw⟩ := hw
  subst e1
  cases r
  obtain ⟨its, rv, ht, hz⟩ := I.tuple hq
  refine assign_Tuple_tuple (I.ok.hd hc) ht (by simp [hn, ← hl, rv.length]) hst fun h' hx => ?_
  have I1 : Inv X pins σ H { s with heap := h' } := I.kept (t' := s.toks) fun b o e => hx b o (Nat.ne_of_lt (Heap.lt_size e)) e
  exact h pins _ σ H xs _ Q I1 (by simpa using rv) hw
/-- o[i] = .. -/
def gSub (to ti : TE) (t : TSet) : TG := fun v σ H Q => to σ H fun o H1 => ti σ H1 fun i H2 => t o i v H2 fun H3 => Q σ H3
theorem pg_sub {o i : Expr} {to ti : TE} {t : TSet} (ho : PE X o to) (hi : PE X i ti) (hs : PSet X t)
    (ha : ∀ v, assign (.Subscript o i pos) X.env v = (do
      let ov ← holding [v] (eval o X.env)
      let iv ← holding [v, ov] (eval i X.env)
      standAt pos
      holding [v, ov, iv] (setItem ov iv v)
      release [v, ov, iv] []) := by intro _; rfl) : PG X (.Subscript o i pos) (gSub to ti t) := by
  intro pins s σ H v u Q I r h
  rw [ha]
  refine wpAny_bind (wpAny_holding (thn (ho pins s σ H _ I h) fun ov s1 ⟨x, H1, I1, r1, q1⟩ => ?_))
  refine wpAny_bind (wpAny_holding (thn (hi pins s1 σ H1 _ I1 q1) fun iv s2 ⟨y, H2, I2, r2, q2⟩ => ?_))
  refine wpAny_bind (wpAny_standAt (wpAny_bind (wpAny_holding (thn (hs pins s2 σ H2 x y v ov iv u _ I2 r1 r2 r q2) fun _ s3 ⟨H3, I3, q3⟩ => ?_))))
  exact wpAny_release ⟨σ, H3, I3, q3⟩
/-- target = value -/
def tAsg (te : TE) (g : TG) : TS := fun D σ H => te σ H fun x H1 => g x σ H1 D.nx
theorem ps_asg {tg e : Expr} {te : TE} {g : TG} (he : PE X e te) (hg : PG X tg g) (hs : swapsWithSole [tg] e pos.line X.env = pure false := by rfl) (hw : swappedStores [tg] e X.env = pure none := by rfl)
    (h1 : (assignEach [tg] X.env).map (·.2) = [assign tg X.env] := by rfl) : PS X (.Assign [tg] e pos) (tAsg te g) := by
  intro pins s σ H D I h
  refine wpAny_Assign_stores (thn (he pins s σ H _ I h) fun v s1 ⟨x, H1, I1, r1, q1⟩ => ?_) hs hw
  rw [h1]
  exact thn (hg pins s1 σ H1 x v _ I1 r1 q1) fun _ s2 q => q
/-- name = value -/
theorem ps_set {i : Nat} {x : Str} {e : Expr} {te : TE} {pos' : Pos} (hN : X.N.Nodup) (hi : X.N[i]? = some x) (hx : Loc X.env.scope x) (he : PE X e te) (hs : swapsWith e (some (.Name x pos')) pos.line X.env = pure false := by rfl) (hf : X.fn x = true ∨ X.env.scope.names.lookup x = some .local := by first | exact .inl rfl | exact .inr rfl | assumption) :
    PS X (.Assign [.Name x pos'] e pos) (tAsg te (gName i)) := by
  intro pins s σ H D I h
  refine wpAny_Assign_Name (thn (he pins s σ H _ I h) fun v s1 ⟨y, H1, I1, r1, q1⟩ => ?_) hs
  exact store_ok I1 hN hi hx r1 (fun s2 I2 => ⟨_, H1, I2, q1⟩) hf
/-- a, b = x, y with plain local names: stored from the right; the pair itself is not tracked (the opening rows as in PyProof/Rows/TupAssign.lean:23) -/
def tPar (i j : Nat) (ta : TA) : TS := fun D σ H => ta σ H fun vs H1 => ∃ v w, vs = [v, w] ∧ D.nx ((σ.set i (some v)).set j (some w)) H1
theorem ps_par {i j : Nat} {x y : Str} {a b : Expr} {ta : TA} {px py pt : Pos} {kt k2 pt2} (hc : X.calm = true) (hN : X.N.Nodup) (hi : X.N[i]? = some x) (hj : X.N[j]? = some y) (hij : i ≠ j)
    (hx : X.env.scope.names.lookup x = some .local) (hy : X.env.scope.names.lookup y = some .local) (ha : PA X [a, b] ta)
    (hw : swappedStores [.Tuple [.Name x px, .Name y py] kt pt] (.Tuple [a, b] k2 pt2) X.env = pure (some [x, y]))
    (hs : swapsWithSole [.Tuple [.Name x px, .Name y py] kt pt] (.Tuple [a, b] k2 pt2) pos.line X.env = pure false := by rfl) :
    PS X (.Assign [.Tuple [.Name x px, .Name y py] kt pt] (.Tuple [a, b] k2 pt2) pos) (tPar i j ta) := by
  intro pins s σ H D I h
  rw [exec_Assign_arm]
  refine wpAny_bind (wpAny_standAt ?_)
  rw [hs]
  refine wpAny_bind (wpAny_pure ?_)
  rw [if_neg (by decide)]
  refine wpAny_bind (Tuple_ (thn (ha _ pins s σ H _ I h) fun us s1 ⟨vs, H1, I1, r1, q1⟩ => ?_))
  obtain ⟨v, w, e1, q1⟩ := q1
  subst e1
  obtain ⟨u1, u2, rfl, rv, rw'⟩ : ∃ u1 u2, us = [u1, u2] ∧ RelV v u1 ∧ RelV w u2 := by
    cases r1 with
    | cons p q =>
      cases q with
      | cons p' q' =>
        cases q'
        exact ⟨_, _, rfl, p, p'⟩
  refine wpAny_newObj_type ?_ (by show 2 ≤ sizeLine; decide)
  have I2 : Inv X pins σ H1 { s1 with heap := s1.heap.push { cls := .type "tuple", data := .seq [u1, u2].toArray } } := I1.kept (t' := s1.toks) fun b o e => Heap.get?_push_of_some _ e
  rw [hw]
  refine wpAny_bind (wpAny_pure ?_)
  show wpAny (model X.prog X.w) X.A (do rule "assign.swapped-stores"; let items ← unpackItems (.ref s1.heap.objs.size) 2 none; assignInOrder [fun v => bindName X.env y v, fun v => bindName X.env x v] items.reverse; pure Flow.next) _ _ _
  refine wpAny_bind (wpAny_rule (wpAny_bind (unpackItems_tuple (items := #[u1, u2]) (I.ok.hd hc) (IsTup.new s1.heap _) fun h' hx' => ?_)))
  have I3 := I2.kept (h' := h') (t' := s1.toks) fun b o e => hx' b o (Nat.ne_of_lt (Heap.lt_size e)) e
  show wpAny _ _ (assignInOrder [fun v => bindName X.env y v, fun v => bindName X.env x v] [u2, u1] >>= fun _ => pure Flow.next) _ _ _
  refine wpAny_bind (assignInOrder_cons (wpAny_bindName (store_ok I3 hN hj (.inl hy) rw' (fun s2 I4 => ?_) (.inr hy))))
  refine assignInOrder_cons (wpAny_bindName (store_ok I4 hN hi (.inl hx) rv (fun s3 I5 => assignInOrder_nil (wpAny_pure ?_)) (.inr hx)))
  rw [List.set_comm _ _ (Ne.symm hij)] at I5
  exact ⟨_, H1, I5, q1⟩
/-- name op= e -/
def tAug (i : Nat) (te : TE) (ti : TIp) : TS := fun D σ H => ∃ x, σ[i]? = some (some x) ∧ te σ H fun y H1 => ti x y H1 fun z H2 => D.nx (σ.set i (some z)) H2
theorem ps_aug {i : Nat} {x : Str} {e : Expr} {te : TE} {op : Operator} {ti : TIp} {pos' : Pos} (hN : X.N.Nodup) (hi : X.N[i]? = some x) (hx : Loc X.env.scope x) (he : PE X e te) (ho : PIp X op ti) (hf : X.fn x = true ∨ X.env.scope.names.lookup x = some .local := by first | exact .inl rfl | exact .inr rfl | assumption) :
    PS X (.AugAssign (.Name x pos') op e pos) (tAug i te ti) := by
  intro pins s σ H D I h
  obtain ⟨v, e1, h⟩ := h
  obtain ⟨m, hn, hl⟩ := I.loc
  have vis : Vis X.env.scope x := by rcases hx with k | k; exact .inl k; exact .inr (.inl k)
  obtain ⟨u, r, l⟩ := hl i x v hi e1 vis
  refine wpAny_AugAssign_Name ?_
  have go : wpAny (model X.prog X.w) X.A (eval e X.env) (fun w s₂ => wpAny (model X.prog X.w) X.A (inplaceOp op u w) (fun r s₃ => wpAny (model X.prog X.w) X.A (storeName X.env x r) (fun _ => SP X pins D .next) X.xe s₃) X.xe s₂) X.xe s := by
    refine thn (he pins s σ H _ I h) fun w s1 ⟨y, H1, I1, r1, q1⟩ => ?_
    refine thn (ho pins s1 σ H1 v y u w _ I1 r r1 q1) fun z s2 ⟨zv, H2, I2, r2, q2⟩ => ?_
    exact store_ok I2 hN hi hx r2 (fun s3 I3 => ⟨_, H2, I3, q2⟩) hf
  rcases l with ⟨hk, hm⟩ | ⟨hk, c, hc, hcell⟩
  · exact wpAny_loadName_local I.ok.kind hk hn hm go
  · rcases hk with hk | hk
    · exact wpAny_loadName_cell I.ok.kind hk hc hcell go
    · rcases hx with k | k
      · have : X.env.scope.names.lookup x = some .free := hk
        rw [k] at this; cases this
      · have : X.env.scope.names.lookup x = some .free := hk
        rw [k] at this; cases this
/-- o[i] op= e -/
def tAugS (to ti te : TE) (tget : V → V → Hp → VK → Prop) (tip : TIp) (tset : TSet) : TS := fun D σ H => to σ H fun o H1 => ti σ H1 fun i H2 => tget o i H2 fun x H3 => te σ H3 fun y H4 => tip x y H4 fun z H5 => tset o i z H5 fun H6 => D.nx σ H6
/-- o[i], by values -/
def PGet (X : Cx) (t : V → V → Hp → VK → Prop) : Prop :=
  ∀ (pins : List (Addr × Obj)) (s : Shared) (σ : St) (H : Hp) (o i : V) (ov iv : Value) (Q : VK), Inv X pins σ H s → RelV o ov → RelV i iv → t o i H Q →
    wpAny (model X.prog X.w) X.A (getItem ov iv) (EP X pins σ Q) X.xe s
theorem ps_augS {o i e : Expr} {to ti te : TE} {tget : V → V → Hp → VK → Prop} {tip : TIp} {tset : TSet} {op : Operator} {tpos : Pos} (ho : PE X o to) (hi : PE X i ti) (hg : PGet X tget) (he : PE X e te) (hp : PIp X op tip) (hs : PSet X tset)
    (ha : ∀ ov iv new, augStore i ov iv new = (do holding [new, ov, iv] (setItem ov iv new); release [new, ov, iv] []; pure .next) := by intros; rfl) : PS X (.AugAssign (.Subscript o i tpos) op e pos) (tAugS to ti te tget tip tset) := by
  intro pins s σ H D I h
  refine wpAny_AugAssign_SubscriptAny (thn (ho pins s σ H _ I h) fun ov s1 ⟨x1, H1, I1, r1, q1⟩ => ?_) ha
  refine thn (hi pins s1 σ H1 _ I1 q1) fun iv s2 ⟨x2, H2, I2, r2, q2⟩ => ?_
  refine thn (hg pins s2 σ H2 x1 x2 ov iv _ I2 r1 r2 q2) fun old s3 ⟨x3, H3, I3, r3, q3⟩ => ?_
  refine thn (he pins s3 σ H3 _ I3 q3) fun v s4 ⟨x4, H4, I4, r4, q4⟩ => ?_
  refine thn (hp pins s4 σ H4 x3 x4 old v _ I4 r3 r4 q4) fun new s5 ⟨x5, H5, I5, r5, q5⟩ => ?_
  exact thn (hs pins s5 σ H5 x1 x2 x5 ov iv new _ I5 r1 r2 r5 q5) fun _ s6 ⟨H6, I6, q6⟩ => ⟨σ, H6, I6, q6⟩
/-- ints -/
def ipI (f : Int → Int → Int) : TIp := fun x y H Q => ∃ i j, x = .int i ∧ y = .int j ∧ Q (.int (f i j)) H
theorem ip_add : PIp X .Add (ipI fun i j => i + j) := by
  intro pins s σ H x y v u Q I r1 r2 h
  obtain ⟨i, j, e1, e2, q⟩ := h
  subst e1; subst e2
  obtain ⟨t, rfl⟩ := r1
  obtain ⟨t', rfl⟩ := r2
  exact iadd_int ⟨.int _, H, I.tok _, ⟨_, rfl⟩, q⟩
end

/-! ### while -/
section
variable {X : Cx} {pos : Pos}
/-- the invariant W with its measure -/
def tWhile (c : TT) (tb : TS) : TS := fun D σ H => ∃ W : Nat → St → Hp → Prop, (∃ m, W m σ H) ∧ ∀ m σ H, W m σ H →
  c σ H fun b H1 => if b = true then ∃ N : St → Hp → Prop, (∀ σ' H', N σ' H' → ∃ m', m' < m ∧ W m' σ' H') ∧ tb { D with nx := N, ct := N, bk := D.nx } σ H1 else D.nx σ H1
theorem ps_while {c : Expr} {body : List Stmt} {tc : TT} {tb : TS} (hp : PassesOwn (model X.prog X.w) X.A X.env X.xe) (hc : PT X c tc) (hb : PSs X body tb) : PS X (.While c body [] pos) (tWhile tc tb) := by
  intro pins s σ H D I h
  obtain ⟨W, ⟨m0, w0⟩, turn⟩ := h
  refine wpAny_While (codeAny_whileLoop (fun n s' => ∃ σ' H', Inv X pins σ' H' s' ∧ W n σ' H') ?_ m0 ⟨σ, H, I, w0⟩)
  rintro n s1 ⟨σ1, H1, I1, w1⟩
  refine wpAny_passesOwn hp (thn (hc pins s1 σ1 H1 _ I1 (turn n σ1 H1 w1)) fun b s2 ⟨H2, I2, q2⟩ => ?_)
  cases b with
  | true =>
    obtain ⟨N, hN, q2⟩ := q2
    rw [if_pos rfl]
    refine wpAny_passesOwn hp (thn (hb pins s2 σ1 H2 _ I2 q2) fun f s3 q3 => ?_)
    cases f with
    | next =>
      obtain ⟨σ3, H3, I3, n3⟩ := q3
      obtain ⟨m', hm, w3⟩ := hN σ3 H3 n3
      exact ⟨m', hm, σ3, H3, I3, w3⟩
    | cont =>
      obtain ⟨σ3, H3, I3, n3⟩ := q3
      obtain ⟨m', hm, w3⟩ := hN σ3 H3 n3
      exact ⟨m', hm, σ3, H3, I3, w3⟩
    | brk => exact q3
    | ret v => exact q3
  | false =>
    rw [if_neg Bool.false_ne_true]
    exact wpAny_execs_nil ⟨σ1, H2, I2, q2⟩
end

/-! ### what a loop or a comprehension walks -/
/-- at turn i: it yields x (the heap may grow), or it stops -/
structure It where
  go : Nat → Hp → Prop
  yld : Nat → Hp → V → Hp → Prop
  stop : Nat → Hp → Prop
/-- the iterator's own objects may turn: they are not the frame's, not pinned, younger than the entry (or a comprehension's own) -/
def FpOk (X : Cx) (pins : List (Addr × Obj)) (H : Hp) (b : Addr) : Prop :=
  H b = none ∧ b ≠ X.env.locals ∧ b ∉ X.fs ∧ (b ∈ X.ex ∨ X.s₀.heap.objs.size ≤ b) ∧ (∀ x c, X.env.cells.lookup x = some c → c ≠ b) ∧ ∀ p ∈ X.pn ++ pins, p.1 ≠ b
theorem Inv.fpOk {X : Cx} {pins : List (Addr × Obj)} {σ : St} {H H' : Hp} {s : Shared} {b : Addr} (I : Inv X pins σ H s) (hb : s.heap.objs.size ≤ b) (hn : H' b = none) : FpOk X pins H' b := by
  refine ⟨hn, Nat.ne_of_gt (Nat.lt_of_lt_of_le I.lt hb), I.nofs hb, .inr (Nat.le_trans I.sz hb), fun x c e z => ?_, fun p hp z => ?_⟩
  · obtain ⟨v, q⟩ := I.cell x c e
    exact absurd (Nat.lt_of_lt_of_le q.lt (by rw [z]; exact hb)) (Nat.lt_irrefl _)
  · exact absurd (Nat.lt_of_lt_of_le (Heap.lt_size (I.pin p hp).1) (by rw [z]; exact hb)) (Nat.lt_irrefl _)
structure Turn (P : Program) (w : World) (K : PySem.W.Frag) (tg : Expr) (J : It) (fp : List Addr) (it : Addr) (tn : Nat → Heap → Prop) : Prop where
  mem : it ∈ fp
  obj : ∀ i h, tn i h → ∀ b ∈ fp, ∃ o, h.get? b = some o ∧ ∀ v, o.data ≠ .cell v
  keep : ∀ i h h', tn i h → (∀ b ∈ fp, ∀ o, h.get? b = some o → h'.get? b = some o) → tn i h'
  item : ∀ (X : Cx), X.prog = P → X.w = w → X.K = K → X.calm = true → ∀ (i : Nat) (pins : List (Addr × Obj)) (s : Shared) (σ : St) (H : Hp) (E : Value → Shared → Prop), Inv X pins σ H s → (∀ b ∈ fp, FpOk X pins H b) → tn i s.heap → J.go i H →
    wpAny (model P w) X.A (pyNext (.ref it)) (fun r s1 => ∃ u, r = some u ∧
      wpAny (model P w) X.A (letOwnedTupleGo tg (.ref it) u) (fun _ s2 => ∃ x H', Inv X pins σ H' s2 ∧ RelV x u ∧ J.yld i H x H' ∧ tn (i + 1) s2.heap ∧ ∀ b ∈ fp, H' b = none) E s1) E s
  done : ∀ (X : Cx), X.prog = P → X.w = w → X.K = K → X.calm = true → ∀ (i : Nat) (pins : List (Addr × Obj)) (s : Shared) (σ : St) (H : Hp) (E : Value → Shared → Prop), Inv X pins σ H s → (∀ b ∈ fp, FpOk X pins H b) → tn i s.heap → J.stop i H →
    wpAny (model P w) X.A (pyNext (.ref it)) (fun r s1 => r = none ∧ Inv X pins σ H s1) E s
  self : ∀ (A : Around) (i : Nat) (s : Shared) (Q : Value → Shared → Prop) (E : Value → Shared → Prop), tn i s.heap → Q (.ref it) s → wpAny (model P w) A (pyIter (.ref it)) Q E s
abbrev TI := St → Hp → (It → Hp → Prop) → Prop
/-- an iterator has come -/
def PIE (X : Cx) (pins : List (Addr × Obj)) (σ : St) (tg : Expr) (R : It → Hp → Prop) (itv : Value) (s2 : Shared) : Prop :=
  ∃ (it : Addr) (fp : List Addr) (tn : Nat → Heap → Prop) (J : It) (H' : Hp), itv = .ref it ∧ Inv X pins σ H' s2 ∧ Turn X.prog X.w X.K tg J fp it tn ∧ tn 0 s2.heap ∧ (∀ b ∈ fp, FpOk X pins H' b) ∧ R J H'
def PI (X : Cx) (tg iter : Expr) (wi : TI) : Prop :=
  ∀ (pins : List (Addr × Obj)) (s : Shared) (σ : St) (H : Hp) (R : It → Hp → Prop), Inv X pins σ H s → wi σ H R →
    wpAny (model X.prog X.w) X.A (eval iter X.env) (fun v s1 => wpAny (model X.prog X.w) X.A (pyIter v) (PIE X pins σ tg R) X.xe s1) X.xe s

/-- the step ahead of the store is nothing for an iterator that keeps no tuple -/
theorem go_of {M : Model} {A : Around} {E : Value → Shared → Prop} {s : Shared} {tg : Expr} {it : Addr} {u : Value} {o : Obj} {n : String} {vs : Array Value} {Q : Unit → Shared → Prop} (ho : s.heap.get? it = some o) (hc : o.cls = .type n) (hd : o.data = .fields vs)
    (hn : ["enumerate", "zip", "dict_itemiterator", "dict_reverseitemiterator", "odict_iterator", "itertools.zip_longest", "itertools.pairwise"].contains n = false) (hQ : Q () s) : wpAny M A (letOwnedTupleGo tg (.ref it) u) Q E s := by
  unfold letOwnedTupleGo
  cases tg <;> first
    | exact wpAny_pure hQ
    | (cases u <;> first
        | exact wpAny_pure hQ
        | (refine wpAny_bind (wpAny_load ho ?_)
           rw [hc, hd]
           show wpAny M A (if (["enumerate", "zip", "dict_itemiterator", "dict_reverseitemiterator", "odict_iterator", "itertools.zip_longest", "itertools.pairwise"].contains n && vs[0]? == some (rawInt _)) = true then _ else _) Q E s
           rw [if_neg (by intro h; rw [hn, Bool.false_and] at h; cases h)]
           exact wpAny_pure hQ))

/-- the list at a, as it stands at each turn (a loop may append to it) -/
def Itl (K : PySem.W.Frag) (a : Addr) : It :=
  ⟨fun i H => ∃ xs x, SqL K H a xs ∧ xs[i]? = some x, fun i H x H' => H' = H ∧ ∀ xs, SqL K H a xs → xs[i]? = some x, fun i H => ∃ xs, SqL K H a xs ∧ xs.length ≤ i⟩
def Itt (K : PySem.W.Frag) (a : Addr) : It :=
  ⟨fun i H => ∃ xs x, SqT K H a xs ∧ xs[i]? = some x, fun i H x H' => H' = H ∧ ∀ xs, SqT K H a xs → xs[i]? = some x, fun i H => ∃ xs, SqT K H a xs ∧ xs.length ≤ i⟩
/-- lo, lo + 1, .. (n of them) -/
def Itr (lo : Int) (n : Nat) : It := ⟨fun i _ => i < n, fun i H x H' => H' = H ∧ x = .int (lo + i), fun i _ => n ≤ i⟩
theorem turn_list {P : Program} {w : World} {K : PySem.W.Frag} {tg : Expr} (a it : Addr) : Turn P w K tg (Itl K a) [it] it (fun i h => h.IsListIter it a i) where
  mem := by simp
  obj := fun i h st b hb => by
    have e : b = it := by simpa using hb
    subst e
    obtain ⟨o, e, c, d⟩ := st
    exact ⟨o, e, fun v z => by rw [d] at z; cases z⟩
  keep := fun i h h' st k => st.at fun o e => k it (by simp) o e
  item := by
    intro X hP hw hK hc i pins s σ H E I hf st hg
    subst hP hw hK
    obtain ⟨xs, x, hq, hx⟩ := hg
    obtain ⟨its, rv, p, hz⟩ := I.list hq
    obtain ⟨u, hu, ru⟩ := rv.get hx
    obtain ⟨f0, f1, f2, f3, f4, f5⟩ := hf it (by simp)
    refine wpAny_pyNext_list_item st p.isList (x := u) (by simpa using hu) fun h' st' sb => ?_
    have I1 : Inv X pins σ H { s with heap := h' } := I.turned (t' := s.toks) (fun b o hb e => (sb.2 b hb).trans e) f0 f1 f3 f4 f5
    obtain ⟨o, e, c, d⟩ := id st'
    exact ⟨u, rfl, go_of (s := { s with heap := h' }) e c d (by decide) ⟨x, H, I1, ru, ⟨rfl, fun ys hy => by rw [I.list_inj hy hq]; exact hx⟩, st', fun b hb => (hf b hb).1⟩⟩
  done := by
    intro X hP hw hK hc i pins s σ H E I hf st hg
    subst hP hw hK
    obtain ⟨xs, hq, hx⟩ := hg
    obtain ⟨its, rv, p, hz⟩ := I.list hq
    obtain ⟨f0, f1, f2, f3, f4, f5⟩ := hf it (by simp)
    have hl := rv.length
    exact wpAny_pyNext_list_end (I.ok.hd hc) st p.isList (by simp; omega) fun h' eb => ⟨rfl, I.turned (t' := s.toks) (fun b o hb e => eb b o hb e) f0 f1 f3 f4 f5⟩
  self := fun _ _ _ _ _ st h => wpAny_pyIter_listiter st h
theorem turn_tuple {P : Program} {w : World} {K : PySem.W.Frag} {tg : Expr} (a it : Addr) : Turn P w K tg (Itt K a) [it] it (fun i h => h.IsTupleIter it a i) where
  mem := by simp
  obj := fun i h st b hb => by
    have e : b = it := by simpa using hb
    subst e
    obtain ⟨o, e, c, d⟩ := st
    exact ⟨o, e, fun v z => by rw [d] at z; cases z⟩
  keep := fun i h h' st k => st.at fun o e => k it (by simp) o e
  item := by
    intro X hP hw hK hc i pins s σ H E I hf st hg
    subst hP hw hK
    obtain ⟨xs, x, hq, hx⟩ := hg
    obtain ⟨its, rv, p, hz⟩ := I.tuple hq
    obtain ⟨u, hu, ru⟩ := rv.get hx
    obtain ⟨f0, f1, f2, f3, f4, f5⟩ := hf it (by simp)
    refine wpAny_pyNext_tuple_item st (show s.heap.IsTuple a its.toArray from p) (x := u) (by simpa using hu) fun h' st' sb => ?_
    have I1 : Inv X pins σ H { s with heap := h' } := I.turned (t' := s.toks) (fun b o hb e => (sb.2 b hb).trans e) f0 f1 f3 f4 f5
    obtain ⟨o, e, c, d⟩ := id st'
    exact ⟨u, rfl, go_of (s := { s with heap := h' }) e c d (by decide) ⟨x, H, I1, ru, ⟨rfl, fun ys hy => by rw [I.tuple_inj hy hq]; exact hx⟩, st', fun b hb => (hf b hb).1⟩⟩
  done := by
    intro X hP hw hK hc i pins s σ H E I hf st hg
    subst hP hw hK
    obtain ⟨xs, hq, hx⟩ := hg
    obtain ⟨its, rv, p, hz⟩ := I.tuple hq
    obtain ⟨f0, f1, f2, f3, f4, f5⟩ := hf it (by simp)
    have hl := rv.length
    exact wpAny_pyNext_tuple_end (I.ok.hd hc) st (show s.heap.IsTuple a its.toArray from p) (by simp; omega) fun h' eb => ⟨rfl, I.turned (t' := s.toks) (fun b o hb e => eb b o hb e) f0 f1 f3 f4 f5⟩
  self := fun _ _ _ _ _ st h => wpAny_pyIter_tupleiter st h
theorem turn_range {P : Program} {w : World} {K : PySem.W.Frag} {tg : Expr} (it : Addr) (lo : Int) (n : Nat) : Turn P w K tg (Itr lo n) [it] it (fun i h => IsRangeIter h it (lo + (i : Nat) * 1) ((n : Int) - (i : Nat)) 1) where
  mem := by simp
  obj := fun i h st b hb => by
    have e : b = it := by simpa using hb
    subst e
    exact ⟨_, st, fun v z => by
      have z' : Data.fields _ = Data.cell v := z
      cases z'⟩
  keep := fun i h h' st k => k it (by simp) _ st
  item := by
    intro X hP hw hK hc i pins s σ H E I hf st hg
    subst hP hw hK
    obtain ⟨f0, f1, f2, f3, f4, f5⟩ := hf it (by simp)
    have W := Walks.range (prog := X.prog) (w := X.w) (I.ok.hd hc) it lo 1 n
    refine W.item i s _ _ hg st fun v h' tk hv st' kk => ?_
    obtain ⟨t, rfl⟩ := hv
    have I1 : Inv X pins σ H { s with heap := h', toks := tk } := I.turned (fun b o hb e => kk b o (by simpa using hb) e) f0 f1 f3 f4 f5
    refine ⟨_, rfl, go_of (s := { s with heap := h', toks := tk }) (n := "range_iterator") st' rfl rfl (by decide) ⟨.int (lo + i), H, I1, ⟨t, ?_⟩, ⟨rfl, rfl⟩, st', fun b hb => (hf b hb).1⟩⟩
    rw [Int.mul_one]
  done := by
    intro X hP hw hK hc i pins s σ H E I hf st hg
    subst hP hw hK
    obtain ⟨f0, f1, f2, f3, f4, f5⟩ := hf it (by simp)
    exact wpAny_pyNext_range_end (I.ok.hd hc) st (by have : n ≤ i := hg; omega) fun h' eb => ⟨rfl, I.turned (t' := s.toks) (fun b o hb e => eb b o hb e) f0 f1 f3 f4 f5⟩
  self := fun _ _ _ _ _ st h => wpAny_pyIter_rangeiter st h
end L2

namespace L2
open PySem PySem.Spec PyProof.Rows
section
variable {X : Cx} {tg : Expr}
def iList (K : PySem.W.Frag) (tl : TE) : TI := fun σ H R => tl σ H fun x H1 => ∃ a, x = .ref a ∧ (∃ xs, SqL K H1 a xs) ∧ R (Itl K a) H1
def iTup (K : PySem.W.Frag) (tl : TE) : TI := fun σ H R => tl σ H fun x H1 => ∃ a, x = .ref a ∧ (∃ xs, SqT K H1 a xs) ∧ R (Itt K a) H1
theorem pi_list {l : Expr} {tl : TE} (hl : PE X l tl) : PI X tg l (iList X.K tl) := by
  intro pins s σ H R I h
  refine thn (hl pins s σ H _ I h) fun v s1 ⟨x, H1, I1, r1, q1⟩ => ?_
  obtain ⟨a, e, ⟨xs, hq⟩, q⟩ := q1
  subst e
  cases r1
  obtain ⟨its, rv, p, hz⟩ := I1.list hq
  refine wpAny_pyIter_list p.isList ?_
  refine ⟨s1.heap.objs.size, [s1.heap.objs.size], _, _, H1, rfl, I1.kept (t' := s1.toks) fun b o e => Heap.get?_push_of_some _ e, turn_list a _, ⟨_, Heap.get?_push_size _ rfl, rfl, rfl⟩, fun b hb => ?_, q⟩
  have e : b = s1.heap.objs.size := by simpa using hb
  subst e
  exact I1.fpOk (Nat.le_refl _) (I1.hok.fresh (Nat.le_refl _))
theorem pi_tup {l : Expr} {tl : TE} (hl : PE X l tl) : PI X tg l (iTup X.K tl) := by
  intro pins s σ H R I h
  refine thn (hl pins s σ H _ I h) fun v s1 ⟨x, H1, I1, r1, q1⟩ => ?_
  obtain ⟨a, e, ⟨xs, hq⟩, q⟩ := q1
  subst e
  cases r1
  obtain ⟨its, rv, p, hz⟩ := I1.tuple hq
  refine wpAny_pyIter_tuple (show s1.heap.IsTuple a its.toArray from p) ?_
  refine ⟨s1.heap.objs.size, [s1.heap.objs.size], _, _, H1, rfl, I1.kept (t' := s1.toks) fun b o e => Heap.get?_push_of_some _ e, turn_tuple a _, ⟨_, Heap.get?_push_size _ rfl, rfl, rfl⟩, fun b hb => ?_, q⟩
  have e : b = s1.heap.objs.size := by simpa using hb
  subst e
  exact I1.fpOk (Nat.le_refl _) (I1.hok.fresh (Nat.le_refl _))
/-- a range object just made, walked -/
theorem range_it {pins : List (Addr × Obj)} {σ : St} {H : Hp} {s : Shared} {R : It → Hp → Prop} {E : Value → Shared → Prop} {lo hi : Int} {t u v : Tok} {tk : Nat} (I : Inv X pins σ H s) (h1 : -(2 ^ 62) ≤ lo) (h2 : lo < 2 ^ 62) (h3 : -(2 ^ 62) ≤ hi) (h4 : hi < 2 ^ 62)
    (q : R (Itr lo (hi - lo).toNat) H) : wpAny (model X.prog X.w) X.A (pyIter (.ref s.heap.objs.size)) (PIE X pins σ tg R) E { s with heap := s.heap.push { cls := .type "range", data := .fields #[.int lo t, .int hi u, .int 1 v] }, toks := tk } := by
  refine wpAny_pyIter_range (IsRange.new ..) (small_one h1 h2 h3 h4) ?_
  have I1 : Inv X pins σ H { s with heap := s.heap.push { cls := .type "range", data := .fields #[.int lo t, .int hi u, .int 1 v] }, toks := tk } := I.kept fun b o e => Heap.get?_push_of_some _ e
  refine ⟨(s.heap.push { cls := .type "range", data := .fields #[.int lo t, .int hi u, .int 1 v] }).objs.size, [(s.heap.push { cls := .type "range", data := .fields #[.int lo t, .int hi u, .int 1 v] }).objs.size], _, _, H, rfl,
    I1.kept (t' := tk) fun b o e => Heap.get?_push_of_some _ e, turn_range _ lo (hi - lo).toNat, ?_, fun b hb => ?_, q⟩
  · have e1 : lo + ((0 : Nat) : Int) * 1 = lo := by simp
    have e2 : (((hi - lo).toNat : Nat) : Int) - ((0 : Nat) : Int) = Builtin.Range.rangeSize lo hi 1 := by rw [rangeSize_one]; split <;> omega
    show IsRangeIter _ _ (lo + ((0 : Nat) : Int) * 1) ((((hi - lo).toNat : Nat) : Int) - ((0 : Nat) : Int)) 1
    rw [e1, e2]
    exact Heap.get?_push_size _ rfl
  · have e : b = (s.heap.push { cls := .type "range", data := .fields #[.int lo t, .int hi u, .int 1 v] }).objs.size := by simpa using hb
    subst e
    exact I1.fpOk (Nat.le_refl _) (I1.hok.fresh (Nat.le_refl _))
def iRng1 (ta : TA) : TI := fun σ H R => ta σ H fun vs H1 => ∃ j : Int, vs = [.int j] ∧ -(2 ^ 62) ≤ j ∧ j < 2 ^ 62 ∧ R (Itr 0 j.toNat) H1
theorem pi_range1 {a : Expr} {ta : TA} {p pos : Pos} (hg : Gl X "range") (hm : X.mg "range" = none) (ha : PA X [a] ta) (hs : starEach [a] X.env = [(false, eval a X.env)] := by rfl) : PI X tg (.Call (.Name "range" p) [a] [] pos) (iRng1 ta) := by
  intro pins s σ H R I h
  refine Call_ (ld_blt I hg hm boot_range (PyProof.Rows.callWith_type1 (thn (ha pos pins s σ H _ I h) fun us s1 ⟨vs, H1, I1, r1, q1⟩ => ?_) hs rfl))
  obtain ⟨j, e, q1, q2, q⟩ := q1
  subst e
  cases r1 with
  | cons r rr =>
    cases rr
    obtain ⟨t, rfl⟩ := r
    exact call_range_1 (range_it I1 (by omega) (by omega) q1 q2 (by simpa using q))

/-! ### for -/
/-- W: the invariant by the turn and a measure; N: what the body is to reach -/
def tFor (wi : TI) (g : TG) (tb : TS) : TS := fun D σ H => wi σ H fun J H1 => ∃ W : Nat → Nat → St → Hp → Prop, (∃ m, W 0 m σ H1) ∧ ∀ i m σ H, W i m σ H →
  (J.stop i H ∧ D.nx σ H) ∨ (J.go i H ∧ ∃ N : St → Hp → Prop, (∀ σ' H', N σ' H' → ∃ m', m' < m ∧ W (i + 1) m' σ' H') ∧ ∀ x H', J.yld i H x H' → g x σ H' fun σ2 H2 => tb { D with nx := N, ct := N, bk := D.nx } σ2 H2)
/-- the records at fp as they stand -/
def pinsAt (fp : List Addr) (h : Heap) : List (Addr × Obj) := fp.filterMap fun b => (h.get? b).map fun o => (b, o)
theorem mem_pinsAt {fp : List Addr} {h : Heap} {b : Addr} {o : Obj} (hb : b ∈ fp) (e : h.get? b = some o) : (b, o) ∈ pinsAt fp h := List.mem_filterMap.mpr ⟨b, hb, by rw [e]; rfl⟩
theorem of_pinsAt {fp : List Addr} {h : Heap} {p : Addr × Obj} (hp : p ∈ pinsAt fp h) : p.1 ∈ fp ∧ h.get? p.1 = some p.2 := by
  obtain ⟨b, hb, e⟩ := List.mem_filterMap.mp hp
  cases q : h.get? b with
  | none => rw [q] at e; cases e
  | some o =>
    rw [q] at e
    have e' : (b, o) = p := Option.some.inj e
    subst e'
    exact ⟨hb, q⟩
theorem Inv.pinned {pins : List (Addr × Obj)} {σ : St} {H : Hp} {s : Shared} {fp : List Addr} (I : Inv X pins σ H s) (hf : ∀ b ∈ fp, FpOk X pins H b) (ho : ∀ b ∈ fp, ∃ o, s.heap.get? b = some o ∧ ∀ v, o.data ≠ .cell v) : Inv X (pins ++ pinsAt fp s.heap) σ H s :=
  I.pins_of fun p hp => (List.mem_append.mp hp).elim (fun z => I.pin p (List.mem_append_right _ z)) fun z => by
    obtain ⟨hb, e⟩ := of_pinsAt z
    obtain ⟨f0, f1, f2, _⟩ := hf p.1 hb
    obtain ⟨o, e', d⟩ := ho p.1 hb
    rw [e] at e'; cases e'
    exact ⟨e, f0, f1, f2, d⟩
theorem Inv.unpinned {pins pl : List (Addr × Obj)} {σ : St} {H : Hp} {s : Shared} (I : Inv X (pins ++ pl) σ H s) : Inv X pins σ H s := I.pins_of fun p hp => I.pin p (List.mem_append_right _ (List.mem_append_left _ hp))
theorem ps_for {iter : Expr} {body : List Stmt} {wi : TI} {g : TG} {tb : TS} {pos : Pos} (hp : PassesOwn (model X.prog X.w) X.A X.env X.xe) (hc : X.calm = true) (hi : PI X tg iter wi) (hg : PG X tg g) (hb : PSs X body tb)
    (hs : ∀ x, foldedSetIterable iter X.env x = pure x := by intro _; rfl) : PS X (.For tg iter body [] pos) (tFor wi g tb) := by
  intro pins s σ H D I h
  refine wpAny_For (thn (hi pins s σ H _ I h) fun v s1 h1 => thn h1 fun itv s2 h2 => ?_) hs
  obtain ⟨it, fp, tn, J, H2, e, I2, T, st2, f2, W, ⟨m0, w0⟩, turn⟩ := h2
  subst e
  -- what stays true of the iterator's objects through the loop
  have stat : ∀ {H' : Hp}, (∀ b ∈ fp, H' b = none) → ∀ b ∈ fp, FpOk X pins H' b := fun hn b hb => ⟨hn b hb, (f2 b hb).2⟩
  refine codeAny_forLoop_any (fun n s' => ∃ i σ' H', Inv X pins σ' H' s' ∧ tn i s'.heap ∧ (∀ b ∈ fp, H' b = none) ∧ W i n σ' H') ?_ m0 ⟨0, σ, H2, I2, st2, fun b hb => (f2 b hb).1, w0⟩
  rintro n s3 ⟨i, σ3, H3, I3, st3, fr3, w3⟩
  rcases turn i n σ3 H3 w3 with ⟨stop, qn⟩ | ⟨go, N, hN, step⟩
  · refine wpAny_passesOwn hp (thn (T.done X rfl rfl rfl hc i pins s3 σ3 H3 X.xe I3 (stat fr3) st3 stop) fun r s4 ⟨hr, I4⟩ => ?_)
    subst hr
    exact wpAny_execs_nil ⟨σ3, H3, I4, qn⟩
  · refine wpAny_passesOwn hp (thn (T.item X rfl rfl rfl hc i pins s3 σ3 H3 X.xe I3 (stat fr3) st3 go) fun r s4 ⟨u, hr, h4⟩ => ?_)
    subst hr
    refine wpAny_passesOwn hp (thn h4 fun _ s5 ⟨x, H5, I5, r5, y5, st5, fr5⟩ => ?_)
    have I5' := I5.pinned (stat fr5) (T.obj _ _ st5)
    refine wpAny_passesOwn hp (thn (hg _ s5 σ3 H5 x u _ I5' r5 (step x H5 y5)) fun _ s6 ⟨σ6, H6, I6, q6⟩ => ?_)
    refine wpAny_passesOwn hp (thn (hb _ s6 σ6 H6 _ I6 q6) fun f s7 q7 => ?_)
    have again : ∀ {σ7 : St} {H7 : Hp}, Inv X (pins ++ pinsAt fp s5.heap) σ7 H7 s7 → N σ7 H7 → ∃ m, m < n ∧ ∃ i σ' H', Inv X pins σ' H' s7 ∧ tn i s7.heap ∧ (∀ b ∈ fp, H' b = none) ∧ W i m σ' H' := fun {σ7 H7} I7 n7 => by
      obtain ⟨m', hm, w7⟩ := hN σ7 H7 n7
      refine ⟨m', hm, i + 1, σ7, H7, I7.unpinned, T.keep _ _ _ st5 fun b hb o e => (I7.pin (b, o) (List.mem_append_right _ (List.mem_append_right _ (mem_pinsAt hb e)))).1, fun b hb => ?_, w7⟩
      obtain ⟨o, e, d⟩ := T.obj _ _ st5 b hb
      exact (I7.pin (b, o) (List.mem_append_right _ (List.mem_append_right _ (mem_pinsAt hb e)))).2.1
    cases f with
    | next => obtain ⟨σ7, H7, I7, n7⟩ := q7; exact again I7 n7
    | cont => obtain ⟨σ7, H7, I7, n7⟩ := q7; exact again I7 n7
    | brk => obtain ⟨σ7, H7, I7, q7⟩ := q7; exact ⟨σ7, H7, I7.unpinned, q7⟩
    | ret v => obtain ⟨x7, σ7, H7, I7, r7, q7⟩ := q7; exact ⟨x7, σ7, H7, I7.unpinned, r7, q7⟩
end

/-! ### the forms one uses -/
theorem for_tup {K : PySem.W.Frag} {a : Addr} {xs : List V} {g : TG} {tb : TS} {D : Ends} {σ : St} {H : Hp} (Pv : Nat → St → Hp → Prop) (h0 : Pv 0 σ H) (hl : ∀ i σ H, i ≤ xs.length → Pv i σ H → SqT K H a xs)
    (hs : ∀ i x σ H, xs[i]? = some x → Pv i σ H → g x σ H fun σ2 H2 => tb { D with nx := Pv (i + 1), ct := Pv (i + 1), bk := D.nx } σ2 H2) (hd : ∀ σ H, Pv xs.length σ H → D.nx σ H) :
    ∃ W : Nat → Nat → St → Hp → Prop, (∃ m, W 0 m σ H) ∧ ∀ i m σ H, W i m σ H →
      ((Itt K a).stop i H ∧ D.nx σ H) ∨ ((Itt K a).go i H ∧ ∃ N : St → Hp → Prop, (∀ σ' H', N σ' H' → ∃ m', m' < m ∧ W (i + 1) m' σ' H') ∧ ∀ x H', (Itt K a).yld i H x H' → g x σ H' fun σ2 H2 => tb { D with nx := N, ct := N, bk := D.nx } σ2 H2) := by
  refine ⟨fun i m σ H => m = xs.length - i ∧ i ≤ xs.length ∧ Pv i σ H, ⟨xs.length, by simp, Nat.zero_le _, h0⟩, ?_⟩
  rintro i m σ H ⟨rfl, hi, p⟩
  have q := hl i σ H hi p
  by_cases hlt : i < xs.length
  · refine .inr ⟨⟨xs, xs[i], q, by simp [hlt]⟩, Pv (i + 1), fun σ' H' p' => ⟨xs.length - (i + 1), by omega, rfl, hlt, p'⟩, fun x H' y => ?_⟩
    obtain ⟨e, y⟩ := y
    subst e
    exact hs i x σ _ (y xs q) p
  · have e : i = xs.length := by omega
    subst e
    exact .inl ⟨⟨xs, q, Nat.le_refl _⟩, hd σ H p⟩
/-- while, by a word and a measure of the state -/
theorem while_by {c : TT} {tb : TS} {D : Ends} {σ : St} {H : Hp} (Pv : St → Hp → Prop) (μ : St → Hp → Nat) (h0 : Pv σ H)
    (hs : ∀ σ H, Pv σ H → c σ H fun b H1 => if b = true then tb { D with nx := fun σ' H' => Pv σ' H' ∧ μ σ' H' < μ σ H, ct := fun σ' H' => Pv σ' H' ∧ μ σ' H' < μ σ H, bk := D.nx } σ H1 else D.nx σ H1)
    (mono : ∀ σ H Q Q', (∀ b H1, Q b H1 → Q' b H1) → c σ H Q → c σ H Q') : tWhile c tb D σ H := by
  refine ⟨fun m σ H => m = μ σ H ∧ Pv σ H, ⟨_, rfl, h0⟩, ?_⟩
  rintro m σ H ⟨rfl, p⟩
  refine mono σ H _ _ (fun b H1 q => ?_) (hs σ H p)
  cases b with
  | true => exact ⟨_, fun σ' H' ⟨p', l⟩ => ⟨_, l, rfl, p'⟩, q⟩
  | false => exact q
end L2

namespace L2
open PySem PySem.Spec PyProof.Rows

abbrev R2 := V → V → Hp → VK → Prop
/-- a two-place operation on values: f is binaryOp op, inplaceOp op or compareOp op -/
def OpR (X : Cx) (f : Value → Value → Sem Value) (r : R2) : Prop :=
  ∀ (pins : List (Addr × Obj)) (s : Shared) (σ : St) (H : Hp) (x y : V) (v u : Value) (Q : VK), Inv X pins σ H s → RelV x v → RelV y u → r x y H Q →
    wpAny (model X.prog X.w) X.A (f v u) (EP X pins σ Q) X.xe s
/-- a one-place operation -/
def UnR (X : Cx) (f : Value → Sem Value) (r : V → Hp → VK → Prop) : Prop :=
  ∀ (pins : List (Addr × Obj)) (s : Shared) (σ : St) (H : Hp) (x : V) (v : Value) (Q : VK), Inv X pins σ H s → RelV x v → r x H Q →
    wpAny (model X.prog X.w) X.A (f v) (EP X pins σ Q) X.xe s
/-- a call of a value that is known (a builtin, a type) with values -/
def CallR (X : Cx) (f : Value) (r : List V → Hp → VK → Prop) : Prop :=
  ∀ (pins : List (Addr × Obj)) (s : Shared) (σ : St) (H : Hp) (xs : List V) (us : List Value) (Q : VK), Inv X pins σ H s → Vals xs us → r xs H Q →
    wpAny (model X.prog X.w) X.A (call f us) (EP X pins σ Q) X.xe s
/-- a value's truth -/
def TruR (X : Cx) (r : V → Hp → (Bool → Hp → Prop) → Prop) : Prop :=
  ∀ (pins : List (Addr × Obj)) (s : Shared) (σ : St) (H : Hp) (x : V) (v : Value) (Q : Bool → Hp → Prop), Inv X pins σ H s → RelV x v → r x H Q →
    wpAny (model X.prog X.w) X.A (truthy v) (TP X pins σ Q) X.xe s

def tOp (r : R2) (ta tb : TE) : TE := fun σ H Q => ta σ H fun x H1 => tb σ H1 fun y H2 => r x y H2 Q
def tUn (r : V → Hp → VK → Prop) (ta : TE) : TE := fun σ H Q => ta σ H fun x H1 => r x H1 Q
/-- ints in, under C, and a value out -/
def rI (C : Int → Int → Prop) (g : Int → Int → V) : R2 := fun x y H Q => ∃ i j, x = .int i ∧ y = .int j ∧ C i j ∧ Q (g i j) H
def rI0 (g : Int → Int → V) : R2 := fun x y H Q => ∃ i j, x = .int i ∧ y = .int j ∧ Q (g i j) H
def rU (g : Int → V) : V → Hp → VK → Prop := fun x H Q => ∃ i, x = .int i ∧ Q (g i) H

section
variable {X : Cx} {a b c : Expr} {ta tb tc : TE} {pos : Pos}

theorem binT (ha : PE X a ta) (hb : PE X b tb) {pins : List (Addr × Obj)} {s : Shared} {σ : St} {H : Hp} {R : V → V → Hp → Prop} (I : Inv X pins σ H s)
    (h : ta σ H fun x H1 => tb σ H1 fun y H2 => R x y H2) {Q : Value → Shared → Prop} {f : Value → Value → Sem Value}
    (hf : ∀ v u s2 x y H2, Inv X pins σ H2 s2 → RelV x v → RelV y u → R x y H2 → wpAny (model X.prog X.w) X.A (f v u) Q X.xe s2) :
    wpAny (model X.prog X.w) X.A (eval a X.env) (fun v s₁ => wpAny (model X.prog X.w) X.A (eval b X.env) (fun u s₂ => wpAny (model X.prog X.w) X.A (f v u) Q X.xe s₂) X.xe s₁) X.xe s := by
  refine thn (ha pins s σ H _ I h) fun v s1 ⟨x, H1, I1, r1, q1⟩ => ?_
  refine thn (hb pins s1 σ H1 _ I1 q1) fun u s2 ⟨y, H2, I2, r2, q2⟩ => ?_
  exact hf v u s2 x y H2 I2 r1 r2 q2

theorem pe_op {op : Operator} {r : R2} (ho : OpR X (binaryOp op) r) (ha : PE X a ta) (hb : PE X b tb) : PE X (.BinOp a op b pos) (tOp r ta tb) := by
  intro pins s σ H Q I h
  exact wpAny_BinOp (binT ha hb I h fun v u s2 x y H2 I2 rx ry q => ho pins s2 σ H2 x y v u Q I2 rx ry q)
theorem pe_un {op : UnaryOp} {r : V → Hp → VK → Prop} (ho : UnR X (unaryOp op) r) (ha : PE X a ta) : PE X (.UnaryOp op a pos) (tUn r ta) := by
  intro pins s σ H Q I h
  exact UnaryOp_ (thn (ha pins s σ H _ I h) fun v s1 ⟨x, H1, I1, r1, q1⟩ => ho pins s1 σ H1 x v Q I1 r1 q1)

/-! ### ints -/
theorem opI {f : Value → Value → Sem Value} {C : Int → Int → Prop} {g : Int → Int → Int}
    (rule : ∀ (i j : Int) (t u : Tok) (s : Shared) (Q : Value → Shared → Prop) (E : Value → Shared → Prop), C i j → Q (.int (g i j) s.toks) { s with toks := s.toks + 1 } → wpAny (model X.prog X.w) X.A (f (.int i t) (.int j u)) Q E s) :
    OpR X f (rI C fun i j => .int (g i j)) := by
  intro pins s σ H x y v u Q I rx ry h
  obtain ⟨i, j, rfl, rfl, hc, q⟩ := h
  obtain ⟨t, rfl⟩ := rx
  obtain ⟨t', rfl⟩ := ry
  exact rule i j t t' s _ _ hc ⟨.int (g i j), H, I.tok _, ⟨_, rfl⟩, q⟩
theorem opI0 {f : Value → Value → Sem Value} {g : Int → Int → Int}
    (rule : ∀ (i j : Int) (t u : Tok) (s : Shared) (Q : Value → Shared → Prop) (E : Value → Shared → Prop), Q (.int (g i j) s.toks) { s with toks := s.toks + 1 } → wpAny (model X.prog X.w) X.A (f (.int i t) (.int j u)) Q E s) :
    OpR X f (rI0 fun i j => .int (g i j)) := by
  intro pins s σ H x y v u Q I rx ry h
  obtain ⟨i, j, rfl, rfl, q⟩ := h
  obtain ⟨t, rfl⟩ := rx
  obtain ⟨t', rfl⟩ := ry
  exact rule i j t t' s _ _ ⟨.int (g i j), H, I.tok _, ⟨_, rfl⟩, q⟩
theorem opB0 {f : Value → Value → Sem Value} {g : Int → Int → Bool}
    (rule : ∀ (i j : Int) (t u : Tok) (s : Shared) (Q : Value → Shared → Prop) (E : Value → Shared → Prop), Q (.bool (g i j)) s → wpAny (model X.prog X.w) X.A (f (.int i t) (.int j u)) Q E s) :
    OpR X f (rI0 fun i j => .bl (g i j)) := by
  intro pins s σ H x y v u Q I rx ry h
  obtain ⟨i, j, rfl, rfl, q⟩ := h
  obtain ⟨t, rfl⟩ := rx
  obtain ⟨t', rfl⟩ := ry
  exact rule i j t t' s _ _ ⟨.bl (g i j), H, I, rfl, q⟩

def CDiv (i j : Int) : Prop := 0 < j ∧ j < 1073741824
def CPow (i j : Int) : Prop := 0 ≤ j ∧ j ≤ 1000000 ∧ i.natAbs < 2 ^ 64
def CMul (i j : Int) : Prop := (-(2 ^ 64) < i ∧ i < 2 ^ 64) ∨ (-(2 ^ 64) < j ∧ j < 2 ^ 64)
theorem CMul.ok {i j : Int} (h : CMul i j) : IntMulOk i j := by
  rcases h with ⟨h1, h2⟩ | ⟨h1, h2⟩
  · exact .of_left (intBits_le_64 h1 h2)
  · exact .of_right (intBits_le_64 h1 h2)

theorem op_add : OpR X (binaryOp .Add) (rI0 fun i j => .int (i + j)) := opI0 fun _ _ _ _ _ _ _ q => add_int q
theorem op_sub : OpR X (binaryOp .Sub) (rI0 fun i j => .int (i - j)) := opI0 fun _ _ _ _ _ _ _ q => sub_int q
theorem op_mul : OpR X (binaryOp .Mult) (rI CMul fun i j => .int (i * j)) := opI fun _ _ _ _ _ _ _ hc q => mul_int q hc.ok
/-- // by a positive divisor -/
theorem op_fdiv : OpR X (binaryOp .FloorDiv) (rI CDiv fun i j => .int (i / j)) := opI fun i j _ _ _ _ _ hc q => by
  have h1 : (0 : Int) < j := hc.1
  have h2 : j < 1073741824 := hc.2
  exact floordiv_int (by omega) (by rw [Int.fdiv_eq_ediv_of_nonneg i (by omega)]; exact q) (.inl (PyProof.noPylong_small (by omega)))
/-- % by a positive divisor of any size -/
theorem op_mod : OpR X (binaryOp .Mod) (rI (fun _ j => 0 < j) fun i j => .int (i % j)) := opI fun i j _ _ _ _ _ hc q => by
  have h1 : (0 : Int) < j := hc
  exact mod_int' (by omega) (by rw [Int.fmod_eq_emod_of_nonneg i (by omega)]; exact q)
theorem op_pow : OpR X (binaryOp .Pow) (rI CPow fun i j => .int (i ^ j.toNat)) := opI fun _ _ _ _ _ _ _ hc q => pow_int_small hc.1 hc.2.1 hc.2.2 q

theorem unI {f : Value → Sem Value} {g : Int → Int}
    (rule : ∀ (i : Int) (t : Tok) (s : Shared) (Q : Value → Shared → Prop) (E : Value → Shared → Prop), Q (.int (g i) s.toks) { s with toks := s.toks + 1 } → wpAny (model X.prog X.w) X.A (f (.int i t)) Q E s) :
    UnR X f (rU fun i => .int (g i)) := by
  intro pins s σ H x v Q I rx h
  obtain ⟨i, rfl, q⟩ := h
  obtain ⟨t, rfl⟩ := rx
  exact rule i t s _ _ ⟨.int (g i), H, I.tok _, ⟨_, rfl⟩, q⟩
theorem un_neg : UnR X (unaryOp .USub) (rU fun i => .int (-i)) := unI fun _ _ _ _ _ q => neg_int q

/-! ### bools among ints: n += (a < b) -/
end

/-! ### comparisons -/
/-- the scalars that == tells apart as data does -/
def scal : V → V → Bool
  | .non, .non => true | .non, .int _ => true | .int _, .non => true | .non, .bl _ => true | .bl _, .non => true | .non, .str _ => true | .str _, .non => true
  | .int _, .int _ => true | .bl _, .bl _ => true | .str _, .str _ => true | .byt _, .byt _ => true
  | .int _, .str _ => true | .str _, .int _ => true | .bl _, .str _ => true | .str _, .bl _ => true
  | _, _ => false
def rEq : R2 := fun x y H Q => scal x y = true ∧ Q (.bl (decide (x = y))) H
def rNe : R2 := fun x y H Q => scal x y = true ∧ Q (.bl (!decide (x = y))) H

theorem dec_int {i j : Int} : decide (V.int i = V.int j) = (i == j) := by
  rw [Bool.eq_iff_iff]
  simp
theorem dec_bl {i j : Bool} : decide (V.bl i = V.bl j) = (i == j) := by
  rw [Bool.eq_iff_iff]
  simp
theorem dec_str {i j : Str} : decide (V.str i = V.str j) = (i == j) := by
  rw [Bool.eq_iff_iff]
  simp
theorem dec_byt {i j : Array UInt8} : decide (V.byt i = V.byt j) = (i.toList == j.toList) := by
  rw [Bool.eq_iff_iff]
  cases i
  cases j
  simp

section
variable {X : Cx} {a b c : Expr} {ta tb tc : TE} {pos : Pos}
theorem fin_bl {pins : List (Addr × Obj)} {σ : St} {H : Hp} {s : Shared} {Q : VK} {k k' : Bool} (I : Inv X pins σ H s) (q : Q (.bl k) H) (e : k = k') : EP X pins σ Q (.bool k') s := by
  subst e
  exact ⟨.bl k, H, I, rfl, q⟩
theorem op_eq : OpR X (compareOp .Eq) rEq := by
  intro pins s σ H x y v u Q I rx ry h
  obtain ⟨hs, q⟩ := h
  cases x with
  | non =>
    cases rx
    cases y with
    | non => cases ry; exact PySem.EqNone.eq_none_none (fin_bl I q (by simp))
    | bl j => cases ry; exact PySem.EqNone.eq_none_bool (fin_bl I q (by simp))
    | int j => obtain ⟨t', rfl⟩ := ry; exact PySem.EqNone.eq_none_int (fin_bl I q (by simp))
    | str j => obtain ⟨t', rfl⟩ := ry; exact PySem.EqNone.eq_none_str (fin_bl I q (by simp))
    | _ => exact absurd (show false = true from hs) Bool.false_ne_true
  | bl i =>
    cases rx
    cases y with
    | non => cases ry; exact PySem.EqNone.eq_bool_none (fin_bl I q (by simp))
    | bl j => cases ry; exact eq_bool (fin_bl I q dec_bl)
    | str j => obtain ⟨t', rfl⟩ := ry; exact PySem.EqMixed.eq_bool_str (fin_bl I q (by simp))
    | _ => exact absurd (show false = true from hs) Bool.false_ne_true
  | int i =>
    obtain ⟨t, rfl⟩ := rx
    cases y with
    | non => cases ry; exact PySem.EqNone.eq_int_none (fin_bl I q (by simp))
    | int j => obtain ⟨t', rfl⟩ := ry; exact eq_int (fin_bl I q dec_int)
    | str j => obtain ⟨t', rfl⟩ := ry; exact PySem.EqMixed.eq_int_str (fin_bl I q (by simp))
    | _ => exact absurd (show false = true from hs) Bool.false_ne_true
  | str i =>
    obtain ⟨t, rfl⟩ := rx
    cases y with
    | non => cases ry; exact PySem.EqNone.eq_str_none (fin_bl I q (by simp))
    | bl j => cases ry; exact PySem.EqMixed.eq_str_bool (fin_bl I q (by simp))
    | int j => obtain ⟨t', rfl⟩ := ry; exact PySem.EqMixed.eq_str_int (fin_bl I q (by simp))
    | str j => obtain ⟨t', rfl⟩ := ry; exact eq_str (fin_bl I q dec_str)
    | _ => exact absurd (show false = true from hs) Bool.false_ne_true
  | byt i =>
    obtain ⟨t, rfl⟩ := rx
    cases y with
    | byt j => obtain ⟨t', rfl⟩ := ry; exact PySem.W.eq_bytes (fin_bl I q dec_byt)
    | _ => exact absurd (show false = true from hs) Bool.false_ne_true
  | _ => cases y <;> exact absurd (show false = true from hs) Bool.false_ne_true
theorem op_ne : OpR X (compareOp .NotEq) rNe := by
  intro pins s σ H x y v u Q I rx ry h
  obtain ⟨hs, q⟩ := h
  cases x with
  | non =>
    cases rx
    cases y with
    | non => cases ry; exact PySem.EqNone.ne_none_none (fin_bl I q (by simp))
    | bl j => cases ry; exact PySem.EqNone.ne_none_bool (fin_bl I q (by simp))
    | int j => obtain ⟨t', rfl⟩ := ry; exact PySem.EqNone.ne_none_int (fin_bl I q (by simp))
    | str j => obtain ⟨t', rfl⟩ := ry; exact PySem.EqNone.ne_none_str (fin_bl I q (by simp))
    | _ => exact absurd (show false = true from hs) Bool.false_ne_true
  | bl i =>
    cases rx
    cases y with
    | non => cases ry; exact PySem.EqNone.ne_bool_none (fin_bl I q (by simp))
    | bl j => cases ry; exact ne_bool (fin_bl I q (congrArg not dec_bl))
    | str j => obtain ⟨t', rfl⟩ := ry; exact PySem.EqMixed.ne_bool_str (fin_bl I q (by simp))
    | _ => exact absurd (show false = true from hs) Bool.false_ne_true
  | int i =>
    obtain ⟨t, rfl⟩ := rx
    cases y with
    | non => cases ry; exact PySem.EqNone.ne_int_none (fin_bl I q (by simp))
    | int j => obtain ⟨t', rfl⟩ := ry; exact ne_int (fin_bl I q (congrArg not dec_int))
    | str j => obtain ⟨t', rfl⟩ := ry; exact PySem.EqMixed.ne_int_str (fin_bl I q (by simp))
    | _ => exact absurd (show false = true from hs) Bool.false_ne_true
  | str i =>
    obtain ⟨t, rfl⟩ := rx
    cases y with
    | non => cases ry; exact PySem.EqNone.ne_str_none (fin_bl I q (by simp))
    | bl j => cases ry; exact PySem.EqMixed.ne_str_bool (fin_bl I q (by simp))
    | int j => obtain ⟨t', rfl⟩ := ry; exact PySem.EqMixed.ne_str_int (fin_bl I q (by simp))
    | str j => obtain ⟨t', rfl⟩ := ry; exact ne_str (fin_bl I q (congrArg not dec_str))
    | _ => exact absurd (show false = true from hs) Bool.false_ne_true
  | byt i =>
    obtain ⟨t, rfl⟩ := rx
    cases y with
    | byt j => obtain ⟨t', rfl⟩ := ry; exact PySem.W.ne_bytes (fin_bl I q (congrArg not dec_byt))
    | _ => exact absurd (show false = true from hs) Bool.false_ne_true
  | _ => cases y <;> exact absurd (show false = true from hs) Bool.false_ne_true

theorem op_lt : OpR X (compareOp .Lt) (rI0 fun i j => .bl (decide (i < j))) := opB0 fun _ _ _ _ _ _ _ q => lt_int q
theorem op_le : OpR X (compareOp .LtE) (rI0 fun i j => .bl (decide (i ≤ j))) := opB0 fun _ _ _ _ _ _ _ q => le_int q
theorem op_gt : OpR X (compareOp .Gt) (rI0 fun i j => .bl (decide (j < i))) := opB0 fun _ _ _ _ _ _ _ q => gt_int q
theorem op_ge : OpR X (compareOp .GtE) (rI0 fun i j => .bl (decide (j ≤ i))) := opB0 fun _ _ _ _ _ _ _ q => ge_int q

theorem nomark (b : Expr) {op : CmpOp} (h : op ≠ .In := by decide) (h2 : op ≠ .NotIn := by decide) : behindInMarks op b = false := by
  have e1 : (op == CmpOp.In) = false := by cases op <;> first | rfl | exact absurd rfl h
  have e2 : (op == CmpOp.NotIn) = false := by cases op <;> first | rfl | exact absurd rfl h2
  cases b <;> simp [behindInMarks, e1, e2]
/-- a comparison as a value; hm: nomark b, or (for in, not in) by with_unfolding_all rfl -/
theorem pe_cmpR {op : CmpOp} {r : R2} (ho : OpR X (compareOp op) r) (ha : PE X a ta) (hb : PE X b tb) (hm : behindInMarks op b = false) : PE X (.Compare a [op] [b] pos) (tOp r ta tb) := by
  intro pins s σ H Q I h
  exact wpAny_Compare1 (binT ha hb I h fun v u s2 x y H2 I2 rx ry q => ho pins s2 σ H2 x y v u Q I2 rx ry q) hm
/-- a reading of a value as a test -/
def tTest (t : TE) : TT := fun σ H Q => t σ H fun x H' => ∃ k, x = .bl k ∧ Q k H'
theorem pt_cmpR {op : CmpOp} {r : R2} (ho : OpR X (compareOp op) r) (ha : PE X a ta) (hb : PE X b tb) (hm : behindInMarks op b = false) : PT X (.Compare a [op] [b] pos) (tTest (tOp r ta tb)) := by
  intro pins s σ H Q I h
  refine wpAny_isTrue_Compare1 (thn (ha pins s σ H _ I h) fun v s1 ⟨x, H1, I1, r1, q1⟩ => thn (hb pins s1 σ H1 _ I1 q1) fun u s2 ⟨y, H2, I2, r2, q2⟩ =>
    thn (ho pins s2 σ H2 x y v u _ I2 r1 r2 q2) fun c s3 ⟨z, H3, I3, r3, k, e, q3⟩ => ?_) hm
  subst e
  cases r3
  exact wpAny_truthy_bool ⟨H3, I3, q3⟩
/-- a op1 b op2 c -/
def tChain (r r' : R2) (ta tb tc : TE) : TE := fun σ H Q => ta σ H fun x H1 => tb σ H1 fun y H2 => r x y H2 fun z H3 => ∃ k, z = .bl k ∧
  (if k = true then tc σ H3 fun w' H4 => r' y w' H4 Q else Q (.bl false) H3)
theorem pe_chain {op op' : CmpOp} {r r' : R2} (ho : OpR X (compareOp op) r) (ho' : OpR X (compareOp op') r') (ha : PE X a ta) (hb : PE X b tb) (hc : PE X c tc)
    (hm : lastMarks [op, op'] [b, c] = false := by with_unfolding_all rfl) : PE X (.Compare a [op, op'] [b, c] pos) (tChain r r' ta tb tc) := by
  intro pins s σ H Q I h
  refine Compare_chain (thn (ha pins s σ H _ I h) fun v s1 ⟨x, H1, I1, r1, q1⟩ => chain_link (thn (hb pins s1 σ H1 _ I1 q1) fun u s2 ⟨y, H2, I2, r2, q2⟩ =>
    thn (ho pins s2 σ H2 x y v u _ I2 r1 r2 q2) fun d s3 ⟨z, H3, I3, r3, k, e, q3⟩ => ?_)) hm
  subst e
  cases r3
  refine wpAny_truthy_bool ?_
  cases k with
  | false => exact ite_ff ⟨.bl false, H3, I3, rfl, q3⟩
  | true => exact ite_tt (chain_last (thn (hc pins s3 σ H3 _ I3 q3) fun w' s4 ⟨z', H4, I4, r4, q4⟩ => ho' pins s4 σ H4 y z' u w' Q I4 r2 r4 q4))
theorem pt_chain {op op' : CmpOp} {r r' : R2} (ho : OpR X (compareOp op) r) (ho' : OpR X (compareOp op') r') (ha : PE X a ta) (hb : PE X b tb) (hc : PE X c tc)
    (hm : lastMarks [op, op'] [b, c] = false := by with_unfolding_all rfl) : PT X (.Compare a [op, op'] [b, c] pos) (tTest (tChain r r' ta tb tc)) := by
  intro pins s σ H Q I h
  refine isTrue_chain (thn (ha pins s σ H _ I h) fun v s1 ⟨x, H1, I1, r1, q1⟩ => test_link (thn (hb pins s1 σ H1 _ I1 q1) fun u s2 ⟨y, H2, I2, r2, q2⟩ =>
    thn (ho pins s2 σ H2 x y v u _ I2 r1 r2 q2) fun d s3 ⟨z, H3, I3, r3, k, e, q3⟩ => ?_)) hm
  subst e
  cases r3
  refine wpAny_truthy_bool ?_
  cases k with
  | false =>
    obtain ⟨k', e', q'⟩ := q3
    cases e'
    exact ite_ff ⟨H3, I3, q'⟩
  | true =>
    refine ite_tt (test_last (thn (hc pins s3 σ H3 _ I3 q3) fun w' s4 ⟨z', H4, I4, r4, q4⟩ => thn (ho' pins s4 σ H4 y z' u w' _ I4 r2 r4 q4) fun d' s5 ⟨z2, H5, I5, r5, k2, e2, q5⟩ => ?_))
    subst e2
    cases r5
    exact wpAny_truthy_bool ⟨H5, I5, q5⟩

/-! ### truth -/
/-- a value's truth by the abstract heap -/
def TruV (K : PySem.W.Frag) (x : V) (H : Hp) (k : Bool) : Prop :=
  match x with
  | .non => k = false
  | .bl b => k = b
  | .int i => k = (i != 0)
  | .str y => y.length ≤ sizeLine ∧ k = ((y.length : Int) != 0)
  | .byt y => y.size ≤ sizeLine ∧ k = ((y.size : Int) != 0)
  | .ref p => (∃ xs, SqL K H p xs ∧ k = !xs.isEmpty) ∨ (∃ xs, SqT K H p xs ∧ k = !xs.isEmpty) ∨ ∃ kvs, H p = some (.dK kvs) ∧ k = !kvs.isEmpty
  | _ => False
theorem isEmpty_kv {κ : Type} {kvs : List (κ × V)} {vs : List (κ × Value)} (r : KV kvs vs) : (!vs.isEmpty) = !kvs.isEmpty := by
  cases r <;> rfl
theorem isEmpty_of {xs : List V} {its : List Value} (r : Vals xs its) : (!its.toArray.isEmpty) = !xs.isEmpty := by
  cases r <;> simp
theorem line63 : (sizeLine : Nat) < 2 ^ 63 := by rw [sizeLine_eq]; decide
theorem tru_ok : TruR X (fun x H Q => ∃ k, TruV X.K x H k ∧ Q k H) := by
  intro pins s σ H x v Q I rx h
  obtain ⟨k, e, q⟩ := h
  have hl := line63
  have hs : sizeLine = 16777216 := sizeLine_eq
  cases x with
  | non =>
    cases rx
    have e' : k = false := e
    subst e'
    exact truthy_none ⟨H, I, q⟩
  | bl b =>
    cases rx
    have e' : k = b := e
    subst e'
    exact wpAny_truthy_bool ⟨H, I, q⟩
  | int i =>
    obtain ⟨t, rfl⟩ := rx
    have e' : k = (i != 0) := e
    subst e'
    exact PySem.P.truthy_int ⟨H, I, q⟩
  | str y =>
    obtain ⟨t, rfl⟩ := rx
    obtain ⟨hy, e'⟩ : y.length ≤ sizeLine ∧ k = ((y.length : Int) != 0) := e
    subst e'
    exact PySem.P.truthy_str (by omega) ⟨H, I.tok _, q⟩
  | byt y =>
    obtain ⟨t, rfl⟩ := rx
    obtain ⟨hy, e'⟩ : y.size ≤ sizeLine ∧ k = ((y.size : Int) != 0) := e
    subst e'
    exact PySem.W.truthy_bytes (by omega) ⟨H, I.tok _, q⟩
  | ref p =>
    cases rx
    have e' : (∃ xs, SqL X.K H p xs ∧ k = !xs.isEmpty) ∨ (∃ xs, SqT X.K H p xs ∧ k = !xs.isEmpty) ∨ ∃ kvs, H p = some (.dK kvs) ∧ k = !kvs.isEmpty := e
    rcases e' with ⟨xs, hx, e'⟩ | ⟨xs, hx, e'⟩ | ⟨kvs, hx, e'⟩
    · subst e'
      obtain ⟨its, r, pl, hz⟩ := I.list hx
      have hlen := r.length
      exact wpAny_truthy_list pl.isList (by simp only [List.size_toArray]; omega) ⟨H, I.tok _, by rw [isEmpty_of r]; exact q⟩
    · subst e'
      obtain ⟨its, r, pl, hz⟩ := I.tuple hx
      have hlen := r.length
      exact truthy_tuple pl (by simp only [List.size_toArray]; omega) ⟨H, I.tok _, by rw [isEmpty_of r]; exact q⟩
    · subst e'
      obtain ⟨hz, hS, vs, r, m⟩ : kvs.length ≤ sizeLine ∧ (p == sysModules) = false ∧ ∃ vs, KV kvs vs ∧ s.heap.DictOf (mixKind X.prog X.w) p vs := I.hok p _ hx
      have hlen : kvs.length = vs.length := Paired.length r
      exact wpAny_truthy_dict hS m (by omega) ⟨H, I.tok _, by rw [isEmpty_kv r]; exact q⟩
  | _ => exact (show False from e).elim
/-- any expression whose test is its value's truth (a name, a call, a subscript, a field ..: he by fun _ => rfl) -/
theorem pt_truth (ha : PE X a ta) (he : ∀ whole, isTrue a X.env whole = (do let v ← whole; standAt a.pos; holding [v] (truthy v))) :
    PT X a (fun σ H Q => ta σ H fun x H' => ∃ k, TruV X.K x H' k ∧ Q k H') := by
  intro pins s σ H Q I h
  exact isTrue_plain (thn (ha pins s σ H _ I h) fun v s1 ⟨x, H1, I1, r1, q1⟩ => tru_ok pins s1 σ H1 x v Q I1 r1 q1) (he _)

/-! ### strs and bytes -/
theorem op_add_str : OpR X (binaryOp .Add) (fun x y H Q => ∃ i j, x = .str i ∧ y = .str j ∧ i.length + j.length ≤ sizeLine ∧ Q (.str (i ++ j)) H) := by
  intro pins s σ H x y v u Q I rx ry h
  obtain ⟨i, j, rfl, rfl, hz, q⟩ := h
  obtain ⟨t, rfl⟩ := rx
  obtain ⟨t', rfl⟩ := ry
  exact add_str (fun t' tk => ⟨.str (i ++ j), H, I.tok _, ⟨_, rfl⟩, q⟩) hz

/-! ### scalar builtins, by CallR -/
theorem vals1 {x : V} {us : List Value} (r : Vals [x] us) : ∃ u, us = [u] ∧ RelV x u := by
  cases r with
  | cons r1 r2 => cases r2; exact ⟨_, rfl, r1⟩
theorem vals2 {x y : V} {us : List Value} (r : Vals [x, y] us) : ∃ u w', us = [u, w'] ∧ RelV x u ∧ RelV y w' := by
  cases r with
  | cons r1 r2 =>
    cases r2 with
    | cons r3 r4 => cases r4; exact ⟨_, _, rfl, r1, r3⟩
end
end L2

namespace L2
open PySem PySem.Spec PyProof.Rows

/-! ### an instance, its attributes a map -/

section
variable {prog : Program} {w : World} {A : Around} {E : Value → Shared → Prop} {s : Shared} {K : PySem.W.Frag} {x dx C f : Addr} {mA : Str → Option Value} {name : Str} {v : Value}

end

/-! ### the attributes as a list of pairs -/

section
variable {P : Program} {w : World} {H H' : Hp} {h h' : Heap} {a C dx : Addr} {fs fs' : List (Str × V)}
end

/-! ### what of the text a class must have -/

section
variable {X : Cx} {pins : List (Addr × Obj)} {σ : St} {H : Hp} {s : Shared} {a C dx : Addr} {fs : List (Str × V)} {f : Str} {v : V} {A : Around} {E : Value → Shared → Prop}

end

/-! ### readings and rules -/

section
variable {X : Cx} {o e value : Expr} {f : Str} {pos pos' tpos : Pos} {ta tv : TE}

end

/-! ### isinstance -/
section
variable {X : Cx} {pins : List (Addr × Obj)} {σ : St} {H : Hp} {s : Shared} {A : Around} {E : Value → Shared → Prop} {Q : Value → Shared → Prop} {c : Value} {b : Bool}
end
end L2

namespace L2
open PySem PySem.Spec PyProof.Rows

/-! ### room -/
structure Room (k : Nat) (A : Around) : Prop where
  hd : A.handled = none
  dp : A.depth + 3 * k + 5 < recursionLimit
  un : A.units + 16 * k + 200 < cLine
theorem Room.mono {j k : Nat} {A : Around} (r : Room k A) (h : j ≤ k) : Room j A := ⟨r.hd, by have := r.dp; omega, by have := r.un; omega⟩
theorem Room.deeper {k : Nat} {A : Around} (r : Room (k + 1) A) (env : Env) : Room k (A.deeper env) :=
  ⟨r.hd, by have := r.dp; show A.depth + 1 + 3 * k + 5 < _; omega, by have := r.un; show A.units + 3 + 16 * k + 200 < _; omega⟩
theorem make_depth {A : Around} {C : Addr} {us : List Value} {kw : List (Str × Value)} : (A.under (.builtin "type.__call__" ⟨.ref C :: us, kw⟩)).depth = A.depth + 1 := by
  first | rfl | simp [Around.under, Code.weight, Code.isCreation, Code.isGuard, Code.isCaller, Code.frames, Code.isFrame, guardIds]
theorem make_units {A : Around} {C : Addr} {us : List Value} {kw : List (Str × Value)} : (A.under (.builtin "type.__call__" ⟨.ref C :: us, kw⟩)).units = A.units + 1 := by
  first | rfl | simp [Around.under, Code.cUnits, Code.frames, Code.isFrame]
theorem Room.make {k : Nat} {A : Around} (r : Room (k + 1) A) (C : Addr) (us : List Value) (kw : List (Str × Value)) : Room k (A.under (.builtin "type.__call__" ⟨.ref C :: us, kw⟩)) :=
  ⟨r.hd, by have := r.dp; rw [make_depth]; omega, by have := r.un; rw [make_units]; omega⟩
theorem Room.depth {k : Nat} {A : Around} (r : Room k A) : A.depth < recursionLimit := by have := r.dp; omega

/-! ### argument lists and displays -/
def tNil : TA := fun _ H Q => Q [] H
def tCons (ta : TE) (tr : TA) : TA := fun σ H Q => ta σ H fun x H1 => tr σ H1 fun xs H2 => Q (x :: xs) H2
section
variable {X : Cx} {e : Expr} {es : List Expr} {te : TE} {t : TA} {pos : Pos}
theorem pa_nil : PA X [] tNil := fun _ _ _ _ H Q I h => Calls.spliced_nil ⟨[], H, I, .nil, h⟩
theorem pa_cons (ha : PE X e te) (hr : PA X es t) (hs : starEach (e :: es) X.env = (false, eval e X.env) :: starEach es X.env := by rfl) : PA X (e :: es) (tCons te t) := by
  intro pos pins s σ H Q I h
  rw [hs]
  show wpAny _ _ (spliced ((false, eval e X.env) :: backTo pos (starEach es X.env))) _ _ s
  refine Calls.spliced_cons (thn (ha pins s σ H _ I h) fun u s1 ⟨x, H1, I1, r1, q1⟩ => ?_)
  exact thn (hr pos pins s1 σ H1 _ I1 q1) fun us s2 ⟨xs, H2, I2, r2, q2⟩ => ⟨x :: xs, H2, I2, .cons r1 r2, q2⟩

/-- a tuple, a list of written items -/
def tTup (t : TA) : TE := fun σ H Q => t σ H fun xs H1 => xs.length ≤ sizeLine ∧ ∀ p, H1 p = none → Q (.ref p) (upd H1 p (.tup xs))
def tLst (t : TA) : TE := fun σ H Q => t σ H fun xs H1 => xs.length ≤ sizeLine ∧ ∀ p, H1 p = none → Q (.ref p) (upd H1 p (.lst xs))
theorem pe_tup {x1} (h : PA X es t) : PE X (.Tuple es x1 pos) (tTup t) := by
  intro pins s σ H Q I hq
  refine wpAny_Tuple_spliced (thn (h pos pins s σ H _ I hq) fun us s1 ⟨xs, H1, I1, r, z, q⟩ => ⟨by rw [← r.length]; exact z, ?_⟩)
  have hf : H1 s1.heap.objs.size = none := I1.hok.fresh (Nat.le_refl _)
  refine ⟨.ref s1.heap.objs.size, upd H1 s1.heap.objs.size (.tup xs), I1.laid (t' := s1.toks) (fun b u e => Heap.get?_push_of_some _ e) (Nat.le_refl _) ?_, rfl, q _ hf⟩
  exact ⟨z, us, r, ⟨_, Heap.get?_push_size _ rfl, rfl, _, rfl⟩⟩
theorem pe_lst (h : PA X es t) : PE X (.List es pos) (tLst t) := by
  intro pins s σ H Q I hq
  refine wpAny_List_spliced (thn (h pos pins s σ H _ I hq) fun us s1 ⟨xs, H1, I1, r, z, q⟩ => ⟨by rw [← r.length]; exact z, ?_⟩)
  have hf : H1 s1.heap.objs.size = none := I1.hok.fresh (Nat.le_refl _)
  refine ⟨.ref s1.heap.objs.size, upd H1 s1.heap.objs.size (.lst xs), I1.laid (t' := s1.toks) (fun b u e => Heap.get?_push_of_some _ e) (Nat.le_refl _) ?_, rfl, q _ hf⟩
  exact ⟨z, us, 0, r, Heap.get?_push_size _ rfl⟩
end

/-! ### what a def promises -/
/-- a def's promise: the bound arguments in the parameters' order, the heap, the wanted end, the wanted exception -/
abbrev Sp := List V → Hp → VK → XK → Prop
/-- how an exception lies behind a call (file 08 gives it): the callers' frames, abstract heap and state ahead of the call, the wish, the exception, the state -/
abbrev CXT := List Env → Hp → Shared → XK → Value → Shared → Prop

/-- the state at a call -/
structure Env0 (P : Program) (w : World) (K : PySem.W.Frag) (mg : Str → Option Value) (base : Heap) (A : Around) (outer : List Env) (s : Shared) (H : Hp) : Prop where
  frames : A.frames = some outer
  mod : Mod K mg base
  bs : ∀ b o, base.get? b = some o → s.heap.get? b = some o ∧ H b = none
  bsz : base.objs.size ≤ s.heap.objs.size
  funs : s.heap.FunFrames base outer
  frf : ∀ b ∈ frs outer, H b = none
  hok : HOk P w H s.heap
  bare : AllBare s.gens
/-- a call's end -/
def CE (outer : List Env) (P : Program) (w : World) (H : Hp) (s : Shared) (Q : VK) (u : Value) (s' : Shared) : Prop :=
  ∃ v H', s'.os = s.os ∧ AllBare s'.gens ∧ Un (frs outer) [] H H' s.heap s'.heap ∧ HOk P w H' s'.heap ∧ RelV v u ∧ Q v H'
def CR (CX : CXT) (outer : List Env) (P : Program) (w : World) (H : Hp) (s : Shared) (Q : VK) (E : XK) (r : Result) (s' : Shared) : Prop :=
  match r with
  | .ok (.ret u) => CE outer P w H s Q u s'
  | .ok _ => False
  | .error e => CX outer H s E e s'
structure FnOk (P : Program) (w : World) (K : PySem.W.Frag) (mg : Str → Option Value) (base : Heap) (CX : CXT) (k : Nat) (f : Addr) (fd : FuncData) (ps : List Str) (sp : Sp) : Prop where
  len : ∀ vs H Q E, sp vs H Q E → vs.length = ps.length
  run : ∀ (A : Around) (outer : List Env) (s : Shared) (H : Hp) (args : Args) (us : List Value) (vs : List V) (Q : VK) (E : XK), Room k A → Env0 P w K mg base A outer s H → BindsTo s fd args (ps.zip us) → Vals vs us → sp vs H Q E →
    codeAny (model P w) A (.call (.ref f) args) (CR CX outer P w H s Q E) s
theorem FnOk.mono {P : Program} {w : World} {K : PySem.W.Frag} {mg : Str → Option Value} {base : Heap} {CX : CXT} {j k : Nat} {f : Addr} {fd : FuncData} {ps : List Str} {sp : Sp} (F : FnOk P w K mg base CX j f fd ps sp) (h : j ≤ k) :
    FnOk P w K mg base CX k f fd ps sp := ⟨F.len, fun A outer s H args us vs Q E hr => F.run A outer s H args us vs Q E (hr.mono h)⟩

theorem Env0.make {P : Program} {w : World} {K : PySem.W.Frag} {mg : Str → Option Value} {base : Heap} {A : Around} {outer : List Env} {s : Shared} {H : Hp} (e : Env0 P w K mg base A outer s H) (C : Addr) (us : List Value) (kw : List (Str × Value)) :
    Env0 P w K mg base (A.under (.builtin "type.__call__" ⟨.ref C :: us, kw⟩)) outer s H := ⟨by first | exact e.frames | (simpa [Around.under, Code.envs, Code.isFrame, pushEnvs] using e.frames), e.mod, e.bs, e.bsz, e.funs, e.frf, e.hok, e.bare⟩

section
variable {X : Cx} {pins : List (Addr × Obj)} {σ : St} {H : Hp} {s s' : Shared}
/-- from a body: what a callee wants -/
theorem Inv.env0 (I : Inv X pins σ H s) : Env0 X.prog X.w X.K X.mg X.base X.A X.stack s H :=
  ⟨I.ok.frames, I.ok.mod, I.bs, Nat.le_trans I.ok.bsz I.sz, I.stack, I.stkFree, I.hok, I.bare⟩
/-- behind a call -/
theorem Inv.after {Q : VK} {u : Value} (I : Inv X pins σ H s) (h : CE X.stack X.prog X.w H s Q u s') : EP X pins σ Q u s' := by
  obtain ⟨v, H', os, bare, un, hok, r, q⟩ := h
  obtain ⟨hh, g, d, t, os'⟩ := s'
  obtain rfl : os' = s.os := os
  exact ⟨v, H', I.call (h' := hh) (g' := g) (d' := d) (t' := t) (ch := []) un hok bare (fun b z => absurd z (by simp)), r, q⟩
end

/-! ### calls -/
/-- f(..): the written arguments, then the defaults dvs; E: what is wanted of an exception -/
def tCall (sp : Sp) (dvs : List V) (E : XK) (t : TA) : TE := fun σ H Q => t σ H fun vs H1 => sp (vs ++ dvs) H1 Q E

/-- how the parameters are bound: us the positional arguments, kw the keywords' values by name, ds the defaults that fill up -/
def Binds (K : PySem.W.Frag) (fd : FuncData) (ps : List Str) (ds : List Value) : Prop :=
  ∀ (s : Shared) (us : List Value), K.In s.heap → (us ++ ds).length = ps.length → BindsTo s fd ⟨us, []⟩ (ps.zip (us ++ ds))
/-- every parameter is given -/
theorem Binds.all {K : PySem.W.Frag} {fd : FuncData} {ps : List Str} (h : ∀ us : List Value, us.length = ps.length → bindArgs fd ⟨us, []⟩ = pure (ps.zip us)) : Binds K fd ps [] := fun s us _ hl => by
  rw [List.append_nil] at hl ⊢
  exact .of_eq (h us hl)

/-- an exception of a callee reaches what this body wants of exceptions -/
def Passes (CX : CXT) (X : Cx) (E : XK) : Prop := ∀ (pins : List (Addr × Obj)) (σ : St) (H : Hp) (s : Shared) (e : Value) (s' : Shared), Inv X pins σ H s → CX X.stack H s E e s' → X.xe e s'

section
variable {X : Cx} {CX : CXT} {k : Nat} {f C : Addr} {fd : FuncData} {ps : List Str} {sp : Sp} {dvs : List V} {ds : List Value} {E : XK} {x m : Str} {p pos apos : Pos} {e o : Expr} {es : List Expr} {ta : TE} {t : TA}

/-- the callee runs -/
theorem run_fn {pins : List (Addr × Obj)} {σ : St} {H : Hp} {s : Shared} {Q : VK} {us : List Value} {vs : List V} (F : FnOk X.prog X.w X.K X.mg X.base CX k f fd ps sp) (hr : Room k X.A) (hb : Binds X.K fd ps ds) (hd : Vals dvs ds) (hx : Passes CX X E)
    (I : Inv X pins σ H s) (r : Vals vs us) (h : sp (vs ++ dvs) H Q E) : wpAny (model X.prog X.w) X.A (call (.ref f) us) (EP X pins σ Q) X.xe s := by
  have r2 : Vals (vs ++ dvs) (us ++ ds) := r.append hd
  have hl : (us ++ ds).length = ps.length := by rw [← r2.length]; exact F.len _ _ _ _ h
  refine wpAny_call (codeAny_mono (F.run X.A X.stack s H ⟨us, []⟩ (us ++ ds) (vs ++ dvs) Q E hr I.env0 (hb s us I.kIn hl) r2 h) fun r s' hq => ?_)
  cases r with
  | error e => exact hx pins σ H s e s' I hq
  | ok fl =>
    cases fl with
    | ret u => exact I.after hq
    | next => exact False.elim hq
    | brk => exact False.elim hq
    | cont => exact False.elim hq

theorem pe_call (F : FnOk X.prog X.w X.K X.mg X.base CX k f fd ps sp) (hr : Room k X.A) (hg : Gl X x) (hm : X.mg x = some (.ref f)) (hk : PySem.W.keepIn X.K (.ref f) = true) (hb : Binds X.K fd ps ds) (hd : Vals dvs ds) (hx : Passes CX X E)
    (ha : PA X (e :: es) t) (hdb : (x == ("__debug__" : Str)) = false := by decide) (he : starEach (e :: es) X.env = (false, eval e X.env) :: starEach es X.env := by rfl) (hpl : (backTo pos (starEach es X.env)).any (·.1) = false := by rfl) :
    PE X (.Call (.Name x p) (e :: es) [] pos) (tCall sp dvs E t) := by
  intro pins s σ H Q I h
  refine wpAny_Call_Name_kw (ld_glob I hg hm ?_ hdb)
  refine PySem.W.callWith_K (h₀ := X.base) I.ok.mod.kin hk (thn (ha pos pins s σ H _ I h) fun us s1 ⟨vs, H1, I1, r, q⟩ => ⟨I1.kIn, ?_⟩) he hpl
  exact run_fn F hr hb hd hx I1 r q
theorem pe_call0 (F : FnOk X.prog X.w X.K X.mg X.base CX k f fd ps sp) (hr : Room k X.A) (hg : Gl X x) (hm : X.mg x = some (.ref f)) (hk : PySem.W.keepIn X.K (.ref f) = true) (hb : Binds X.K fd ps ds) (hd : Vals dvs ds) (hx : Passes CX X E)
    (hdb : (x == ("__debug__" : Str)) = false := by decide) : PE X (.Call (.Name x p) [] [] pos) (tCall sp dvs E tNil) := by
  intro pins s σ H Q I h
  refine wpAny_Call_Name_kw (ld_glob I hg hm ?_ hdb)
  exact PySem.W.callWith_K0 I.kIn hk (run_fn (us := []) F hr hb hd hx I .nil h)

end

/-! ### keywords -/
section
variable {X : Cx} {CX : CXT} {k : Nat} {f C : Addr} {fd : FuncData} {ps ks : List Str} {sp : Sp} {E : XK} {x m : Str} {p pos apos kpos : Pos} {e o : Expr} {es : List Expr} {kws : List Keyword} {te ta : TE} {t tk : TA} {nm : Option Str}

variable {g : List Value → List Value → List Value} {gV : List V → List V → List V}
end

/-! ### a def's body keeps its promise -/
/-- names: the parameters first -/
structure FnScope (N P : List Str) (sc : Scope) : Prop where
  kind : sc.kind = .function
  co : sc.isCoroutine = false
  gen : sc.isGenerator = false
  nd : N.Nodup
  pre : N.take P.length = P
  par : ∀ x ∈ P, sc.names.lookup x = some .local ∨ sc.names.lookup x = some .cell
  nofree : ∀ y ∈ sc.names, y.2 ≠ .free

theorem bindL_out {kindOf : Str → Option NameKind} {x : Str} : ∀ {binds : List (Str × Value)} {m : Str → Option Value}, (∀ v, (x, v) ∉ binds) → bindL kindOf binds m x = m x
  | [], _, _ => rfl
  | (n, v) :: r, m, h => by
    unfold bindL
    rw [bindL_out fun w hw => h w (List.mem_cons_of_mem _ hw)]
    split
    · have : x ≠ n := by rintro rfl; exact h v List.mem_cons_self
      simp [this]
    · rfl
theorem bindC_out {kindOf : Str → Option NameKind} {x : Str} : ∀ {binds : List (Str × Value)} {m : Str → Option Value}, (∀ v, (x, v) ∉ binds) → bindC kindOf binds m x = m x
  | [], _, _ => rfl
  | (n, v) :: r, m, h => by
    unfold bindC
    rw [bindC_out fun w hw => h w (List.mem_cons_of_mem _ hw)]
    split
    · rfl
    · have : x ≠ n := by rintro rfl; exact h v List.mem_cons_self
      simp [this]
theorem bindL_get {kindOf : Str → Option NameKind} {x : Str} {v : Value} : ∀ {P : List Str} {vs : List Value} {i : Nat} {m : Str → Option Value}, P.Nodup → P[i]? = some x → vs[i]? = some v → kindOf x = some .local →
    bindL kindOf (P.zip vs) m x = some v
  | [], _, _, _, _, h, _, _ => by simp at h
  | _ :: _, [], _, _, _, _, h, _ => by simp at h
  | p :: P, w :: vs, 0, m, nd, h1, h2, hk => by
    simp at h1 h2; subst h1; subst h2
    show bindL kindOf ((p, w) :: P.zip vs) m p = _
    unfold bindL
    rw [bindL_out fun v hv => (List.nodup_cons.mp nd).1 (List.of_mem_zip hv).1, if_pos hk]
    simp
  | p :: P, w :: vs, i + 1, m, nd, h1, h2, hk => by
    show bindL kindOf ((p, w) :: P.zip vs) m x = _
    unfold bindL
    exact bindL_get (i := i) (List.nodup_cons.mp nd).2 (by simpa using h1) (by simpa using h2) hk
theorem bindC_get {kindOf : Str → Option NameKind} {x : Str} {v : Value} : ∀ {P : List Str} {vs : List Value} {i : Nat} {m : Str → Option Value}, P.Nodup → P[i]? = some x → vs[i]? = some v → kindOf x ≠ some .local →
    bindC kindOf (P.zip vs) m x = some v
  | [], _, _, _, _, h, _, _ => by simp at h
  | _ :: _, [], _, _, _, _, h, _ => by simp at h
  | p :: P, w :: vs, 0, m, nd, h1, h2, hk => by
    simp at h1 h2; subst h1; subst h2
    show bindC kindOf ((p, w) :: P.zip vs) m p = _
    unfold bindC
    rw [bindC_out fun v hv => (List.nodup_cons.mp nd).1 (List.of_mem_zip hv).1, if_neg hk]
    simp
  | p :: P, w :: vs, i + 1, m, nd, h1, h2, hk => by
    show bindC kindOf ((p, w) :: P.zip vs) m x = _
    unfold bindC
    exact bindC_get (i := i) (List.nodup_cons.mp nd).2 (by simpa using h1) (by simpa using h2) hk

/-- the names' values at the entry -/
def start (N : List Str) (vs : List V) : St := vs.map some ++ List.replicate (N.length - vs.length) none

/-- the context of a def's body, at its entry; an exception leaves the frame, then lies as CX says -/
def cxOf (CX : CXT) (P : Program) (w : World) (K : PySem.W.Frag) (mg : Str → Option Value) (base : Heap) (N : List Str) (qual : Str) (scope : Scope) (f : Addr) (cd : Value) (A : Around) (outer : List Env) (s : Shared) (H : Hp) (E : XK) : Cx where
  prog := P
  w := w
  K := K
  mg := mg
  base := base
  A := A.deeper (envOfC qual scope s.heap.objs.size f cd)
  N := N
  s₀ := s
  H₀ := H
  env := envOfC qual scope s.heap.objs.size f cd
  outer := outer
  stack := envOfC qual scope s.heap.objs.size f cd :: outer
  ex := []
  calm := true
  fn := fun _ => true
  pn := []
  xe := fun e s' => wpAny (model P w) (A.deeper (envOfC qual scope s.heap.objs.size f cd)) (leaving (envOfC qual scope s.heap.objs.size f cd) e) (fun _ s'' => CX outer H s E e s'') (fun e' s'' => CX outer H s E e' s'') s'

theorem cell_has {sc : Scope} {n : Nat} {x : Str} (h : sc.names.lookup x = some .cell) : ∃ c, (cellsFrom n sc.names []).lookup x = some c := by
  have q := PySem.W.cellsFrom_some sc.names n [] (.inl h)
  exact Option.isSome_iff_exists.mp q

theorem inv_start {CX : CXT} {P : Program} {w : World} {K : PySem.W.Frag} {mg : Str → Option Value} {base : Heap} {N ps : List Str} {qual : Str} {scope : Scope} {f : Addr} {cd : Value} {A : Around} {outer : List Env} {s s1 : Shared} {H : Hp} {E : XK} {us : List Value} {vs : List V}
    (S : FnScope N ps scope) (hd : A.handled = none) (e0 : Env0 P w K mg base A outer s H) (hl : vs.length = ps.length) (r : Vals vs us)
    (x : InCallC s s.heap.objs.size (bindL (envOfC qual scope s.heap.objs.size f cd).kindOf (ps.zip us) fun _ => none) (cellsFrom (s.heap.objs.size + 1) scope.names []) (bindC (envOfC qual scope s.heap.objs.size f cd).kindOf (ps.zip us) fun _ => none) s1) :
    Inv (cxOf CX P w K mg base N qual scope f cd A outer s H E) [] (start N vs) H s1 := by
  have hpl : ps.length ≤ N.length := by have := congrArg List.length S.pre; rw [List.length_take] at this; omega
  obtain ⟨h1, tk, rfl, hk⟩ := x.done
  have noA : ∀ b : Addr, b ∉ (cxOf CX P w K mg base N qual scope f cd A outer s H E).ex := fun b z => absurd (show b ∈ ([] : List Addr) from z) (by simp)
  refine ⟨⟨e0.mod, S.kind, rfl, rfl, Nat.le_refl _, fun y z c h1 h2 => ?_, fun y hy => ?_, fun y c _ h => ?_, fun _ => hd, Around.frames_deeper e0.frames, .inr ⟨rfl, rfl⟩, fun b z => absurd z (noA b), e0.bs, e0.bsz, fun b _ _ => noA b, fun b z => absurd z (noA b), e0.funs, e0.frf⟩,
    rfl, e0.bare, Un.kept hk, ⟨_, x.toInCall.ns, fun i y v h1 h2 h3 => ?_⟩, fun y c h => ⟨_, x.cell y c h⟩, e0.hok.fresh (Nat.le_refl _), fun y c h => ?_, fun p hp => absurd (show p ∈ ([] : List (Addr × Obj)) from hp) (by simp), e0.hok.kept hk, ?_⟩
  · exact name_of_addr x.apart (PySem.mem_of_lookup h1) (PySem.mem_of_lookup h2)
  · have hy : scope.names.lookup y = some .cell ∨ scope.names.lookup y = some .free := hy
    rcases hy with hy | hy
    · exact cell_has hy
    · exact absurd rfl (S.nofree _ (PySem.mem_of_lookup hy))
  · exact Nat.le_of_lt (x.above y c (PySem.mem_of_lookup h))
  · have hi : i < vs.length := by
      unfold start at h2
      by_cases hi : i < vs.length
      · exact hi
      · rw [List.getElem?_append_right (by simpa using hi)] at h2
        rw [List.getElem?_replicate] at h2
        split at h2 <;> cases h2
    have ha : vs[i]? = some v := by
      unfold start at h2
      rw [List.getElem?_append_left (by simpa using hi), List.getElem?_map] at h2
      cases e : vs[i]? with
      | none => rw [e] at h2; cases h2
      | some a => rw [e] at h2; cases h2; rfl
    obtain ⟨u, hu, rv⟩ := r.get ha
    have hp : ps[i]? = some y := by
      rw [← S.pre, List.getElem?_take_of_lt (by omega)]; exact h1
    have ndP : ps.Nodup := by rw [← S.pre]; exact S.nd.sublist (List.take_sublist _ _)
    refine ⟨u, rv, ?_⟩
    rcases S.par y (List.mem_of_getElem? hp) with k | k
    · exact .inl ⟨k, bindL_get ndP hp hu k⟩
    · obtain ⟨c, e⟩ := cell_has (n := s.heap.objs.size + 1) k
      refine .inr ⟨.inl k, c, e, ?_⟩
      have q := x.cell y c e
      rw [bindC_get ndP hp hu (by show scope.names.lookup y ≠ _; rw [k]; decide)] at q
      exact q
  · exact e0.hok.fresh (Nat.le_of_lt (x.above y c (PySem.mem_of_lookup h)))
  · unfold start
    show _ = N.length
    rw [List.length_append, List.length_map, List.length_replicate]
    omega

/-- THE RULE: a def (or a method) of the text, by its body. The body's reading t is chosen for each entry; it is run at the parameters' values -/
theorem fn_of {CX : CXT} {P : Program} {w : World} {K : PySem.W.Frag} {mg : Str → Option Value} {base : Heap} {k : Nat} {f : Addr} {name qual : Str} {params : Arguments} {body : List Stmt} {scope : Scope} {dV kV doc pm cdv ct oc : Value} {an od : Option Addr}
    {osl : Array (Option Value)} {N ps : List Str} {sp : Sp} (lk : K.lookup f = some ⟨oc, od, .func (PySem.W.fnOf name qual params body scope dV kV doc pm an cdv ct), osl⟩) (hcd : PySem.W.codeIn K cdv qual = true) (S : FnScope N ps scope)
    (len : ∀ vs H Q E, sp vs H Q E → vs.length = ps.length)
    (hbody : ∀ (A : Around) (outer : List Env) (s : Shared) (H : Hp) (vs : List V) (Q : VK) (E : XK), Room k (A.deeper (envOfC qual scope s.heap.objs.size f cdv)) → sp vs H Q E →
      ∃ t, PSs (cxOf CX P w K mg base N qual scope f cdv A outer s H E) body t ∧ t { nx := fun _ H' => Q .non H', rt := Q } (start N vs) H) :
    FnOk P w K mg base CX (k + 1) f (PySem.W.fnOf name qual params body scope dV kV doc pm an cdv ct) ps sp := by
  refine ⟨len, fun A outer s H args us vs Q E hr e0 hb r hsp => ?_⟩
  have hl := len _ _ _ _ hsp
  have KX : K.In s.heap := e0.mod.kin.keeps fun b o e => (e0.bs b o e).1
  have lim : s.heap.NoLimit := e0.mod.nolimit.keeps fun b o e => (e0.bs b o e).1
  have hkind : ∀ y ∈ ps.zip us, scope.names.lookup y.1 = some .local ∨ (scope.names.lookup y.1 = some .cell ∧ ((cellsFrom (s.heap.objs.size + 1) scope.names []).lookup y.1).isSome = true) := fun ⟨n, v⟩ hy => by
    rcases S.par n (List.of_mem_zip hy).1 with q | q
    · exact .inl q
    · exact .inr ⟨q, PySem.W.cellsFrom_some _ _ _ (.inl q)⟩
  refine codeAny_call_function hr.depth (KX _ _ lk) rfl S.co S.gen rfl (PySem.W.codeRec_of KX hcd) (hb _ _ _ _ ?_)
  refine wpAny_newFunctionEnv_cells S.kind hkind fun env he s1 x => ?_
  subst he
  refine ⟨lim.keeps x.toInCall.keep, codeAny_func ?_⟩
  obtain ⟨t, ht, hq⟩ := hbody A outer s H vs Q E (hr.deeper _) hsp
  have I : Inv (cxOf CX P w K mg base N qual scope f cdv A outer s H E) [] (start N vs) H s1 := inv_start S hr.hd e0 hl r x
  refine wpAny_mono (ht [] s1 (start N vs) H _ I hq) (fun fl s' hs => ?_) fun e s' hs => hs
  have fin : ∀ {σ' : St} {H' : Hp} {v : V} {u : Value}, Inv (cxOf CX P w K mg base N qual scope f cdv A outer s H E) [] σ' H' s' → RelV v u → Q v H' → CE outer P w H s Q u s' :=
    fun {σ' H' v u} J rv q => ⟨v, H', J.os, J.bare, J.base, J.hok, rv, q⟩
  cases fl with
  | ret u =>
    obtain ⟨v, σ', H', J, rv, q⟩ := hs
    exact fin J rv q
  | next =>
    obtain ⟨σ', H', J, q⟩ := hs
    exact fin (v := V.non) (u := Value.none) J rfl q
  | brk =>
    obtain ⟨_, _, _, q⟩ := hs
    exact False.elim q
  | cont =>
    obtain ⟨_, _, _, q⟩ := hs
    exact False.elim q
end L2

namespace L2
open PySem PySem.Spec PyProof.Rows
section
variable {X : Cx} {x : Str} {p pos : Pos} {e : Expr} {es : List Expr} {t : TA} {id T : String} {r : List V → Hp → VK → Prop}

def tCB (r : List V → Hp → VK → Prop) (t : TA) : TE := fun σ H Q => t σ H fun vs H1 => r vs H1 Q
/-- f(e, ..), f a built-in function -/
theorem pe_callB (hc : CallR X (.builtin id) r) (hg : Gl X x) (hm : X.mg x = none) (hv : bootBuiltins x = some (.builtin id)) (ha : PA X (e :: es) t) (hn : x ≠ "__name__" := by decide) (hdb : (x == ("__debug__" : Str)) = false := by decide)
    (he : starEach (e :: es) X.env = (false, eval e X.env) :: starEach es X.env := by rfl) (hpl : (backTo pos (starEach es X.env)).any (·.1) = false := by rfl) : PE X (.Call (.Name x p) (e :: es) [] pos) (tCB r t) := by
  intro pins s σ H Q I h
  refine wpAny_Call_Name_kw (ld_blt I hg hm hv ?_ hn hdb)
  exact PyProof.Rows.callWith_builtin1 (thn (ha pos pins s σ H _ I h) fun us s1 ⟨vs, H1, I1, r1, q1⟩ => hc pins s1 σ H1 vs us Q I1 r1 q1) he hpl
/-- T(e, ..), T a built-in type -/
theorem pe_callTy (hc : CallR X (.type T) r) (hg : Gl X x) (hm : X.mg x = none) (hv : bootBuiltins x = some (.type T)) (ha : PA X (e :: es) t) (hn : x ≠ "__name__" := by decide) (hdb : (x == ("__debug__" : Str)) = false := by decide)
    (he : starEach (e :: es) X.env = (false, eval e X.env) :: starEach es X.env := by rfl) (hpl : (backTo pos (starEach es X.env)).any (·.1) = false := by rfl) : PE X (.Call (.Name x p) (e :: es) [] pos) (tCB r t) := by
  intro pins s σ H Q I h
  refine wpAny_Call_Name_kw (ld_blt I hg hm hv ?_ hn hdb)
  exact PyProof.Rows.callWith_type1 (thn (ha pos pins s σ H _ I h) fun us s1 ⟨vs, H1, I1, r1, q1⟩ => hc pins s1 σ H1 vs us Q I1 r1 q1) he hpl
end
end L2

namespace HT
open PySem PyProof.Rows

section
open PySem.SeqAt
open PySem.AutoSeq1 (wpAny_loadPart')
open PySem.MeetsSeq PySem.MeetsSeq2 PySem.MeetsSeq3

end

section
variable {prog : Program} {w : World} {A : Around} {E : Value → Shared → Prop} {s : Shared}

/-! ### t[a:b], not the whole -/
/-- a slice's bound as a place among n (d where it is left out) -/
def sIx (n d : Nat) : Option Int → Nat
  | none => d
  | some v => if v < 0 then (v + (n : Int)).toNat else min v.toNat n
theorem sIx_none (n d : Nat) : sIx n d none = d := rfl
theorem sIx_nat (n d k : Nat) : sIx n d (some (k : Int)) = min k n := by
  show (if (k : Int) < 0 then ((k : Int) + (n : Int)).toNat else min (k : Int).toNat n) = min k n
  rw [if_neg (by omega), Int.toNat_natCast]
theorem sIx_le (n d : Nat) (hd : d ≤ n) (o : Option Int) : sIx n d o ≤ n := by
  cases o with
  | none => exact hd
  | some v =>
    show (if v < 0 then (v + (n : Int)).toNat else min v.toNat n) ≤ n
    by_cases hv : v < 0
    · rw [if_pos hv]; omega
    · rw [if_neg hv]; exact Nat.min_le_right _ _
theorem clip_eq (v : Int) (n d : Nat) : (if v < 0 then max (v + (n : Int)) 0 else min v (n : Int)) = ((sIx n d (some v) : Nat) : Int) := by
  show (if v < 0 then max (v + (n : Int)) 0 else min v (n : Int)) = (((if v < 0 then (v + (n : Int)).toNat else min v.toNat n) : Nat) : Int)
  by_cases hv : v < 0
  · simp only [if_pos hv]; omega
  · simp only [if_neg hv]; omega
theorem adjust_gen (lo hi : Option Int) (n : Nat) : Builtin.Slice.sliceAdjust lo hi 1 (n : Int) = (((sIx n 0 lo : Nat) : Int), ((sIx n n hi : Nat) : Int)) := by
  have h1 : ¬ ((1 : Int) < 0) := by omega
  unfold Builtin.Slice.sliceAdjust
  simp only [h1, if_false]
  refine Prod.ext ?_ ?_
  · cases lo with
    | none => rfl
    | some v => exact clip_eq v n 0
  · cases hi with
    | none => rfl
    | some v => exact clip_eq v n n
theorem places_gen (i j : Nat) : Builtin.Slice.slicePlaces (i : Int) (j : Int) 1 = j - i := by
  unfold Builtin.Slice.slicePlaces
  have h1 : (1 : Int) > 0 := by omega
  simp only [h1, if_true, Int.ediv_one]
  split <;> omega
theorem slicePart_ {v : Value} {o : Option Int} {Q : Option Int → Shared → Prop} (p : IsPart v o) (h : Q o s) : wpAny (model prog w) A (Builtin.Slice.slicePartIndex v) Q E s := by
  cases p with
  | none => exact slicePart_none h
  | int i t => exact slicePart_int h
theorem sliceApplied_gen {sl : Addr} {vl vu : Value} {lo hi : Option Int} {n : Nat} {Q : Int × Int × Nat → Shared → Prop} (hs : s.heap.IsSliceOf sl vl vu .none) (pl : IsPart vl lo) (pu : IsPart vu hi)
    (h : Q (((sIx n 0 lo : Nat) : Int), 1, sIx n n hi - sIx n 0 lo) s) : wpAny (model prog w) A (Builtin.Slice.sliceApplied (.ref sl) (pure (n : Int))) Q E s := by
  obtain ⟨os, hos, hcs, hds⟩ := id hs
  unfold Builtin.Slice.sliceApplied Builtin.Slice.sliceFields
  refine wpAny_bind (wpAny_bind (wpAny_field hos hds (x := vl) rfl (wpAny_bind (wpAny_field hos hds (x := vu) rfl (wpAny_bind (wpAny_field hos hds (x := .none) rfl (wpAny_pure ?_)))))))
  refine wpAny_bind (slicePart_none ?_)
  show wpAny _ _ (if ((1 : Int) == 0) = true then _ else _) _ _ s
  rw [if_neg (by decide)]
  refine wpAny_bind (slicePart_ pl (wpAny_bind (slicePart_ pu (wpAny_bind (wpAny_pure ?_)))))
  show wpAny _ _ (match Builtin.Slice.sliceAdjust lo hi 1 (n : Int) with | (lo, hi) => pure (lo, (1 : Int), Builtin.Slice.slicePlaces lo hi 1)) _ _ s
  rw [adjust_gen lo hi n]
  show wpAny _ _ (pure (((sIx n 0 lo : Nat) : Int), (1 : Int), Builtin.Slice.slicePlaces ((sIx n 0 lo : Nat) : Int) ((sIx n n hi : Nat) : Int) 1)) _ _ s
  rw [places_gen]
  exact wpAny_pure h
theorem pick_gen (xs : Array Value) (i k : Nat) : ((List.range k).filterMap fun (m : Nat) => xs[((i : Int) + (m : Int) * 1).toNat]?).toArray = ((xs.toList.drop i).take k).toArray := by
  have e : (fun (m : Nat) => xs[((i : Int) + (m : Int) * 1).toNat]?) = fun m => xs[i + m]? := by
    funext m
    have : ((i : Int) + (m : Int) * 1).toNat = i + m := by omega
    rw [this]
  rw [e]
  have := pick_run xs i k
  rw [List.filterMap_map] at this
  have e2 : ((fun x => xs[x]?) ∘ fun x => i + x) = fun m => xs[i + m]? := rfl
  rw [e2] at this
  rw [this]

theorem getItem_tuple_cut {t sl : Addr} {items : Array Value} {vl vu : Value} {lo hi : Option Int} {Q : Value → Shared → Prop} (ht : IsTup s.heap t items) (hs : s.heap.IsSliceOf sl vl vu .none) (pl : IsPart vl lo) (pu : IsPart vu hi)
    (hw : ¬ (sIx items.size 0 lo = 0 ∧ sIx items.size items.size hi = items.size))
    (h : Q (.ref s.heap.objs.size) { s with heap := s.heap.push { cls := .type "tuple", data := .seq ((items.toList.drop (sIx items.size 0 lo)).take (sIx items.size items.size hi - sIx items.size 0 lo)).toArray } })
    (hsz : items.size ≤ sizeLine) : wpAny (model prog w) A (getItem (.ref t) (.ref sl)) Q E s := by
  have htake : sizeOk (.seq ((items.toList.drop (sIx items.size 0 lo)).take (sIx items.size items.size hi - sIx items.size 0 lo)).toArray) := by
    show ((items.toList.drop (sIx items.size 0 lo)).take (sIx items.size items.size hi - sIx items.size 0 lo)).toArray.size ≤ sizeLine
    rw [List.size_toArray, List.length_take, List.length_drop, Array.length_toList]
    omega
  have hj : sIx items.size items.size hi ≤ items.size := sIx_le _ _ (Nat.le_refl _) hi
  obtain ⟨os, hos, hcs, hds⟩ := id hs
  have hTs : s.TypeIs (.ref sl) "slice" := ⟨os, hos, hcs⟩
  unfold getItem
  try with_reducible refine wpAny_holding ?_
  first | refine wpAny_bind (wpAny_pure ?_) | skip
  refine wpAny_bind (wpAny_sequenceKey ht.typeIs (by decide) ?_)
  refine wpAny_bind (wpAny_callSpecial?_slot (name := Str.ofString "__getitem__") ht.typeIs PyProof.Rows.slot_tuple_getitem
    (wpAny_call_entry PyProof.Rows.slot_tuple_getitem ht.typeIs entry_tuple_getitem ?_ (args_tuple_getitem _ _)))
  show wpAny _ _ (Builtin.Tuple.tupleItemsOf (.ref t) >>= _) _ _ s
  refine wpAny_bind (tupleItemsOf_ ht ?_)
  refine wpAny_bind (wpAny_typeOf hTs ?_)
  rw [if_pos (by decide)]
  refine wpAny_bind (sliceApplied_gen hs pl pu ?_)
  have hno : ¬ ((((sIx items.size 0 lo : Nat) : Int) == 0 && (1 : Int) == 1 && (sIx items.size items.size hi - sIx items.size 0 lo) == items.size) = true) := by
    intro q
    rw [Bool.and_eq_true, Bool.and_eq_true] at q
    have q1 : ((sIx items.size 0 lo : Nat) : Int) = 0 := eq_of_beq q.1.1
    have q2 : sIx items.size items.size hi - sIx items.size 0 lo = items.size := eq_of_beq q.2
    exact hw ⟨by omega, by omega⟩
  show wpAny _ _ (if (((sIx items.size 0 lo : Nat) : Int) == 0 && (1 : Int) == 1 && (sIx items.size items.size hi - sIx items.size 0 lo) == items.size) = true then _ else _) _ _ s
  rw [if_neg hno, pick_gen]
  first
    | exact wpAny_bind (m := Builtin.Tuple.tupleExact _) (wpAny_newObj_type (wpAny_pure ⟨_, rfl, wpAny_pure h⟩) htake)
    | exact wpAny_bind (m := Builtin.Tuple.tupleExact _) (wpAny_newObj_type (wpAny_bind (wpAny_pure (wpAny_pure ⟨_, rfl, wpAny_pure h⟩))) htake)
    | exact wpAny_bind (wpAny_bind (m := Builtin.Tuple.tupleExact _) (wpAny_newObj_type (wpAny_pure (wpAny_pure ⟨_, rfl, wpAny_pure h⟩)) htake))
    | exact wpAny_bind (wpAny_bind (m := Builtin.Tuple.tupleExact _) (wpAny_newObj_type (wpAny_pure ⟨_, rfl, wpAny_pure h⟩) htake))
end
end HT

namespace L2
open PySem PySem.Spec PyProof.Rows

/-! ### the parts of a slice -/
abbrev TO := St → Hp → (Option Int → Hp → Prop) → Prop
/-- a slice's part (left out, or an int) -/
def PO (X : Cx) (e : Option Expr) (t : TO) : Prop :=
  ∀ (pins : List (Addr × Obj)) (s : Shared) (σ : St) (H : Hp) (Q : Option Int → Hp → Prop), Inv X pins σ H s → t σ H Q →
    wpAny (model X.prog X.w) X.A (evalPart e X.env) (fun u s' => ∃ o H', Inv X pins σ H' s' ∧ IsPart u o ∧ Q o H') X.xe s
def tNoPart : TO := fun _ H Q => Q none H
def tPart (t : TE) : TO := fun σ H Q => t σ H fun x H1 => ∃ i, x = .int i ∧ Q (some i) H1

section
variable {X : Cx} {e : Expr} {te : TE} {lo hi : Option Expr} {tl th : TO} {pos p2 : Pos}

theorem po_none : PO X none tNoPart := by
  intro pins s σ H Q I h
  rw [evalPart_none]
  exact wpAny_pure ⟨none, H, I, .none, h⟩
theorem po_some (h : PE X e te) : PO X (some e) (tPart te) := by
  intro pins s σ H Q I hw
  rw [evalPart_some]
  refine thn (h pins s σ H _ I hw) fun u s1 ⟨x, H1, I1, r1, q1⟩ => ?_
  obtain ⟨i, rfl, q⟩ := q1
  obtain ⟨t, rfl⟩ := r1
  exact ⟨some i, H1, I1, .int i t, q⟩

/-- what a slice of a value is, by values: the slice object stands at sl -/
def SlR (X : Cx) (r : V → Option Int → Option Int → Hp → VK → Prop) : Prop :=
  ∀ (pins : List (Addr × Obj)) (s : Shared) (σ : St) (H : Hp) (x : V) (v vl vu : Value) (lo hi : Option Int) (sl : Addr) (Q : VK), Inv X pins σ H s → RelV x v → s.heap.IsSliceOf sl vl vu .none → IsPart vl lo → IsPart vu hi → r x lo hi H Q →
    ∃ T id, typeLookup (.type T) "__getitem__" = pure (some (.builtin id)) ∧ s.TypeIs v T ∧ wpAny (model X.prog X.w) X.A (getItem v (.ref sl)) (EP X pins σ Q) X.xe s
def tSl (r : V → Option Int → Option Int → Hp → VK → Prop) (te : TE) (tl th : TO) : TE := fun σ H Q => te σ H fun x H1 => tl σ H1 fun l H2 => th σ H2 fun u H3 => r x l u H3 Q
/-- a[lo:hi], any a -/
theorem pe_slice {r : V → Option Int → Option Int → Hp → VK → Prop} (hr : SlR X r) (he : PE X e te) (hl : PO X lo tl) (hu : PO X hi th) : PE X (.Subscript e (.Slice lo hi none p2) pos) (tSl r te tl th) := by
  intro pins s σ H Q I h
  refine Subscript_ (thn (he pins s σ H _ I h) fun v s1 ⟨x, H1, I1, r1, q1⟩ => ?_)
  refine wpAny_Slice (thn (hl pins s1 σ H1 _ I1 q1) fun vl s2 ⟨l, H2, I2, pl, q2⟩ => thn (hu pins s2 σ H2 _ I2 q2) fun vu s3 ⟨u, H3, I3, pu, q3⟩ => ?_)
  rw [evalPart_none]
  refine wpAny_pure ?_
  have I4 : Inv X pins σ H3 { s3 with heap := s3.heap.push { cls := .type "slice", data := .fields #[vl, vu, .none] } } := I3.kept (t' := s3.toks) fun b ob q => Heap.get?_push_of_some _ q
  obtain ⟨T, id, hT, ht, hg⟩ := hr pins { s3 with heap := s3.heap.push { cls := .type "slice", data := .fields #[vl, vu, .none] } } σ H3 x v vl vu l u s3.heap.objs.size Q I4 r1 (Heap.IsSliceOf.new ..) pl pu q3
  show wpAny (model X.prog X.w) X.A (subscriptTail e (.Slice lo hi none p2) v (.ref s3.heap.objs.size)) (EP X pins σ Q) X.xe { s3 with heap := s3.heap.push { cls := .type "slice", data := .fields #[vl, vu, .none] } }
  exact tail_any (ops := [.ref s3.heap.objs.size, v]) ht hT hg (by with_unfolding_all rfl)

/-- the items of xs[lo:hi] -/
def cutV (xs : List V) (lo hi : Option Int) : List V := (xs.drop (HT.sIx xs.length 0 lo)).take (HT.sIx xs.length xs.length hi - HT.sIx xs.length 0 lo)
theorem cutV_length (xs : List V) (lo hi : Option Int) : (cutV xs lo hi).length ≤ xs.length := by
  unfold cutV
  rw [List.length_take, List.length_drop]
  omega
/-- t[lo:hi], not the whole of it (the whole would be t itself) -/
def rSlT (K : PySem.W.Frag) : V → Option Int → Option Int → Hp → VK → Prop := fun x lo hi H Q => ∃ a xs, x = .ref a ∧ SqT K H a xs ∧
  ¬ (HT.sIx xs.length 0 lo = 0 ∧ HT.sIx xs.length xs.length hi = xs.length) ∧ ∀ p, H p = none → Q (.ref p) (upd H p (.tup (cutV xs lo hi)))
theorem sl_tup : SlR X (rSlT X.K) := by
  intro pins s σ H x v vl vu lo hi sl Q I rx hs pl pu h
  obtain ⟨a, xs, rfl, hx, hw, q⟩ := h
  cases rx
  obtain ⟨its, r, ht, hz⟩ := I.tuple hx
  have hlen : its.toArray.size = xs.length := by rw [List.size_toArray]; exact r.length.symm
  refine ⟨"tuple", _, PyProof.Rows.slot_tuple_getitem.lookup, ht.typeIs, ?_⟩
  refine HT.getItem_tuple_cut ht hs pl pu (by rw [hlen]; exact hw) ?_ (by rw [hlen]; exact hz)
  rw [hlen]
  refine ⟨.ref s.heap.objs.size, _, I.laid (t' := s.toks) (o := .tup (cutV xs lo hi)) (fun b ob q => Heap.get?_push_of_some _ q) (Nat.le_refl _) ?_, rfl, q _ (I.hok.fresh (Nat.le_refl _))⟩
  exact ⟨Nat.le_trans (cutV_length xs lo hi) hz, _, (r.drop (HT.sIx xs.length 0 lo)).take (HT.sIx xs.length xs.length hi - HT.sIx xs.length 0 lo), IsTup.new _ _⟩

/-! ### t < u, t + u -/
end
end L2

namespace L2
open PySem PySem.Spec PyProof.Rows

/-! ### places -/
/-- the place that an index of any sign means -/
def ixN (n : Nat) (i : Int) : Option Nat := if 0 ≤ i then (if i < n then some i.toNat else none) else if -(n : Int) ≤ i then some (i + n).toNat else none
def atI {α : Type} (xs : List α) (i : Int) : Option α := (ixN xs.length i).bind fun j => xs[j]?
theorem ixN_seq {n : Nat} {i : Int} {j : Nat} (h : ixN n i = some j) : seqIndex? i n = some j ∧ j < n ∧ -(n : Int) ≤ i ∧ i < n := by
  unfold ixN at h
  by_cases h0 : 0 ≤ i
  · rw [if_pos h0] at h
    by_cases h1 : i < n
    · rw [if_pos h1] at h
      have e : i.toNat = j := Option.some.inj h
      exact ⟨by rw [seqIndex_of h0 h1, e], by omega, by omega, h1⟩
    · rw [if_neg h1] at h; cases h
  · rw [if_neg h0] at h
    by_cases h1 : -(n : Int) ≤ i
    · rw [if_pos h1] at h
      have e : (i + n).toNat = j := Option.some.inj h
      exact ⟨by rw [seqIndex_neg (by omega) h1, e], by omega, h1, by omega⟩
    · rw [if_neg h1] at h; cases h
theorem atI_get {α : Type} {xs : List α} {i : Int} {v : α} (h : atI xs i = some v) : ∃ j, seqIndex? i xs.length = some j ∧ xs[j]? = some v ∧ j < xs.length ∧ -(xs.length : Int) ≤ i ∧ i < xs.length := by
  unfold atI at h
  cases e : ixN xs.length i with
  | none => rw [e] at h; cases h
  | some j =>
    rw [e] at h
    obtain ⟨h1, h2, h3, h4⟩ := ixN_seq e
    exact ⟨j, h1, h, h2, h3, h4⟩
theorem atI_nat {α : Type} {xs : List α} {j : Nat} {v : α} (h : xs[j]? = some v) : atI xs (j : Int) = some v := by
  have hj : j < xs.length := (List.getElem?_eq_some_iff.mp h).1
  have e : ixN xs.length (j : Int) = some j := by
    unfold ixN
    rw [if_pos (by omega), if_pos (by omega)]; simp
  unfold atI; rw [e]; exact h

/-! ### what may be subscripted -/
/-- what stands as an index of a plain subscript -/
def PlainIx (b : Expr) : Prop := ∀ o i, subscripted b false o i = operate [o, i] (getItem o i)
/-- a subscript by values -/
def IxR (X : Cx) (r : R2) : Prop :=
  ∀ (value slice : Expr) (pins : List (Addr × Obj)) (s : Shared) (σ : St) (H : Hp) (x y : V) (v u : Value) (Q : VK), Inv X pins σ H s → RelV x v → RelV y u → r x y H Q →
    subscripted slice false v u = operate [v, u] (getItem v u) → wpAny (model X.prog X.w) X.A (subscriptTail value slice v u) (EP X pins σ Q) X.xe s
/-- a call of a builtin's method by values: the receiver, the arguments -/
def MtR (X : Cx) (id : String) (r : V → List V → Hp → VK → Prop) : Prop :=
  ∀ (pins : List (Addr × Obj)) (s : Shared) (σ : St) (H : Hp) (x : V) (xs : List V) (v : Value) (us : List Value) (Q : VK), Inv X pins σ H s → RelV x v → Vals xs us → r x xs H Q →
    wpAny (model X.prog X.w) X.A (call (.builtin id) (v :: us)) (EP X pins σ Q) X.xe s
section
variable {X : Cx} {a b : Expr} {ta tb : TE} {pos : Pos}
/-- a[b] -/
theorem pe_ix {r : R2} (hr : IxR X r) (ha : PE X a ta) (hb : PE X b tb) (hs : PlainIx b) : PE X (.Subscript a b pos) (tOp r ta tb) := by
  intro pins s σ H Q I h
  exact Subscript_ (binT ha hb I h fun v u s2 x y H2 I2 rx ry q => hr a b pins s2 σ H2 x y v u Q I2 rx ry q (hs _ _))

def rIxL (K : PySem.W.Frag) : R2 := fun x y H Q => ∃ p xs i v, x = .ref p ∧ y = .int i ∧ SqL K H p xs ∧ atI xs i = some v ∧ Q v H
def rIxT (K : PySem.W.Frag) : R2 := fun x y H Q => ∃ p xs i v, x = .ref p ∧ y = .int i ∧ SqT K H p xs ∧ atI xs i = some v ∧ Q v H
def rIxS : R2 := fun x y H Q => ∃ z i c, x = .str z ∧ y = .int i ∧ z.length ≤ sizeLine ∧ atI z.cps.toList i = some c ∧ Q (.str ⟨#[c]⟩) H
theorem ix_list : IxR X (rIxL X.K) := by
  intro value slice pins s σ H x y v u Q I rx ry h hs
  obtain ⟨p, xs, i, z, rfl, rfl, hq, he, q⟩ := h
  cases rx
  obtain ⟨t, rfl⟩ := ry
  obtain ⟨its, r, pl, hz⟩ := I.list hq
  obtain ⟨j, h1, h2, h3, h4, h5⟩ := atI_get he
  obtain ⟨w, ew, rw'⟩ := r.get h2
  have hl := r.length
  have hn := line63
  have fin : EP X pins σ Q w s := ⟨z, H, I, rw', q⟩
  by_cases h0 : 0 ≤ i
  · have hj : i.toNat = j := by
      rw [seqIndex_of h0 h5] at h1
      exact Option.some.inj h1
    exact item_listR pl.isList h0 (by omega) (by rw [hj]; simpa using ew) fin hs
  · have hj : (i + (its.toArray.size : Int)).toNat = j := by
      rw [seqIndex_neg (by omega) h4] at h1
      rw [List.size_toArray, ← hl]
      exact Option.some.inj h1
    exact subscriptTail_builtinR (x := w) pl.isList.typeIs slot_list_getitem.lookup
      (wpAny_getItem_list_neg (Q := fun r s' => r = w ∧ EP X pins σ Q r s') pl.isList (by omega) (by rw [List.size_toArray] <;> omega) (by omega) (by rw [hj]; simpa using ew) ⟨rfl, fin⟩) hs
theorem ix_tup : IxR X (rIxT X.K) := by
  intro value slice pins s σ H x y v u Q I rx ry h hs
  obtain ⟨p, xs, i, z, rfl, rfl, hq, he, q⟩ := h
  cases rx
  obtain ⟨t, rfl⟩ := ry
  obtain ⟨its, r, pl, hz⟩ := I.tuple hq
  obtain ⟨j, h1, h2, h3, h4, h5⟩ := atI_get he
  obtain ⟨w, ew, rw'⟩ := r.get h2
  have hl := r.length
  have hn := line63
  have fin : EP X pins σ Q w s := ⟨z, H, I, rw', q⟩
  exact subscriptTail_builtinR (x := w) pl.typeIs slot_tuple_getitem.lookup
    (getItem_tuple (j := j) (Q := fun r s' => r = w ∧ EP X pins σ Q r s') pl (by omega) (by omega) (by rw [List.size_toArray, ← hl]; exact h1) (by simpa using ew) ⟨rfl, fin⟩) hs
theorem ix_str : IxR X rIxS := by
  intro value slice pins s σ H x y v u Q I rx ry h hs
  obtain ⟨z, i, c, rfl, rfl, hz, he, q⟩ := h
  obtain ⟨t, rfl⟩ := rx
  obtain ⟨t', rfl⟩ := ry
  obtain ⟨j, h1, h2, h3, h4, h5⟩ := atI_get he
  have hl : z.cps.toList.length = z.length := by simp [Str.length]
  rw [hl] at h1 h4 h5
  have hn := line63
  exact tail_any (typeIs_str s z t) slot_str_getitem.lookup (getItem_str (c := c) (by
    have e1 : decide (i < -(2 ^ 63 : Int)) = false := decide_eq_false (by omega)
    have e2 : decide (i ≥ 2 ^ 63) = false := decide_eq_false (by omega)
    rw [e1, e2, Bool.or_false]) (by rw [h1]; simpa using h2) ⟨.str ⟨#[c]⟩, H, I.tok _, ⟨_, rfl⟩, q⟩) hs

/-! ### xs[i] = v, any sign -/
/-- the list's object behind a store -/
theorem mapSeq_set (its : List Value) (n j : Nat) (u : Value) : Obj.mapSeq (·.setIfInBounds j u) { cls := .type "list", data := .seq its.toArray n } = { cls := .type "list", data := .seq (its.set j u).toArray n } := by
  simp [Obj.mapSeq]
theorem Inv.lst {pins : List (Addr × Obj)} {σ : St} {H : Hp} {s : Shared} {p : Addr} {xs : List V} (I : Inv X pins σ H s) (h : H p = some (.lst xs)) :
    ∃ (its : List Value) (n : Nat), Vals xs its ∧ s.heap.get? p = some { cls := .type "list", data := .seq its.toArray n } ∧ xs.length ≤ sizeLine := by
  obtain ⟨z, its, n, r, e⟩ := I.hok p _ h
  exact ⟨its, n, r, e, z⟩
/-- the list at p is written by an update of its object -/
theorem Inv.lstUpd {pins : List (Addr × Obj)} {σ : St} {H : Hp} {s : Shared} {p : Addr} {xs ys : List V} {its its' : List Value} {n n' : Nat} {f : Obj → Obj} (I : Inv X pins σ H s) (h : H p = some (.lst xs))
    (ho : s.heap.get? p = some { cls := .type "list", data := .seq its.toArray n }) (hf : f { cls := .type "list", data := .seq its.toArray n } = { cls := .type "list", data := .seq its'.toArray n' }) (r : Vals ys its') (hz : ys.length ≤ sizeLine) (t : Nat) :
    Inv X pins σ (upd H p (.lst ys)) { s with heap := s.heap.update p f, toks := t } := by
  have e : (s.heap.update p f).get? p = some { cls := .type "list", data := .seq its'.toArray n' } := by
    rw [Heap.get?_update_self f ho (by rw [hf] <;> rfl), hf]
  refine I.write (x := p) (e := p) (by rw [h]; trivial) (.inl rfl) (fun b u hb q => (Heap.get?_update_other _ _ (Ne.symm hb)).trans q) ⟨_, e⟩ ?_
  exact ⟨hz, its', n', r, e⟩
def rSetL : V → V → V → Hp → (Hp → Prop) → Prop := fun o i v H Q => ∃ p xs k j, o = .ref p ∧ i = .int k ∧ H p = some (.lst xs) ∧ ixN xs.length k = some j ∧ Q (upd H p (.lst (xs.set j v)))
theorem set_list : PSet X rSetL := by
  intro pins s σ H o i v ov iv u Q I ro ri rv h
  obtain ⟨p, xs, k, j, rfl, rfl, hp, hj, q⟩ := h
  cases ro
  obtain ⟨t, rfl⟩ := ri
  obtain ⟨its, n, r, ho, hz⟩ := I.lst hp
  obtain ⟨h1, h2, h3, h4⟩ := ixN_seq hj
  have hl := r.length
  have hn := line63
  have I' : Inv X pins σ (upd H p (.lst (xs.set j v))) { s with heap := s.heap.update p (Obj.mapSeq (·.setIfInBounds j u)) } :=
    I.lstUpd hp ho (mapSeq_set its n j u) (r.set rv j) (by rw [List.length_set]; exact hz) s.toks
  by_cases h0 : 0 ≤ k
  · have hk : k.toNat = j := by
      rw [seqIndex_of h0 h4] at h1
      exact Option.some.inj h1
    exact PySem.W.ki_setAt ho h0 (by omega) (by rw [List.size_toArray, ← hl]; exact h4) (by rw [hk]; exact ⟨_, I', q⟩)
  · have hk : (k + (its.toArray.size : Int)).toNat = j := by
      rw [seqIndex_neg (by omega) h3] at h1
      rw [List.size_toArray, ← hl]
      exact Option.some.inj h1
    exact PySem.W.ki_setBack ho (by omega) (by rw [List.size_toArray, ← hl]; exact h3) (by omega) (by rw [hk]; exact ⟨_, I', q⟩)

/-! ### slices -/
theorem slice_bounds (lo hi : Option Int) (n : Nat) : (sliceBounds lo hi none n).1 = ((HT.sIx n 0 lo : Nat) : Int) ∧ (sliceBounds lo hi none n).2.1 = ((HT.sIx n n hi : Nat) : Int) ∧ (sliceBounds lo hi none n).2.2 = 1 := by
  refine ⟨?_, ?_, rfl⟩
  · cases lo with
    | none => simp [sliceBounds, HT.sIx]
    | some i =>
      simp only [sliceBounds, HT.sIx, Option.getD_none, show (1 : Int) > 0 by decide, if_true]
      by_cases h : i < 0
      · simp only [h, if_true] <;> omega
      · simp only [h, if_false] <;> omega
  · cases hi with
    | none => simp [sliceBounds, HT.sIx]
    | some i =>
      simp only [sliceBounds, HT.sIx, Option.getD_none, show (1 : Int) > 0 by decide, if_true]
      by_cases h : i < 0
      · simp only [h, if_true] <;> omega
      · simp only [h, if_false] <;> omega
theorem slicePick_cut (its : List Value) (lo hi : Option Int) : slicePick its.toArray lo hi none = ((its.drop (HT.sIx its.length 0 lo)).take (HT.sIx its.length its.length hi - HT.sIx its.length 0 lo)).toArray := by
  obtain ⟨h1, h2, h3⟩ := slice_bounds lo hi its.toArray.size
  unfold slicePick
  rw [h1, h2, h3]
  simp only [sliceRange_one, pick_run, List.size_toArray] <;> rfl
/-- xs[lo:hi] of a list: a new list -/
def rSlL (K : PySem.W.Frag) : V → Option Int → Option Int → Hp → VK → Prop := fun x lo hi H Q => ∃ a xs, x = .ref a ∧ SqL K H a xs ∧ ∀ p, H p = none → Q (.ref p) (upd H p (.lst (cutV xs lo hi)))
theorem sl_list : SlR X (rSlL X.K) := by
  intro pins s σ H x v vl vu lo hi sl Q I rx hs pl pu h
  obtain ⟨a, xs, rfl, hx, q⟩ := h
  cases rx
  obtain ⟨its, r, ht, hz⟩ := I.list hx
  have hlen := r.length
  refine ⟨"list", _, slot_list_getitem.lookup, ht.isList.typeIs, ?_⟩
  refine wpAny_getItem_list_slice ht.isList hs pl pu .none (by simp) ?_ (by rw [List.size_toArray] <;> omega)
  rw [slicePick_cut, ← hlen]
  refine ⟨.ref s.heap.objs.size, _, I.laid (t' := s.toks) (o := .lst (cutV xs lo hi)) (fun b ob q => Heap.get?_push_of_some _ q) (Nat.le_refl _) ?_, rfl, q _ (I.hok.fresh (Nat.le_refl _))⟩
  exact ⟨Nat.le_trans (cutV_length xs lo hi) hz, _, 0, (r.drop (HT.sIx xs.length 0 lo)).take (HT.sIx xs.length xs.length hi - HT.sIx xs.length 0 lo), Heap.get?_push_size _ rfl⟩

/-! ### in, not in: flat items -/
def flatV : V → Bool
  | .non => true
  | .bl _ => true
  | .int _ => true
  | .str _ => true
  | _ => false
/-- == of flat values -/
def eqV : V → V → Bool
  | .non, .non => true
  | .bl a, .bl b => a == b
  | .bl a, .int b => (if a then 1 else 0) == b
  | .int a, .bl b => a == (if b then 1 else 0)
  | .int a, .int b => a == b
  | .str a, .str b => a == b
  | _, _ => false
theorem eqAt_V {A : Around} {s : Shared} {y x : V} {u v : Value} (ry : RelV y u) (rx : RelV x v) (fy : flatV y = true) (fx : flatV x = true) : SeqAt.EqAt A s u v (eqV y x) := by
  cases y with
  | non =>
    cases ry
    cases x with
    | non => cases rx; exact SeqAt.EqAt.same _
    | bl b => cases rx; exact SeqAt.EqAt.none_bool b
    | int b => obtain ⟨t, rfl⟩ := rx; exact SeqAt.EqAt.none_int b t
    | str b => obtain ⟨t, rfl⟩ := rx; exact SeqAt.EqAt.none_str b t
    | _ => exact absurd (show false = true from fx) Bool.false_ne_true
  | bl a =>
    cases ry
    cases x with
    | non => cases rx; exact SeqAt.EqAt.bool_none a
    | bl b => cases rx; exact SeqAt.EqAt.bool_bool a b
    | int b => obtain ⟨t, rfl⟩ := rx; exact SeqAt.EqAt.bool_int a b t
    | str b => obtain ⟨t, rfl⟩ := rx; exact SeqAt.EqAt.bool_str a b t
    | _ => exact absurd (show false = true from fx) Bool.false_ne_true
  | int a =>
    obtain ⟨t', rfl⟩ := ry
    cases x with
    | non => cases rx; exact SeqAt.EqAt.int_none a t'
    | bl b => cases rx; exact SeqAt.EqAt.int_bool a t' b
    | int b => obtain ⟨t, rfl⟩ := rx; exact SeqAt.EqAt.int_int a t' b t
    | str b => obtain ⟨t, rfl⟩ := rx; exact SeqAt.EqAt.int_str a t' b t
    | _ => exact absurd (show false = true from fx) Bool.false_ne_true
  | str a =>
    obtain ⟨t', rfl⟩ := ry
    cases x with
    | non => cases rx; exact SeqAt.EqAt.str_none a t'
    | bl b => cases rx; exact SeqAt.EqAt.str_bool a t' b
    | int b => obtain ⟨t, rfl⟩ := rx; exact SeqAt.EqAt.str_int a t' b t
    | str b => obtain ⟨t, rfl⟩ := rx; exact SeqAt.EqAt.str_str a t' b t
    | _ => exact absurd (show false = true from fx) Bool.false_ne_true
  | _ => exact absurd (show false = true from fy) Bool.false_ne_true
/-- the items' answers, read off the values (a value's own answer does not lean on its token) -/
def eqU (x : V) (u : Value) : Bool := match u with
  | .none => eqV .non x
  | .bool b => eqV (.bl b) x
  | .int i _ => eqV (.int i) x
  | .str z _ => eqV (.str z) x
  | _ => false
theorem eqU_of {x y : V} {u : Value} (r : RelV y u) (f : flatV y = true) : eqU x u = eqV y x := by
  cases y with
  | non => cases r; rfl
  | bl b => cases r; rfl
  | int i => obtain ⟨t, rfl⟩ := r; rfl
  | str z => obtain ⟨t, rfl⟩ := r; rfl
  | _ => exact absurd (show false = true from f) Bool.false_ne_true
theorem any_eqU {x : V} : ∀ {xs : List V} {us : List Value}, Vals xs us → xs.all flatV = true → us.any (eqU x) = xs.any fun y => eqV y x
  | _, _, .nil, _ => rfl
  | y :: xs, u :: us, .cons r t, f => by
    rw [List.all_cons, Bool.and_eq_true] at f
    rw [List.any_cons, List.any_cons, eqU_of r f.1, any_eqU t f.2]
theorem mem_eqAt {A : Around} {s : Shared} {x : V} {v : Value} (rx : RelV x v) (fx : flatV x = true) : ∀ {xs : List V} {us : List Value}, Vals xs us → xs.all flatV = true → ∀ u ∈ us, SeqAt.EqAt A s u v (eqU x u)
  | _, _, .nil, _ => fun u hu => by cases hu
  | y :: xs, u :: us, .cons r t, f => fun u' hu => by
    rw [List.all_cons, Bool.and_eq_true] at f
    rcases List.mem_cons.mp hu with rfl | hu
    · rw [eqU_of r f.1]; exact eqAt_V r rx f.1 fx
    · exact mem_eqAt rx fx t f.2 u' hu
def inV (x : V) (xs : List V) : Bool := xs.any fun y => eqV y x
/-- x in a list or tuple of flat items -/
def rIn (K : PySem.W.Frag) (neg : Bool) : R2 := fun x y H Q => ∃ p xs, y = .ref p ∧ (SqL K H p xs ∨ SqT K H p xs) ∧ flatV x = true ∧ xs.all flatV = true ∧ Q (.bl (if neg then !inV x xs else inV x xs)) H
theorem op_in_seq : OpR X (compareOp .In) (rIn X.K false) := by
  intro pins s σ H x y v u Q I rx ry h
  obtain ⟨p, xs, rfl, hq, fx, fs, q⟩ := h
  cases ry
  rcases hq with hq | hq
  · obtain ⟨its, r, pl, hz⟩ := I.list hq
    refine SeqAt.in_listAt (eqU x) pl.isList (fun w hw => mem_eqAt rx fx r fs w (by simpa using hw)) ⟨.bl _, H, I, rfl, ?_⟩
    rw [show its.toArray.any (eqU x) = its.any (eqU x) by simp, any_eqU r fs]
    exact q
  · obtain ⟨its, r, pl, hz⟩ := I.tuple hq
    refine SeqAt.in_tupleAt (eqU x) pl (fun w hw => mem_eqAt rx fx r fs w (by simpa using hw)) ⟨.bl _, H, I, rfl, ?_⟩
    rw [show its.toArray.any (eqU x) = its.any (eqU x) by simp, any_eqU r fs]
    exact q
theorem op_notIn_seq : OpR X (compareOp .NotIn) (rIn X.K true) := by
  intro pins s σ H x y v u Q I rx ry h
  obtain ⟨p, xs, rfl, hq, fx, fs, q⟩ := h
  cases ry
  rcases hq with hq | hq
  · obtain ⟨its, r, pl, hz⟩ := I.list hq
    refine SeqAt.notIn_listAt (eqU x) pl.isList (fun w hw => mem_eqAt rx fx r fs w (by simpa using hw)) ⟨.bl _, H, I, rfl, ?_⟩
    rw [show its.toArray.any (eqU x) = its.any (eqU x) by simp, any_eqU r fs]
    exact q
  · obtain ⟨its, r, pl, hz⟩ := I.tuple hq
    refine SeqAt.notIn_tupleAt (eqU x) pl (fun w hw => mem_eqAt rx fx r fs w (by simpa using hw)) ⟨.bl _, H, I, rfl, ?_⟩
    rw [show its.toArray.any (eqU x) = its.any (eqU x) by simp, any_eqU r fs]
    exact q

/-! ### len, list(x), tuple(x) of any list or tuple that is read -/
theorem call_len_seq : CallR X (.builtin "len") (fun xs H Q => ∃ p ys, xs = [.ref p] ∧ (SqL X.K H p ys ∨ SqT X.K H p ys) ∧ Q (.int ys.length) H) := by
  intro pins s σ H xs us Q I r h
  obtain ⟨p, ys, rfl, hq, q⟩ := h
  obtain ⟨u, rfl, rx⟩ := vals1 r
  cases rx
  have hn := line63
  rcases hq with hq | hq
  · obtain ⟨its, r', pl, hz⟩ := I.list hq
    have hlen := r'.length
    exact Calls.call_len_list pl.isList (by simp only [List.size_toArray] <;> omega) ⟨.int ys.length, H, I.tok _, ⟨s.toks + 1, by rw [List.size_toArray, hlen]⟩, q⟩
  · obtain ⟨its, r', pl, hz⟩ := I.tuple hq
    have hlen := r'.length
    exact len_tuple pl (by simp only [List.size_toArray] <;> omega) ⟨.int ys.length, H, I.tok _, ⟨s.toks + 1, by rw [List.size_toArray, hlen]⟩, q⟩
theorem call_len_str : CallR X (.builtin "len") (fun xs H Q => ∃ z, xs = [.str z] ∧ z.length ≤ sizeLine ∧ Q (.int z.length) H) := by
  intro pins s σ H xs us Q I r h
  obtain ⟨z, rfl, hz, q⟩ := h
  obtain ⟨u, rfl, t, rfl⟩ := vals1 r
  have hn := line63
  exact len_str (by omega) ⟨.int z.length, H, I.tok _, ⟨_, rfl⟩, q⟩
theorem call_list_of : CallR X (.type "list") (fun xs H Q => ∃ p ys, xs = [.ref p] ∧ (SqL X.K H p ys ∨ SqT X.K H p ys) ∧ ∀ l, H l = none → Q (.ref l) (upd H l (.lst ys))) := by
  intro pins s σ H xs us Q I r h
  obtain ⟨p, ys, rfl, hq, q⟩ := h
  obtain ⟨u, rfl, rx⟩ := vals1 r
  cases rx
  have fin : ∀ (its : List Value), Vals ys its → ys.length ≤ sizeLine → ∀ (h' : Heap) (c' : Nat), (∀ b o', s.heap.get? b = some o' → h'.get? b = some o') →
      h'.get? s.heap.objs.size = some { cls := .type "list", dict := none, data := .seq its.toArray c', slots := #[] } → EP X pins σ Q (.ref s.heap.objs.size) { s with heap := h' } := fun its r' hz h' c' kp e =>
    ⟨.ref s.heap.objs.size, _, I.laid (t' := s.toks) kp (Nat.le_refl _) (show ObjOk X.prog X.w _ h' _ (.lst ys) from ⟨hz, its, c', r', e⟩), rfl, q _ (I.hok.fresh (Nat.le_refl _))⟩
  rcases hq with hq | hq
  · obtain ⟨its, r', pl, hz⟩ := I.list hq
    have hlen := r'.length
    obtain ⟨o, ho, hc, n, hd⟩ := pl.isList
    exact call_list_seq p (.inl rfl) ho hc hd (fun h' c' kp e => fin its r' hz h' c' kp e) (by simp only [List.size_toArray] <;> omega)
  · obtain ⟨its, r', pl, hz⟩ := I.tuple hq
    have hlen := r'.length
    obtain ⟨o, ho, hc, n, hd⟩ := pl
    exact call_list_seq p (.inr rfl) ho hc hd (fun h' c' kp e => fin its r' hz h' c' kp e) (by simp only [List.size_toArray] <;> omega)
theorem call_tuple_of : CallR X (.type "tuple") (fun xs H Q => ∃ p ys, xs = [.ref p] ∧ ((SqL X.K H p ys ∧ ∀ l, H l = none → Q (.ref l) (upd H l (.tup ys))) ∨ (SqT X.K H p ys ∧ Q (.ref p) H))) := by
  intro pins s σ H xs us Q I r h
  obtain ⟨p, ys, rfl, h⟩ := h
  obtain ⟨u, rfl, rx⟩ := vals1 r
  cases rx
  rcases h with ⟨hq, q⟩ | ⟨hq, q⟩
  · obtain ⟨its, r', pl, hz⟩ := I.list hq
    have hlen := r'.length
    refine call_tuple_list pl.isList (fun h' kp => ?_) (by simp only [List.size_toArray] <;> omega)
    have I1 : Inv X pins σ H { s with heap := h' } := I.kept (t' := s.toks) kp
    have I2 : Inv X pins σ (upd H h'.objs.size (.tup ys)) { s with heap := h'.push { cls := .type "tuple", data := .seq its.toArray } } :=
      I1.laid (t' := s.toks) (fun b o e => Heap.get?_push_of_some _ e) (Nat.le_refl _) (show ObjOk X.prog X.w _ _ _ (.tup ys) from ⟨hz, its, r', IsTup.new _ _⟩)
    exact ⟨.ref h'.objs.size, _, I2, rfl, q _ (I1.hok.fresh (Nat.le_refl _))⟩
  · obtain ⟨its, r', pl, hz⟩ := I.tuple hq
    exact call_tuple_same pl ⟨.ref p, H, I, rfl, q⟩

/-! ### the call of a builtin's method: o.m(..) -/
/-- the value is of that builtin type -/
def tyV (K : PySem.W.Frag) (T : String) (x : V) (H : Hp) : Prop := match x with
  | .str _ => T = "str"
  | .int _ => T = "int"
  | .ref p => (T = "list" ∧ ∃ xs, SqL K H p xs) ∨ (T = "tuple" ∧ ∃ o, K.lookup p = some o ∧ o.cls = .type "tuple" ∧ o.dict = none) ∨
      (T = "dict" ∧ ((∃ kvs, H p = some (.dK kvs)) ∨ ∃ kvs, H p = some (.dT kvs))) ∨ (T = "set" ∧ ∃ S n, H p = some (.set S n))
  | _ => False
theorem tyV_is {pins : List (Addr × Obj)} {σ : St} {H : Hp} {s : Shared} {T : String} {x : V} {v : Value} (I : Inv X pins σ H s) (r : RelV x v) (ty : tyV X.K T x H) :
    s.TypeIs v T ∧ ∀ a, v = .ref a → ∃ ob, s.heap.get? a = some ob ∧ ob.dict = none := by
  cases x with
  | str z =>
    obtain ⟨t, rfl⟩ := r
    cases (show T = "str" from ty)
    exact ⟨typeIs_str s z t, fun _ e => nomatch e⟩
  | int i =>
    obtain ⟨t, rfl⟩ := r
    cases (show T = "int" from ty)
    exact ⟨typeIs_int s i t, fun _ e => nomatch e⟩
  | ref p =>
    cases r
    rcases ty with ⟨rfl, xs, hq⟩ | ⟨rfl, o, hk, hc, hd⟩ | ⟨rfl, hk⟩ | ⟨rfl, S, n, hk⟩
    · obtain ⟨its, _, pl, _⟩ := I.list hq
      refine ⟨pl.isList.typeIs, fun a e => ?_⟩
      cases e
      obtain ⟨o, n, e, c, hd, _⟩ := pl
      exact ⟨o, e, hd⟩
    · refine ⟨⟨o, I.kIn p o hk, hc⟩, fun a e => ?_⟩
      cases e
      exact ⟨o, I.kIn _ o hk, hd⟩
    · have z : ∃ o, s.heap.get? p = some o ∧ o.ExactDict := by
        rcases hk with ⟨kvs, hk⟩ | ⟨kvs, hk⟩
        · obtain ⟨_, _, _, _, o, _, _, e, ex, _⟩ := I.hok p _ hk
          exact ⟨o, e, ex⟩
        · obtain ⟨_, _, _, _, o, _, _, e, ex, _⟩ := I.hok p _ hk
          exact ⟨o, e, ex⟩
      obtain ⟨o, e, ex⟩ := z
      refine ⟨⟨o, e, ex.1⟩, fun a e2 => ?_⟩
      cases e2
      exact ⟨o, e, ex.2.1⟩
    · obtain ⟨o, _, _, _, e, ex, _⟩ := I.hok p _ hk
      refine ⟨⟨o, e, ex.1⟩, fun a e2 => ?_⟩
      cases e2
      exact ⟨o, e, ex.2.1⟩
  | _ => exact False.elim ty
def tBM (K : PySem.W.Frag) (T : String) (r : V → List V → Hp → VK → Prop) (to : TE) (t : TA) : TE := fun σ H Q => to σ H fun x H1 => tyV K T x H1 ∧ t σ H1 fun xs H2 => r x xs H2 Q
variable {o e : Expr} {es : List Expr} {to : TE} {t : TA} {name : Str} {apos cpos : Pos} {T id : String} {r : V → List V → Hp → VK → Prop}
theorem pe_bm (pa : PlainAttrs T) (slot : Slot T name id) (hty : typeOf (.builtin id) = pure (.type "method_descriptor")) (hm : MtR X id r) (ho : PE X o to) (ha : PA X (e :: es) t)
    (hbase : attributeBase o name X.env (eval o X.env) = eval o X.env := by rfl)
    (hfew : ((backTo cpos (starEach (e :: es) X.env)).all (fun x => !x.1) && (backToKw cpos (keywordEach [] X.env)).all (fun x => x.1.isSome)
      && decide ((e :: es).length + ([] : List Keyword).length + (if ([] : List Keyword).isEmpty then 0 else 1) < 30)) = true := by rfl)
    (hline : (apos.endLine == cpos.line) = true := by rfl) (hs : starEach (e :: es) X.env = (false, eval e X.env) :: starEach es X.env := by rfl) (hplain : (backTo cpos (starEach es X.env)).any (·.1) = false := by rfl) :
    PE X (.Call (.Attribute o name apos) (e :: es) [] cpos) (tBM X.K T r to t) := by
  intro pins s σ H Q I h
  refine wpAny_Call_method_late hbase hfew hline rfl (thn (ho pins s σ H _ I h) fun v s1 ⟨x, H1, I1, r1, ty, q1⟩ => ?_)
  obtain ⟨h1, h2⟩ := tyV_is I1 r1 ty
  refine ⟨T, id, pa, slot, hty, h1, h2, ?_⟩
  have hA := ha cpos pins s1 σ H1 _ I1 q1
  rw [hs] at hA ⊢
  refine Calls.callWith_builtin (by show (false || (backTo cpos (starEach es X.env)).any (·.1)) = false; rw [hplain] <;> rfl) (Calls.evalArgs_plain ?_)
  exact thn hA fun us s2 ⟨vs, H2, I2, r2, q2⟩ => hm pins s2 σ H2 x vs v us Q I2 r1 r2 q2
/- xs.append(e), list.index on a module's tuple .. are MtR facts of 06m -/
end
end L2

namespace L2
open PySem PySem.Spec PyProof.Rows

def MtM (X : Cx) (id : String) (r : V → List V → Hp → VK → Prop) : Prop :=
  ∀ (pins : List (Addr × Obj)) (s : Shared) (σ : St) (H : Hp) (x : V) (xs : List V) (v : Value) (us : List Value) (Q : VK), Inv X pins σ H s → RelV x v → Vals xs us → r x xs H Q →
    wpAny (model X.prog X.w) X.A (call (.builtin id) (v :: us)) (EP X pins σ Q) X.xe s

/-! ### lists of values -/
theorem Vals.one : ∀ {x : V} {us : List Value}, Vals [x] us → ∃ u, us = [u] ∧ RelV x u
  | _, _, .cons r .nil => ⟨_, rfl, r⟩
theorem foldl_rep (its : List Value) : ∀ (k : Nat) (acc : List Value),
    List.foldl (fun x1 x2 => x1 ++ x2) acc.toArray (List.replicate k its.toArray) = (acc ++ (List.replicate k its).flatten).toArray
  | 0, acc => by simp
  | k + 1, acc => by
    have e : acc.toArray ++ its.toArray = (acc ++ its).toArray := by simp
    have e2 : (acc ++ its) ++ (List.replicate k its).flatten = acc ++ (List.replicate (k + 1) its).flatten := by
      rw [List.replicate_succ, List.flatten_cons, List.append_assoc]
    rw [← e2, ← foldl_rep its k (acc ++ its), ← e, List.replicate_succ, List.foldl_cons]

section
variable {X : Cx} {pins : List (Addr × Obj)} {σ : St} {H : Hp} {s : Shared} {l b : Addr} {xs ys zs : List V}

/-! ### the two steps: a tracked list is rewritten, a new list is laid -/
theorem Inv.lset {its its' : List Value} {n : Nat} {f : Array Value → Array Value} {t' : Nat} (I : Inv X pins σ H s) (hH : H l = some (.lst xs))
    (e : s.heap.get? l = some { cls := .type "list", data := .seq its.toArray n }) (hf : f its.toArray = its'.toArray) (hv : Vals ys its') (hz : ys.length ≤ sizeLine) :
    Inv X pins σ (upd H l (.lst ys)) { s with heap := s.heap.update l (Obj.mapSeq f), toks := t' } := by
  have q := PySem.IsL.update e f
  rw [hf] at q
  refine I.write (x := l) (e := l) (by rw [hH]; exact trivial) (.inl rfl) (fun b' u hb hu => (Heap.get?_update_other s.heap (Obj.mapSeq f) (Ne.symm hb)).trans hu) ⟨_, q⟩ ?_
  exact ⟨hz, its', _, hv, q⟩
theorem Inv.lnew {its : List Value} {t' : Nat} (I : Inv X pins σ H s) (hv : Vals ys its) (hz : ys.length ≤ sizeLine) :
    Inv X pins σ (upd H s.heap.objs.size (.lst ys)) { s with heap := s.heap.push { cls := .type "list", data := .seq its.toArray }, toks := t' } :=
  I.laid (fun _ _ q => Heap.get?_push_of_some _ q) (Nat.le_refl _) ⟨hz, its, 0, hv, Heap.get?_push_size _ rfl⟩
theorem Inv.fresh (I : Inv X pins σ H s) : H s.heap.objs.size = none := I.hok.fresh (Nat.le_refl _)
theorem Inv.lstM (I : Inv X pins σ H s) (hH : H l = some (.lst xs)) : xs.length ≤ sizeLine ∧ ∃ (its : List Value) (n : Nat), Vals xs its ∧ xs.length = its.length ∧ s.heap.get? l = some { cls := .type "list", data := .seq its.toArray n } := by
  obtain ⟨z, its, n, r, e⟩ := I.hok l _ hH
  exact ⟨z, its, n, r, r.length, e⟩

theorem notLongL {n : Nat} (h : n ≤ sizeLine) : Builtin.List.listTooLong n = false := by
  unfold Builtin.List.listTooLong
  exact decide_eq_false (by omega)
end

section
variable {X : Cx}

/-! ### methods -/
def rAppend : V → List V → Hp → VK → Prop := fun x vs H Q => ∃ l xs y, x = .ref l ∧ vs = [y] ∧ H l = some (.lst xs) ∧ xs.length < sizeLine ∧ Q .non (upd H l (.lst (xs ++ [y])))
theorem mt_append : MtM X "list.append" rAppend := by
  intro pins s σ H x vs v us Q I rx rv h
  obtain ⟨l, xs, y, rfl, rfl, hH, hz, q⟩ := h
  cases rx
  obtain ⟨u, rfl, ru⟩ := rv.one
  obtain ⟨z, its, n, r, hl, e⟩ := I.lstM hH
  refine call_meets F.slot_list_append ⟨_, e, rfl⟩ F.entry_list_append (F.args_list_append_2 _ _) (PySem.list_append l its.toArray n u (by rw [List.size_toArray]; omega)) ⟨e, ?_⟩
  refine ⟨.non, _, I.lset (its' := its ++ [u]) hH e (by simp) (r.append (.cons ru .nil)) ?_, rfl, q⟩
  rw [List.length_append, List.length_singleton]
  omega

def rExtend : V → List V → Hp → VK → Prop := fun x vs H Q => ∃ l b xs zs, x = .ref l ∧ vs = [.ref b] ∧ H l = some (.lst xs) ∧ H b = some (.lst zs) ∧ xs.length + zs.length ≤ sizeLine ∧ Q .non (upd H l (.lst (xs ++ zs)))
theorem mt_extend : MtM X "list.extend" rExtend := by
  intro pins s σ H x vs v us Q I rx rv h
  obtain ⟨l, b, xs, zs, rfl, rfl, hH, hB, hz, q⟩ := h
  cases rx
  obtain ⟨u, rfl, ru⟩ := rv.one
  cases ru
  obtain ⟨z, its, n, r, hl, e⟩ := I.lstM hH
  obtain ⟨z2, its2, n2, r2, hl2, e2⟩ := I.lstM hB
  have hsz : its.toArray.size + its2.toArray.size ≤ sizeLine := by rw [List.size_toArray, List.size_toArray]; omega
  have hlong : ¬ (!its.toArray.isEmpty && Builtin.List.listTooLong (its.toArray.size + its2.toArray.size)) = true := by
    rw [notLongL hsz, Bool.and_false]
    exact Bool.false_ne_true
  refine call_meets F.slot_list_extend ⟨_, e, rfl⟩ F.entry_list_extend (F.args_list_extend_2 _ _)
    (AutoSeq1.list_extend_list_list_0 l its.toArray n b its2.toArray n2 hlong (by rw [List.size_toArray]; omega) (by omega)) ⟨e, e2, ?_⟩
  refine ⟨.non, _, I.lset (its' := its ++ its2) hH e (by simp) (r.append r2) ?_, rfl, q⟩
  rw [List.length_append]
  omega

/-! ### list + list, list += list, list * int -/
theorem len_rep {α : Type} (xs : List α) (k : Nat) : (List.replicate k xs).flatten.length = k * xs.length := by
  induction k with
  | zero => simp
  | succ k ih => rw [List.replicate_succ, List.flatten_cons, List.length_append, ih, Nat.succ_mul, Nat.add_comm]

/-! ### del xs[i] -/
end

/-! ### xs[a:b] = ys -/
section
variable {prog : Program} {w : World} {A : Around} {E : Value → Shared → Prop} {s : Shared}
set_option maxRecDepth 100000 in
end

section
variable {X : Cx}
end
end L2

namespace L2
open PySem PySem.Spec PyProof.Rows

/-! ### lists of pairs as tables -/
section
variable {κ : Type} [DecidableEq κ]

end

/-! ### a tracked dict, its keys ints and texts or tuples of these -/

section
variable {P : Program} {w : World} {H : Hp} {h : Heap} {a : Addr}
end

section
variable {X : Cx} {pins : List (Addr × Obj)} {σ : St} {H : Hp} {s : Shared} {a : Addr} {y v : V} {u r : Value} {o : Option V} {A : Around} {E : Value → Shared → Prop}

end

section
variable {X : Cx} {pins : List (Addr × Obj)} {σ : St} {H : Hp} {s : Shared} {a : Addr} {kvs : List (Key × V)} {k : Key} {u : Value} {A : Around} {E : Value → Shared → Prop}
end

/-! ### readings and rules -/

section
variable {X : Cx} {o i e value : Expr} {pos pos' tpos : Pos} {td ty tv : TE}
end

/-! ### displays -/
section
variable {X : Cx} {pos : Pos}
end

/-! ### methods -/
structure M2 (X : Cx) (o : Expr) (m : Str) (apos : Pos) (e f : Expr) (cpos : Pos) : Prop where
  base : attributeBase o m X.env (eval o X.env) = eval o X.env
  few : ((backTo cpos (starEach [e, f] X.env)).all (fun x => !x.1) && (backToKw cpos (keywordEach [] X.env)).all (fun x => x.1.isSome)
    && decide (([e, f] : List Expr).length + ([] : List Keyword).length + (if ([] : List Keyword).isEmpty then 0 else 1) < 30)) = true
  line : (apos.endLine == cpos.line) = true
  trees : backTo cpos (starEach [e, f] X.env) = [(false, eval e X.env), (false, eval f X.env)]

section
variable {X : Cx} {pins : List (Addr × Obj)} {σ : St} {H : Hp} {s : Shared} {a : Addr} {y d : V} {u r : Value} {o : Option V} {A : Around} {E : Value → Shared → Prop}
end

section
variable {X : Cx} {o e f : Expr} {apos cpos : Pos} {td ty tx : TE}
end

/-! ### dict(d): a copy -/
section
variable {X : Cx} {pins : List (Addr × Obj)} {σ : St} {H : Hp} {s : Shared} {a : Addr} {kvs : List (Key × V)} {A : Around} {E : Value → Shared → Prop}
end

section
variable {X : Cx} {pins : List (Addr × Obj)} {σ : St} {H : Hp} {s : Shared} {a : Addr} {y : V} {u : Value} {A : Around} {E : Value → Shared → Prop}
end
end L2

namespace Att
open PySem PySem.W PySem.Calls PyProof.Rows

/-! ### the script -/
theorem ints_of_wellAll {P : Params} {h : Heap} : ∀ (ns : List Int) (vs : List Value), WellAll P h vs (ns.map WData.int) → IntsAre vs ns := by
  intro ns
  induction ns with
  | nil =>
    intro vs w
    rw [List.map_nil] at w
    cases w
    exact .nil
  | cons n ns ih =>
    intro vs w
    rw [List.map_cons] at w
    cases w with
    | cons a b =>
      cases a
      exact .cons _ _ (ih _ b)

theorem script_of {l : OpenLaw} {n : Nat} (hn : l.most = some n) {P : Params} {h : Heap} {args : List WData} {vals : List Value}
    (hpre : l.row.toRowW.claim.pre args = true) (hwl : WellAll P h vals args) :
    ∃ a vs ns, vals = [Value.ref a] ∧ args = [WData.list (ns.map WData.int)] ∧ h.get? a = some { cls := .type "list", data := .seq vs.toArray } ∧ IntsAre vs ns ∧ ns.length ≤ n := by
  have hsh : WShape.hasAll [] args [.list .int] = true := (pre_splitW hpre).1
  have hc : l.pre.holds [] { args := args } = true := (pre_splitW hpre).2
  obtain ⟨d, r, rfl, h1, h2⟩ := hasAllW_cons hsh
  obtain rfl := hasAllW_nil h2
  obtain ⟨xs, rfl, h3⟩ := hasW_list h1
  obtain ⟨ns, rfl⟩ := items_int h3
  have hlen : ns.length ≤ n := by
    unfold OpenLaw.pre at hc
    have h4 : (WTm.not (.lt (.lit (.int (n : Int))) (.len (.arg 0)))).holds [] { args := [.list (ns.map .int)] } = true := by
      have h4 := (holds_andW hc).1
      rw [hn] at h4
      exact h4
    have h5 := condW_of h4 (w_not (w_lt w_lit (w_len_list (w_arg rfl))))
    rw [List.length_map] at h5
    refine Nat.le_of_not_lt fun q => ?_
    have q' : (n : Int) < ((ns.length : Nat) : Int) := by omega
    first
      | (rw [decide_eq_true q'] at h5; exact absurd h5 (by decide))
      | (simp at h5; omega)
  cases hwl with
  | cons w1 w2 =>
    cases w2
    cases w1 with
    | list ho hall => exact ⟨_, _, ns, rfl, rfl, ho, ints_of_wellAll ns _ hall, hlen⟩

theorem post_true (l : OpenLaw) (args : List WData) : l.row.toRowW.claim.post args (.bool true) args = true :=
  postW_of (r := l.row.toRowW) (X := (true == true))
    (show WShape.has [] (.bool true) .bool = true by first | rfl | decide | simp [WShape.has, WShape.arms, WShape.armsAll])
    (show (WTm.eq .res (.lit (.bool true))).value [] { args := args, res := some (.bool true), after := args } = some (.bool (true == true)) from w_eq_bool (w_res rfl) w_lit) rfl

/-! ### the attachment: holds_open's last premise (the goal 'hc' behind k_head) from a wpAny of the law's body -/

/-- the same from a codeAny of the CALL (for a layer whose function contracts speak of calls) -/
theorem attach_call {l : OpenLaw} {n : Nat} {q : Program} {loose : List Str} {XP : (Str → Option Value) → Heap → Prop} {YP : World → Heap → Prop} {d : DefRec}
    (hn : l.most = some n) (hdf : d.params.defaults = [])
    (call : ∀ (w : World) (s₀ s₁ : Shared) (mg mb : Str → Option Value) (fa : Addr) (o : Obj) (pm cd doc : Value) (a : Addr) (vs : List Value) (ns : List Int),
      Ground q loose [] XP w s₀ mg mb s₁.heap → YP w s₁.heap →
      s₁.heap.get? fa = some o → o.data = .func (docDef d.name d.params d.body d.scope pm cd doc) → s₁.heap.CodeRec cd d.name → mg d.name = some (.ref fa) →
      s₁.heap.get? a = some { cls := .type "list", data := .seq vs.toArray } → IntsAre vs ns → ns.length ≤ n → s₁.gens = #[] →
      codeAny (model l.prog w) callerA (.call (.ref fa) ⟨[.ref a], []⟩) (fun r s' => r = .ok (.ret (.bool true)) ∧ OldK s₁.heap s'.heap ∧ s'.os = s₁.os ∧ AllBare s'.gens) s₁) :
    WalkO q loose XP YP l.row.toRowW d [] (fun f vs => PySem.call f vs) := by
  intro w s₀ s₁ mg mb G Y fa o pm cd doc dV kV ho hd hcd hD hmg hg args vals as hpre hlay hrd hwl hlo
  obtain rfl : dV = .none := Dflts.none hD hdf
  obtain rfl : kV = .none := Dflts.noKw hD
  obtain ⟨a, vs, ns, rfl, rfl, hobj, hints, hlen⟩ := script_of hn hpre hwl
  refine enter_call (codeAny_mono (call w s₀ s₁ mg mb fa o pm cd doc a vs ns G Y ho (fd_plain hd) hcd hmg hobj hints hlen hg) fun r s' hq => ?_)
  obtain ⟨rfl, h2, h3, h4⟩ := hq
  exact ⟨.inl ⟨.bool true, .bool true, [], rfl, fun _ => rfl, .bool true, post_true l _, fun _ => ⟨List.Pairwise.nil, fun _ hm => (nomatch hm)⟩⟩, h2, h3, h4⟩

/-! ### rules over ANY heap (no ledger) from facts about the written part K: the library's own take a ledger (News) for what they write -/
section
variable {prog : Program} {w : World} {A : Around} {E : Value → Shared → Prop} {s : Shared} {K : Frag}

/-! the whole heap as the ledger: makes every rule that writes through a ledger a rule over any heap -/

end
end Att

namespace L2
open PySem PySem.Spec PyProof.Rows

theorem vals_ints : ∀ {vs : List Value} {ns : List Int}, IntsAre vs ns → Vals (ns.map V.int) vs
  | _, _, .nil => .nil
  | _, _, .cons n t h => .cons ⟨t, rfl⟩ (vals_ints h)

/-- nothing is tracked but the script, known to the object (or it is an object of the module) -/
def Only (H : Hp) : Prop := ∀ b, H b = none ∨ ∃ o xs, H b = some (.frz o (.lst xs))

/-- THE HEAD: the law's promise, at the heap behind the top. F, the promise of the law's def, may use that base is part of the heap (so K.In base, base.Ns mainGlobals mg stand in Mod) -/
theorem law_call {P : Program} {w : World} {K : PySem.W.Frag} {mg mb : Str → Option Value} {CX : CXT} {k : Nat} {fa a : Addr} {fd : FuncData} {x : Str} {sp : Sp} {s₁ : Shared} {vs : List Value} {ns : List Int}
    (KX : K.In s₁.heap) (hns : s₁.heap.Ns mainGlobals mg) (hb : s₁.heap.Ns builtinsNs mb) (hbb : ∀ x : Str, x ≠ "__name__" → mb x = bootBuiltins x) (hlim : s₁.heap.NoLimit) (hg : s₁.gens = #[])
    (ha : s₁.heap.get? a = some { cls := .type "list", data := .seq vs.toArray }) (hi : IntsAre vs ns) (hl : ns.length ≤ sizeLine) (hr : Room k callerA)
    (F : ∀ base : Heap, K.In base → base.Ns mainGlobals mg → FnOk P w K mg base CX k fa fd [x] sp) (hbind : ∀ (s : Shared) (u : Value), BindsTo s fd ⟨[u], []⟩ [(x, u)])
    (hsp : ∀ H : Hp, Only H → SqL K H a (ns.map V.int) → sp [.ref a] H (fun v _ => v = .bl true) fun _ _ _ => False)
    (hCX : ∀ H e s', CX [] H s₁ (fun _ _ _ => False) e s' → False) :
    codeAny (model P w) callerA (.call (.ref fa) ⟨[.ref a], []⟩) (fun r s' => r = .ok (.ret (.bool true)) ∧ OldK s₁.heap s'.heap ∧ s'.os = s₁.os ∧ AllBare s'.gens) s₁ := by
  have rv := vals_ints hi
  have lenV := hi.length
  -- from an abstract heap in which nothing but the script may be tracked
  have core : ∀ H : Hp, Only H → SqL K H a (ns.map V.int) → HOk P w H s₁.heap → (∀ b, H b ≠ none → b = a) → (H a ≠ none → K.lookup a = none) →
      codeAny (model P w) callerA (.call (.ref fa) ⟨[.ref a], []⟩) (fun r s' => r = .ok (.ret (.bool true)) ∧ OldK s₁.heap s'.heap ∧ s'.os = s₁.os ∧ AllBare s'.gens) s₁ := by
    intro H hO hS hok hA hK
    have base_of : ∀ {b : Addr} {o : Obj}, s₁.heap.get? b = some o → H b = none → (hidT s₁.heap H).get? b = some o := fun e n => hidT_get e n
    have noA : ∀ {b : Addr} {o : Obj} {es : Array DictEntry} {ep : Nat}, s₁.heap.get? b = some o → o.data = .dict es ep → H b = none := fun {b o es ep} e d => by
      cases q : H b with
      | none => rfl
      | some u =>
        have e' : b = a := hA b (by rw [q]; simp)
        subst e'
        rw [ha] at e; cases e
        have d' : Data.seq vs.toArray _ = Data.dict es ep := d
        cases d'
    have nsK : ∀ {b : Addr} {m : Str → Option Value}, s₁.heap.Ns b m → (hidT s₁.heap H).Ns b m := fun {b m} ⟨o, es, ep, e, d, r⟩ => ⟨o, es, ep, base_of e (noA e d), d, r⟩
    have hKb : K.In (hidT s₁.heap H) := fun b o e => base_of (KX b o e) (by
      cases q : H b with
      | none => rfl
      | some u =>
        have e' : b = a := hA b (by rw [q]; simp)
        subst e'
        rw [hK (by rw [q]; simp)] at e; cases e)
    have hM : Mod K mg (hidT s₁.heap H) := ⟨hKb, nsK hns, ⟨mb, nsK hb, hbb⟩, let ⟨mc, h1, h2⟩ := hlim; ⟨mc, nsK h1, h2⟩⟩
    have e0 : Env0 P w K mg (hidT s₁.heap H) callerA [] s₁ H := ⟨rfl, hM, fun b o e => of_hidT e, Nat.le_of_eq (hidT_size _ _), trivial, fun b hb => absurd (show b ∈ ([] : List Addr) from hb) (by simp), hok, .of_eq hg⟩
    refine codeAny_mono ((F _ hKb (nsK hns)).run callerA [] s₁ H ⟨[.ref a], []⟩ [.ref a] [.ref a] _ _ hr e0 (hbind s₁ (.ref a)) (.cons rfl .nil) (hsp H hO hS)) fun r s' h => ?_
    cases r with
    | error e => exact (hCX H e s' h).elim
    | ok fl =>
      cases fl with
      | next => exact False.elim h
      | brk => exact False.elim h
      | cont => exact False.elim h
      | ret u =>
        obtain ⟨v, H', os, bare, un, hok', r', q⟩ := h
        have q' : v = .bl true := q
        subst q'
        obtain rfl : u = Value.bool true := r'
        refine ⟨rfl, OldK.of_keep fun b o e => ?_, os, bare⟩
        cases q : H b with
        | none => exact un.keep b o e q (by intro z; exact absurd (show b ∈ ([] : List Addr) from z) (by simp)) (by simp)
        | some u =>
          rcases hO b with z | ⟨ob, xs, z⟩
          · rw [q] at z; cases z
          · have z2 := un.frzs b ob _ z
            obtain ⟨e1, _⟩ := hok b _ z
            obtain ⟨e2, _⟩ := hok' b _ z2
            rw [e] at e1; cases e1
            exact e2
  cases hk : K.lookup a with
  | some o =>
    -- the script is one of the module's own objects
    have e := KX a o hk
    rw [ha] at e
    cases e
    refine core (fun _ => none) (fun _ => .inl rfl) (.inr ⟨_, vs.toArray, _, hk, rfl, rfl, rfl, by rw [List.size_toArray, lenV]; exact hl, by simpa using rv⟩) (fun b u z => by have z' : (none : Option HO) = some u := z; cases z') (fun b z => absurd rfl z) fun z => absurd rfl z
  | none =>
    refine core (fun b => if b = a then some (.frz { cls := .type "list", data := .seq vs.toArray } (.lst (ns.map V.int))) else none) (fun b => ?_) (.inl (.inr ⟨{ cls := .type "list", data := .seq vs.toArray }, if_pos rfl⟩)) (fun b u z => ?_) (fun b z => ?_) fun _ => hk
    · by_cases hb : b = a
      · exact .inr ⟨_, _, if_pos hb⟩
      · exact .inl (if_neg hb)
    · by_cases hb : b = a
      · have z' := (if_pos hb).symm.trans z
        cases z'
        subst hb
        exact ⟨ha, by rw [List.length_map]; exact hl, vs, _, rv, ha⟩
      · have z' := (if_neg hb).symm.trans z
        cases z'
    · by_cases hb : b = a
      · exact hb
      · exact absurd (if_neg hb) z
end L2

namespace L2
open PySem PySem.Spec PyProof.Rows

/-- the goal that k_head leaves (case hc), from the law's promise. F gives the function object fd (K's own) once, then the promise over every base -/
theorem walk_of {l : PySem.W.OpenLaw} {n k : Nat} {q : Program} {loose : List Str} {XP : (Str → Option Value) → Heap → Prop} {YP : World → Heap → Prop} {d : DefRec} {K : Params → PySem.W.Frag} {CX : World → CXT} {sp : World → Sp} {x : Str}
    (hn : l.most = some n) (hn2 : n ≤ sizeLine) (hdf : d.params.defaults = []) (hr : Room k callerA)
    (hY : ∀ (w : World) (h : Heap), YP w h → (K w.params).In h)
    (F : ∀ (w : World) (mg : Str → Option Value) (fa : Addr) (h : Heap), (K w.params).In h → h.Ns mainGlobals mg → mg d.name = some (.ref fa) →
      ∃ fd : FuncData, (∀ (s : Shared) (u : Value), BindsTo s fd ⟨[u], []⟩ [(x, u)]) ∧
        ∀ base : Heap, (K w.params).In base → base.Ns mainGlobals mg → FnOk l.prog w (K w.params) mg base (CX w) k fa fd [x] (sp w))
    (hsp : ∀ (w : World) (H : Hp) (a : Addr) (ns : List Int), ns.length ≤ n → Only H → SqL (K w.params) H a (ns.map V.int) → sp w [.ref a] H (fun v _ => v = .bl true) fun _ _ _ => False)
    (hCX : ∀ (w : World) (H : Hp) (s : Shared) (e : Value) (s' : Shared), CX w [] H s (fun _ _ _ => False) e s' → False) :
    PySem.W.WalkO q loose XP YP l.row.toRowW d [] (fun f vs => PySem.call f vs) := by
  refine Att.attach_call hn hdf fun w s₀ s₁ mg mb fa o pm cd doc a vs ns G Y ho hd hcd hmg hobj hints hlen hg => ?_
  have KX := hY w _ Y
  obtain ⟨fd, hb, hF⟩ := F w mg fa _ KX G.T.g hmg
  exact law_call KX G.T.g G.T.b G.T.builtins G.T.nolimit hg hobj hints (Nat.le_trans hlen hn2) hr hF hb (fun H hO hS => hsp w H a ns hlen hO hS) fun H e s' => hCX w H s₁ e s'
end L2

/- THE LAST THEOREM (shape; LID, My.* are yours):
   My.Adr: a structure of the addresses that your layer names (classes, functions); My.Txt K t: a structure (Prop) of the equations over K;
   My.txt_mk : {K} {implicit addresses ..} (e1 : nsIn K mainGlobals "law" = some (some (.ref f))) (e2 : K.lookup f = some ⟨oc, od, .func (fnOf "law" "law" params body scope dV kV doc pm an cdv ct), sl⟩) (e3 : codeIn K cdv "law" = true) .. : ∃ t, My.Txt K t

set_option maxRecDepth 100000 in
set_option maxHeartbeats 0 in
theorem PySem.Challenge.cw_LID_holds : PySem.Challenge.rw_LID.Holds := by
  w_on; o_law; k_head; (case hw => w_witness2)
  k_fill
  refine L2.walk_of (l := PySem.Challenge.rw_LID) (n := 63) (k := 40) (x := "script") (CX := fun w => ..) (sp := fun _ => My.sp_law) rfl (by decide) rfl ⟨rfl, by decide, by decide⟩ (fun w h Y => PySem.W.kIn_of Y) ?F ?S ?C
  case F =>
    intro w mg fa h KX G hmg
    have T : ∃ t, My.Txt (L2.KOf KX) t := by
      dsimp only [L2.KOf]                          -- K must stand as «<heap const> w.params» for k_is
      refine' My.txt_mk ?e1 ?e2 ?e3 ..
      (case e1 => PySem.W.k_is)                    -- in the order: a name -> its address -> its object -> its parts
      (case e2 => PySem.W.k_is)
      ..
    obtain ⟨t, T⟩ := T
    have e0 := hmg.symm.trans (PySem.W.mg_of KX G T.law)
    cases e0                                       -- fa is the law's own address
    exact ⟨_, fun s u => .of_eq rfl, fun base kb nb => My.law_fn T kb nb⟩     -- if «.of_eq rfl» comes too early: refine' ⟨_, ?b, fun base kb nb => My.law_fn T kb nb⟩; exact fun s u => .of_eq rfl
  case S => exact fun w H a ns hl hO hS => ..
  case C => exact ..
(the tactic k_is has no namespace: write k_is) -/

/-! SHORT WORDS over the layer: a def of the text, its body, what a loop and a test want. -/
namespace L2
open PySem PySem.Spec PyProof.Rows

/-! ### the text by places -/
def defArgs (s : Stmt) : Arguments := match s with
  | .FunctionDef _ a _ _ _ _ _ _ _ _ => a
  | _ => { posonlyargs := [], args := [], vararg := none, kwonlyargs := [], kw_defaults := [], kwarg := none, defaults := [] }
def defBody (s : Stmt) : List Stmt := match s with
  | .FunctionDef _ _ b _ _ _ _ _ _ _ => b
  | _ => []
def defScope (s : Stmt) : Scope := match s with
  | .FunctionDef _ _ _ _ _ _ sc _ _ _ => sc
  | _ => { kind := .function, names := [], isGenerator := false, isCoroutine := false }

/-! ### no exception leaves a def -/
abbrev CX0 : CXT := fun _ _ _ _ _ _ => False
abbrev E0 : XK := fun _ _ _ => False
theorem pass0 {X : Cx} : Passes CX0 X E0 := fun _ _ _ _ _ _ _ h => h.elim

/-! ### a def (or method) of the text as it stands behind the top -/
structure Fun (K : PySem.W.Frag) (x qual : Str) (st : Stmt) (f : Addr) (fd : FuncData) : Prop where
  ex : ∃ (oc : Value) (od : Option Addr) (kV doc pm : Value) (an : Option Addr) (cdv ct : Value) (osl : Array (Option Value)),
    fd = PySem.W.fnOf x qual (defArgs st) (defBody st) (defScope st) .none kV doc pm an cdv ct ∧ K.lookup f = some ⟨oc, od, .func fd, osl⟩ ∧ PySem.W.codeIn K cdv qual = true
  kp : PySem.W.keepIn K (.ref f) = true
section
variable {P : Program} {w : World} {K : PySem.W.Frag} {mg : Str → Option Value} {base : Heap}
/-- THE RULE for a def: its body as a term of rules, and the reading of that term -/
theorem Fun.ok {x qual : Str} {st : Stmt} {f : Addr} {fd : FuncData} {N ps : List Str} {k : Nat} {sp : Sp} (F : Fun K x qual st f fd) (S : FnScope N ps (defScope st)) (len : ∀ vs H Q E, sp vs H Q E → vs.length = ps.length)
    (hbody : ∀ (cdv : Value) (A : Around) (outer : List Env) (s : Shared) (H : Hp) (vs : List V) (Q : VK) (E : XK), Room k (A.deeper (envOfC qual (defScope st) s.heap.objs.size f cdv)) → sp vs H Q E →
      ∃ t, PSs (cxOf CX0 P w K mg base N qual (defScope st) f cdv A outer s H E).nox (defBody st) t ∧ t { nx := fun _ H' => Q .non H', rt := Q } (start N vs) H) : FnOk P w K mg base CX0 (k + 1) f fd ps sp := by
  obtain ⟨oc, od, kV, doc, pm, an, cdv, ct, osl, rfl, lk, hcd⟩ := F.ex
  refine fn_of lk hcd S len fun A outer s H vs Q E hr hsp => ?_
  obtain ⟨t, h, q⟩ := hbody cdv A outer s H vs Q E hr hsp
  exact ⟨t, h.nox, q⟩
/-- how its arguments bind (no defaults): h is «fun _ _ _ _ _ _ us hl => match us, hl with | [_, _], _ => rfl», one _ a parameter -/
theorem Fun.binds {x qual : Str} {st : Stmt} {f : Addr} {fd : FuncData} {ps : List Str} (F : Fun K x qual st f fd)
    (h : ∀ (kV doc pm : Value) (an : Option Addr) (cdv ct : Value) (us : List Value), us.length = ps.length → bindArgs (PySem.W.fnOf x qual (defArgs st) (defBody st) (defScope st) .none kV doc pm an cdv ct) ⟨us, []⟩ = pure (ps.zip us)) : Binds K fd ps [] := by
  obtain ⟨oc, od, kV, doc, pm, an, cdv, ct, osl, rfl, lk, hcd⟩ := F.ex
  exact .all (h kV doc pm an cdv ct)
theorem fun_mk {x qual : Str} {st : Stmt} {f : Addr} {oc : Value} {od an : Option Addr} {osl : Array (Option Value)} {kV doc pm cdv ct : Value} (l : K.lookup f = some ⟨oc, od, .func (PySem.W.fnOf x qual (defArgs st) (defBody st) (defScope st) .none kV doc pm an cdv ct), osl⟩)
    (c : PySem.W.codeIn K cdv qual = true) (k : PySem.W.keepIn K (.ref f) = true) : Fun K x qual st f (PySem.W.fnOf x qual (defArgs st) (defBody st) (defScope st) .none kV doc pm an cdv ct) := ⟨⟨oc, od, kV, doc, pm, an, cdv, ct, osl, rfl, l, c⟩, k⟩
end
theorem small1000 {n : Nat} (h : n ≤ 1000) : n < sizeLine := Nat.lt_of_le_of_lt h (by decide)

/-! ### expressions in short: the name that stands in the i-th slot -/
section
variable {X : Cx}
theorem pv (i : Nat) {x : Str} {pos : Pos} (hN : X.N[i]? = some x := by rfl) (hv : Vis X.env.scope x := by first | exact Or.inl rfl | exact Or.inr (Or.inl rfl) | exact Or.inr (Or.inr rfl)) (hd : (x == ("__debug__" : Str)) = false := by decide)
    (hcd : (x == ("__classdict__" : Str)) = false := by decide) : PE X (.Name x pos) (tVar i) := pe_var hN hv hd hcd
end

/-! ### tests -/
theorem iteF {A B : Prop} (h : B) : if false = true then A else B := by
  rw [if_neg Bool.false_ne_true]
  exact h
theorem iteT {A B : Prop} (h : A) : if true = true then A else B := by
  rw [if_pos rfl]
  exact h
theorem ite2 {c A B : Prop} [Decidable c] (h1 : c → A) (h2 : ¬ c → B) : if c then A else B := by
  by_cases h : c
  · rw [if_pos h]
    exact h1 h
  · rw [if_neg h]
    exact h2 h

/-! ### heaps -/
/-- all that was tracked is as it was -/
def Same (H H' : Hp) : Prop := ∀ b o, H b = some o → H' b = some o
theorem Same.refl (H : Hp) : Same H H := fun _ _ h => h
theorem Same.trans {H H1 H2 : Hp} (a : Same H H1) (b : Same H1 H2) : Same H H2 := fun c o h => b c o (a c o h)
theorem Same.free {H H' : Hp} (e : Same H H') {l : Addr} (h : H' l = Option.none) : H l = Option.none := by
  cases q : H l with
  | none => rfl
  | some o =>
    rw [e l o q] at h
    cases h
theorem Same.seq {K : PySem.W.Frag} {H H' : Hp} {a : Addr} {xs : List V} (e : Same H H') (h : SqL K H a xs) : SqL K H' a xs := by
  rcases h with (h | ⟨o, h⟩) | h
  · exact .inl (.inl (e _ _ h))
  · exact .inl (.inr ⟨o, e _ _ h⟩)
  · exact .inr h

/-! ### a dict's pairs: keys that differ -/
section
variable {κ : Type} [DecidableEq κ]
end
end L2
end
section
set_option Elab.async false
set_option linter.all false
set_option maxRecDepth 100000
set_option maxHeartbeats 4000000
/-! A LIST COMPREHENSION over the layer: one clause, tests, any target. -/
namespace L2
open PySem PySem.Spec PyProof.Rows

/-! ### names of the block -/
def rk (env : Env) (x : Str) (k : NameKind) : NameKind :=
  if (k == NameKind.free && env.scope.kind == .function && env.kindOf x == some .cell) = true then .cell else k
theorem relab_lookup (sc : Scope) (env : Env) (x : Str) : (relabel sc env).names.lookup x = (sc.names.lookup x).map (rk env x) := by
  have all : ∀ l : List (Str × NameKind), (l.map fun (n, k) => if (k == NameKind.free && env.scope.kind == .function && env.kindOf n == some .cell) then (n, NameKind.cell) else (n, k)).lookup x = (l.lookup x).map (rk env x) := by
    intro l
    induction l with
    | nil => rfl
    | cons p r ih =>
      obtain ⟨n, k⟩ := p
      rw [List.map_cons]
      cases hx : x == n with
      | true =>
        have e : x = n := by simpa using hx
        subst e
        by_cases c : (k == NameKind.free && env.scope.kind == .function && env.kindOf x == some .cell) = true
        · simp [List.lookup_cons, rk, c]
        · simp [List.lookup_cons, rk, c]
      | false =>
        have e1 : ((n, k) :: r).lookup x = r.lookup x := by rw [List.lookup_cons, hx]
        rw [e1, ← ih]
        by_cases c : (k == NameKind.free && env.scope.kind == .function && env.kindOf n == some .cell) = true
        · show List.lookup x ((if (k == NameKind.free && env.scope.kind == .function && env.kindOf n == some .cell) = true then (n, NameKind.cell) else (n, k)) :: _) = _
          rw [if_pos c, List.lookup_cons, hx]
        · show List.lookup x ((if (k == NameKind.free && env.scope.kind == .function && env.kindOf n == some .cell) = true then (n, NameKind.cell) else (n, k)) :: _) = _
          rw [if_neg c, List.lookup_cons, hx]
  exact all sc.names
theorem rk_free {env : Env} {x : Str} : rk env x .free = .cell ∨ rk env x .free = .free := by
  unfold rk
  split
  · exact .inl rfl
  · exact .inr rfl
theorem rk_not {env : Env} {x : Str} {k : NameKind} (h : k ≠ .free) : rk env x k = k := by
  unfold rk
  rw [if_neg]
  intro c
  have : (k == NameKind.free) = true := by
    cases q : (k == NameKind.free) with
    | true => rfl
    | false => rw [q] at c; simp at c
  exact h (by simpa using this)

def isFr : Option NameKind → Bool
  | some .free => true
  | _ => false
def isCF : Option NameKind → Bool
  | some .free => true
  | some .cell => true
  | _ => false
def isLo : Option NameKind → Bool
  | some .local => true
  | _ => false
theorem isFr_eq {o : Option NameKind} (h : isFr o = true) : o = some .free := by
  cases o with
  | none => cases h
  | some k => cases k <;> first | rfl | cases h
theorem isCF_eq {o : Option NameKind} (h : isCF o = true) : o = some .cell ∨ o = some .free := by
  cases o with
  | none => cases h
  | some k => cases k <;> first | exact .inl rfl | exact .inr rfl | cases h
theorem isLo_eq {o : Option NameKind} (h : isLo o = true) : o = some .local := by
  cases o with
  | none => cases h
  | some k => cases k <;> first | rfl | cases h
/-- own: the block's own names; fr: the outer slots whose names it takes; N': its slots -/
def blkChk (N : List Str) (ok : Str → Option NameKind) (names : List (Str × NameKind)) (own : List Str) (fr : List Nat) (N' : List Str) : Bool :=
  decide (N' = own ++ fr.map fun j => N.getD j "") && (fr.all fun j => decide (j < N.length) && isFr (names.lookup (N.getD j ""))) &&
    names.all fun p => match p.2 with
      | .free => isCF (ok p.1)
      | .cell => false
      | .local => isLo (names.lookup p.1)
      | _ => true
structure Blk (N : List Str) (ok : Str → Option NameKind) (names : List (Str × NameKind)) (own : List Str) (fr : List Nat) (N' : List Str) : Prop where
  eN : N' = own ++ fr.map fun j => N.getD j ""
  fr : ∀ j ∈ fr, j < N.length ∧ names.lookup (N.getD j "") = some .free
  free : ∀ p ∈ names, p.2 = .free → ok p.1 = some .cell ∨ ok p.1 = some .free
  cell : ∀ p ∈ names, p.2 ≠ .cell
  loc : ∀ p ∈ names, p.2 = .local → names.lookup p.1 = some .local
theorem blk_of {N : List Str} {ok : Str → Option NameKind} {names : List (Str × NameKind)} {own : List Str} {fr : List Nat} {N' : List Str} (h : blkChk N ok names own fr N' = true) : Blk N ok names own fr N' := by
  unfold blkChk at h
  rw [Bool.and_eq_true, Bool.and_eq_true] at h
  obtain ⟨⟨h1, h2⟩, h3⟩ := h
  have h3' := List.all_eq_true.mp h3
  refine ⟨of_decide_eq_true h1, fun j hj => ?_, fun p hp e => ?_, fun p hp e => ?_, fun p hp e => ?_⟩
  · have q := List.all_eq_true.mp h2 j hj
    rw [Bool.and_eq_true] at q
    exact ⟨of_decide_eq_true q.1, isFr_eq q.2⟩
  · have q := h3' p hp
    rw [e] at q
    exact isCF_eq q
  · have q := h3' p hp
    rw [e] at q
    cases q
  · have q := h3' p hp
    rw [e] at q
    exact isLo_eq q
def mkS (own : List Str) (fr : List Nat) (σ : St) : St := own.map (fun _ => none) ++ fr.map fun j => (σ[j]?).getD none

/-- what a block keeps of the cells around it -/
theorem clos (sc : Scope) (env : Env) (h : ∀ p ∈ sc.names, p.2 = .free → ∃ c, env.cells.lookup p.1 = some c) :
    ∃ cl, closureFor sc env = pure cl ∧ (∀ x c, cl.lookup x = some c → env.cells.lookup x = some c) ∧ ∀ p ∈ sc.names, p.2 = .free → cl.lookup p.1 = env.cells.lookup p.1 := by
  unfold closureFor
  have all : ∀ (l : List (Str × NameKind)) (acc : List (Str × Addr)), (∀ p ∈ l, p.2 = .free → ∃ c, env.cells.lookup p.1 = some c) → (∀ x c, acc.lookup x = some c → env.cells.lookup x = some c) →
      ∃ cl, (forIn l acc fun (p : Str × NameKind) (r : List (Str × Addr)) => (match p with
        | (name, kind) => if (kind == NameKind.free) = true then (do let a ← cellOf env name; pure (ForInStep.yield ((name, a) :: r))) else pure (ForInStep.yield r) : Sem (ForInStep (List (Str × Addr))))) = pure cl ∧
        (∀ x c, cl.lookup x = some c → env.cells.lookup x = some c) ∧ (∀ p ∈ l, p.2 = .free → cl.lookup p.1 = env.cells.lookup p.1) ∧ ∀ x, acc.lookup x = env.cells.lookup x → cl.lookup x = env.cells.lookup x := by
    intro l
    induction l with
    | nil => intro acc _ ha; exact ⟨acc, rfl, ha, fun p hp => (by simp at hp), fun x e => e⟩
    | cons p r ih =>
      intro acc hl ha
      obtain ⟨n, k⟩ := p
      rw [List.forIn_cons]
      by_cases hk : k = .free
      · subst hk
        obtain ⟨c, hc⟩ := hl (n, .free) List.mem_cons_self rfl
        have hce : cellOf env n = pure c := by unfold cellOf; rw [hc]
        obtain ⟨cl, e1, e2, e3, e4⟩ := ih ((n, c) :: acc) (fun p hp => hl p (List.mem_cons_of_mem _ hp)) (fun x c' e => by
          rw [List.lookup_cons] at e
          cases hx : x == n with
          | true =>
            rw [hx] at e
            have : x = n := by simpa using hx
            subst this
            cases e
            exact hc
          | false => rw [hx] at e; exact ha x c' e)
        refine ⟨cl, ?_, e2, fun p hp e => ?_, fun x e => e4 x ?_⟩
        · simp only [beq_self_eq_true, if_true, hce]
          exact e1
        · rcases List.mem_cons.mp hp with rfl | hp
          · exact e4 n (by rw [List.lookup_cons]; simp [hc])
          · exact e3 p hp e
        · rw [List.lookup_cons]
          cases hx : x == n with
          | true =>
            have : x = n := by simpa using hx
            subst this
            simp [hc]
          | false => exact e
      · have hb : (k == NameKind.free) = false := by simpa using hk
        obtain ⟨cl, e1, e2, e3, e4⟩ := ih acc (fun p hp => hl p (List.mem_cons_of_mem _ hp)) ha
        refine ⟨cl, ?_, e2, fun p hp e => ?_, e4⟩
        · simp only [hb, Bool.false_eq_true, if_false]
          exact e1
        · rcases List.mem_cons.mp hp with rfl | hp
          · exact absurd e hk
          · exact e3 p hp e
  obtain ⟨cl, e1, e2, e3, _⟩ := all sc.names [] h (fun x c e => by simp at e)
  refine ⟨cl, ?_, e2, e3⟩
  have e1' := congrArg (fun t : Sem (List (Str × Addr)) => t >>= fun cs => pure cs) e1
  first
    | exact e1'
    | (simp only [pure_bind] at e1'; exact e1')
    | (refine Eq.trans ?_ e1'; rfl)
    | (dsimp only at e1' ⊢; exact e1')

/-! ### the block's context -/
def Cx.blk (X : Cx) (sc : Scope) (cl : List (Str × Addr)) (C : Addr) (N : List Str) (s : Shared) (H : Hp) (fp : List Addr) : Cx where
  prog := X.prog
  w := X.w
  K := X.K
  mg := X.mg
  base := X.base
  A := X.A
  N := N
  s₀ := s
  H₀ := H
  env := compEnvC sc cl C X.env
  outer := X.stack
  stack := X.stack
  ex := fp
  fn := fun _ => false
  calm := X.calm
  pn := []
  xe := fun _ _ => False
section
variable {X : Cx} {pins : List (Addr × Obj)} {σ : St} {H : Hp} {s : Shared} {sc : Scope} {cl : List (Str × Addr)} {own : List Str} {fr : List Nat} {N' : List Str} {fp : List Addr}
theorem blk_start (I : Inv X pins σ H s) (B : Blk X.N X.env.kindOf sc.names own fr N') (hk : sc.kind = .function)
    (sub : ∀ x c, cl.lookup x = some c → X.env.cells.lookup x = some c) (has : ∀ p ∈ sc.names, p.2 = .free → cl.lookup p.1 = X.env.cells.lookup p.1)
    (f2 : ∀ b ∈ fp, FpOk X pins H b) (fo : ∀ b ∈ fp, b < s.heap.objs.size) {h1 : Heap} {tk : Nat} {C D : Addr} {n : Nat} (eD : D = s.heap.objs.size) (eC : s.heap.objs.size < C)
    (hns : h1.Ns C (fun _ => none)) (old : ∀ b o, s.heap.get? b = some o → h1.get? b = some o) (hD : h1.get? D = some { cls := .type "list", data := .seq ([] : List Value).toArray n }) :
    Inv (X.blk sc cl C N' s H fp) [] (mkS own fr σ) (upd H D (.lst [])) { s with heap := h1, toks := tk } := by
  have hcells : ∀ x c, cl.lookup x = some c → c < s.heap.objs.size := fun x c e => by
    obtain ⟨v, q⟩ := I.cell x c (sub x c e)
    exact q.lt
  have hDn : H D = none := I.hok.fresh (Nat.le_of_eq eD.symm)
  have kind : ∀ x, (X.blk sc cl C N' s H fp).env.kindOf x = (sc.names.lookup x).map (rk X.env x) := fun x => relab_lookup sc X.env x
  refine ⟨⟨I.ok.mod, hk, I.ok.glob, I.ok.blt, Nat.le_of_lt eC, fun x y c e1 e2 => I.ok.inj x y c (sub x c e1) (sub y c e2), fun x hx => ?_, (fun x c e => nomatch (show false = true from e)), I.ok.hd, I.ok.frames, .inl rfl, fun b hb => ⟨?_, fun x c e => ?_⟩, I.bs, Nat.le_trans I.ok.bsz I.sz, fun b o e hb => ?_, fun b hb => ?_, I.stack, I.stkFree⟩,
    rfl, I.bare, Un.laid old (Nat.le_of_eq eD.symm) hDn, ⟨_, hns, fun i x v e1 e2 e3 => ?_⟩, fun x c e => ?_, ?_, fun x c e => ?_, fun p hp => ?_, I.hok.laid old (Nat.le_of_eq eD.symm) ⟨Nat.zero_le _, [], n, .nil, hD⟩, ?_⟩
  · have hx' : (sc.names.lookup x).map (rk X.env x) = some .cell ∨ (sc.names.lookup x).map (rk X.env x) = some .free := by
      rw [← kind x]; exact hx
    cases q : sc.names.lookup x with
    | none => rw [q] at hx'; simp at hx'
    | some k =>
      have hm := PySem.mem_of_lookup q
      by_cases hf : k = .free
      · subst hf
        show ∃ c, cl.lookup x = some c
        rw [has _ hm rfl]
        have z := B.free _ hm rfl
        exact I.ok.has x z
      · rw [q] at hx'
        simp only [Option.map_some, rk_not hf] at hx'
        rcases hx' with z | z
        · exact absurd (Option.some.inj z) (B.cell _ hm)
        · exact absurd (Option.some.inj z) hf
  · exact Nat.ne_of_lt (Nat.lt_trans (fo b hb) eC)
  · exact (f2 b hb).2.2.2.2.1 x c (sub x c e)
  · rcases (f2 b hb).2.2.2.1 with z | z
    · exact I.ok.noex b o e z
    · exact absurd (Nat.lt_of_lt_of_le (Heap.lt_size e) (Nat.le_trans I.ok.bsz z)) (Nat.lt_irrefl _)
  · intro z
    rcases List.mem_cons.mp (I.stkSub b z) with e | e
    · exact (f2 b hb).2.1 e
    · exact (f2 b hb).2.2.1 e
  · -- the slots
    have e1' : N'[i]? = some x := e1
    have hi : ¬ i < own.length := fun z => by
      unfold mkS at e2
      rw [List.getElem?_append_left (by simpa using z), List.getElem?_map, List.getElem?_eq_getElem z] at e2
      cases e2
    unfold mkS at e2
    rw [List.getElem?_append_right (by simpa using hi), List.length_map, List.getElem?_map] at e2
    rw [B.eN, List.getElem?_append_right (by simpa using hi), List.getElem?_map] at e1'
    cases q : fr[i - own.length]? with
    | none => rw [q] at e2; cases e2
    | some j =>
      rw [q] at e2 e1'
      simp only [Option.map_some, Option.some.injEq] at e2 e1'
      obtain ⟨hj, hfr⟩ := B.fr j (List.mem_of_getElem? q)
      have ej : X.N[j]? = some x := by
        rw [← e1', List.getD_eq_getElem?_getD, List.getElem?_eq_getElem hj]; rfl
      have eσ : σ[j]? = some (some v) := by
        cases z : σ[j]? with
        | none => rw [z] at e2; cases e2
        | some o => rw [z] at e2; simp only [Option.getD_some] at e2; rw [e2]
      rw [e1'] at hfr
      have hm := PySem.mem_of_lookup hfr
      have hok := B.free _ hm rfl
      obtain ⟨m0, hn0, hl0⟩ := I.loc
      have hv : Vis X.env.scope x := by
        rcases hok with z | z
        · exact .inr (.inl z)
        · exact .inr (.inr z)
      obtain ⟨u, r, l⟩ := hl0 j x v ej eσ hv
      refine ⟨u, r, ?_⟩
      rcases l with ⟨z, _⟩ | ⟨_, c, hc, o, ho, hd⟩
      · have hok' : X.env.kindOf x = some .cell ∨ X.env.kindOf x = some .free := hok
        rw [z] at hok'
        rcases hok' with y | y <;> cases y
      · refine .inr ⟨?_, c, ?_, o, old c o ho, hd⟩
        · rw [kind x, hfr]
          rcases rk_free (env := X.env) (x := x) with y | y
          · exact .inl (by rw [Option.map_some, y])
          · exact .inr (by rw [Option.map_some, y])
        · show cl.lookup x = some c
          have z := has _ hm rfl
          exact z.trans hc
  · obtain ⟨v, o, ho, hd⟩ := I.cell x c (sub x c e)
    exact ⟨v, o, old c o ho, hd⟩
  · show upd H D _ C = none
    rw [upd_ne (by rw [eD]; exact Nat.ne_of_gt eC)]
    exact I.hok.fresh (Nat.le_of_lt eC)
  · show upd H D _ c = none
    rw [upd_ne (by rw [eD]; exact Nat.ne_of_lt (hcells x c e))]
    exact I.freeC x c (sub x c e)
  · exact absurd (show p ∈ ([] : List (Addr × Obj)) from hp) (by simp)
  · show (mkS own fr σ).length = N'.length
    rw [B.eN]
    simp [mkS]
/-- behind the block -/
theorem blk_end {C : Addr} {σ' : St} {H' : Hp} {s' : Shared} (I : Inv X pins σ H s) (f2 : ∀ b ∈ fp, FpOk X pins H b) (J : Inv (X.blk sc cl C N' s H fp) [] σ' H' s') : Inv X pins σ H' s' :=
  I.call' (ch := fp) J.os J.base J.hok J.bare fun b hb => ⟨(f2 b hb).2.2.2.1, (f2 b hb).2.1, (f2 b hb).2.2.2.2.1, (f2 b hb).2.2.2.2.2⟩
/-- the block's own dict turns (a younger record) -/
theorem Inv.young {C : Addr} {s0 : Shared} {H0 : Hp} {σ0 : St} {h' : Heap} (I0 : Inv X pins σ0 H0 s0) (I : Inv X pins σ H s) (hC : s0.heap.objs.size ≤ C) (hn : H C = none) (hs : Heap.SameBut C s.heap h') : Inv X pins σ H { s with heap := h' } :=
  I.turned (t' := s.toks) (fun b o hb e => (hs.2 b hb).trans e) hn (Nat.ne_of_gt (Nat.lt_of_lt_of_le I0.lt hC)) (.inr (Nat.le_trans I0.sz hC))
    (fun x c e z => by
      obtain ⟨v, q⟩ := I0.cell x c e
      exact absurd (Nat.lt_of_lt_of_le q.lt (by rw [z]; exact hC)) (Nat.lt_irrefl _))
    (fun p hp z => absurd (Nat.lt_of_lt_of_le (Heap.lt_size (I0.pin p hp).1) (by rw [z]; exact hC)) (Nat.lt_irrefl _))
end

/-! ### the tests of a clause -/
def PIfs (X : Cx) (ifs : List Expr) (t : TT) : Prop :=
  ∀ (pins : List (Addr × Obj)) (s : Shared) (σ : St) (H : Hp) (Q : Bool → Hp → Prop), Inv X pins σ H s → t σ H Q →
    wpAny (model X.prog X.w) X.A (forIn ifs true fun c r => if r = true then do let ok ← isTrue c X.env (eval c X.env); pure (ForInStep.yield ok) else pure (ForInStep.yield r)) (TP X pins σ Q) X.xe s
def tTrue : TT := fun _ H Q => Q true H
theorem pifs_nil {X : Cx} : PIfs X [] tTrue := fun pins s σ H Q I h => wpAny_tests_nil ⟨H, I, h⟩
theorem pifs_one {X : Cx} {c : Expr} {t : TT} (h : PT X c t) : PIfs X [c] t := fun pins s σ H Q I hw => wpAny_tests_one (h pins s σ H Q I hw)

/-! ### the loop of a block -/
section
variable {prog : Program} {w : World} {A : Around} {R : Result → Shared → Prop} {s : Shared}
theorem compLoop_any {elt target iter : Expr} {ifs : List Expr} {scope : Scope} {pos : Pos} {it acc : Value} {env : Env} (J : Nat → Shared → Prop)
    (turn : ∀ n s, J n s → wpAny (model prog w) A (pyNext it) (fun r s₁ => match r with
      | none => R (.ok .next) s₁
      | some v => wpAny (model prog w) A (letOwnedTupleGo target it v) (fun _ s₂ => wpAny (model prog w) A (assign target env v) (fun _ s₃ =>
          wpAny (model prog w) A (forIn ifs true fun c r => if r = true then do let ok ← isTrue c env (eval c env); pure (ForInStep.yield ok) else pure (ForInStep.yield r)) (fun ok s₄ =>
            if ok = true then wpAny (model prog w) A (eval elt env) (fun x s₅ => wpAny (model prog w) A (call (.builtin "list.append") [acc, x]) (fun _ s₆ => ∃ m, m < n ∧ J m s₆) (fun _ _ => False) s₅) (fun _ _ => False) s₄
            else ∃ m, m < n ∧ J m s₄) (fun _ _ => False) s₃) (fun _ _ => False) s₂) (fun _ _ => False) s₁) (fun _ _ => False) s)
    (n : Nat) (h : J n s) : codeAny (model prog w) A (.compLoop (.ListComp elt [⟨target, iter, ifs, 0⟩] scope pos) 0 it acc env) R s := by
  refine codeAny_loop rfl J (fun n s hJ => ?_) n h
  show wpAny (model prog w) A ((compTurn (.ListComp elt [⟨target, iter, ifs, 0⟩] scope pos) 0 it acc env).onRaise fun x => do noteFrame x env; theTreesLotGoes x) _ _ s
  refine wpAny_noted (wpAny_noRaise ?_)
  rw [compTurn_list]
  refine wpAny_bind (wpAny_standAt (wpAny_bind (thn (turn n s hJ) fun r s₁ h₁ => ?_)))
  cases r with
  | none => exact wpAny_pure h₁
  | some v =>
    refine wpAny_bind (thn h₁ fun _ s₂ h₂ => wpAny_bind (thn h₂ fun _ s₃ h₃ => wpAny_bind (thn h₃ fun ok s₄ h₄ => ?_)))
    cases ok with
    | false => exact wpAny_pure ⟨rfl, h₄⟩
    | true => exact wpAny_bind (wpAny_bind (thn h₄ fun x s₅ h₅ => wpAny_bind (thn h₅ fun _ s₆ h₆ => wpAny_pure (wpAny_pure ⟨rfl, h₆⟩))))
end

/-- W: the invariant by the turn and a measure, over the block's slots; D: the new list -/
def tComp (wi : TI) (mk : St → St) (g : TG) (tt : TT) (te : TE) : TE := fun σ H Q => wi σ H fun J H1 => ∀ D, H1 D = none → ∃ W : Nat → Nat → St → Hp → Prop, (∃ m, W 0 m (mk σ) (upd H1 D (.lst []))) ∧ ∀ i m σ' H', W i m σ' H' →
  (J.stop i H' ∧ Q (.ref D) H') ∨
  (J.go i H' ∧ ∃ Nx : St → Hp → Prop, (∀ σ'' H'', Nx σ'' H'' → ∃ m', m' < m ∧ W (i + 1) m' σ'' H'') ∧ ∀ x H'', J.yld i H' x H'' → g x σ' H'' fun σ2 H2 => tt σ2 H2 fun b H3 =>
    if b = true then te σ2 H3 fun v H4 => ∃ ys, H4 D = some (.lst ys) ∧ ys.length < sizeLine ∧ Nx σ2 (upd H4 D (.lst (ys ++ [v]))) else Nx σ2 H3)

section
variable {X : Cx} {elt iter tg : Expr} {ifs : List Expr} {sc : Scope} {pos : Pos} {wi : TI} {own : List Str} {fr : List Nat} {N' : List Str} {g : TG} {tt : TT} {te : TE}
theorem comp_run {pins : List (Addr × Obj)} {σ : St} {H : Hp} {s : Shared} {cl : List (Str × Addr)} {fp : List Addr} {it : Addr} {J : It} {tn : Nat → Heap → Prop} {E : Value → Shared → Prop} {Q : VK} {RR : Value → Addr → Result → Shared → Prop}
    (I : Inv X pins σ H s) (B : Blk X.N X.env.kindOf sc.names own fr N') (hk : sc.kind = .function) (hc : X.calm = true)
    (sub : ∀ x c, cl.lookup x = some c → X.env.cells.lookup x = some c) (has : ∀ p ∈ sc.names, p.2 = .free → cl.lookup p.1 = X.env.cells.lookup p.1)
    (T : Turn X.prog X.w X.K tg J fp it tn) (st : tn 0 s.heap) (f2 : ∀ b ∈ fp, FpOk X pins H b)
    (hg : ∀ cl C s H fp, PG (X.blk sc cl C N' s H fp) tg g) (ht : ∀ cl C s H fp, PIfs (X.blk sc cl C N' s H fp) ifs tt) (he : ∀ cl C s H fp, PE (X.blk sc cl C N' s H fp) elt te)
    (hw : ∀ D, H D = none → ∃ W : Nat → Nat → St → Hp → Prop, (∃ m, W 0 m (mkS own fr σ) (upd H D (.lst []))) ∧ ∀ i m σ' H', W i m σ' H' →
      (J.stop i H' ∧ Q (.ref D) H') ∨
      (J.go i H' ∧ ∃ Nx : St → Hp → Prop, (∀ σ'' H'', Nx σ'' H'' → ∃ m', m' < m ∧ W (i + 1) m' σ'' H'') ∧ ∀ x H'', J.yld i H' x H'' → g x σ' H'' fun σ2 H2 => tt σ2 H2 fun b H3 =>
        if b = true then te σ2 H3 fun v H4 => ∃ ys, H4 D = some (.lst ys) ∧ ys.length < sizeLine ∧ Nx σ2 (upd H4 D (.lst (ys ++ [v]))) else Nx σ2 H3))
    (hRR : ∀ D C σ' H' s', D = s.heap.objs.size → s.heap.objs.size ≤ C → Inv (X.blk sc cl C N' s H fp) [] σ' H' s' → Q (.ref D) H' → RR (.ref D) C (.ok .next) s') :
    wpAny (model X.prog X.w) X.A (newList []) (fun acc s₃ => wpAny (model X.prog X.w) X.A (newFunctionEnv sc X.env.globals cl [] X.env.qual none .none (some X.env)) (fun cenv s₄ =>
      codeAny (model X.prog X.w) X.A (.compStart (.ListComp elt [⟨tg, iter, ifs, 0⟩] sc pos) 0 (.ref it) acc { cenv with scope := relabel sc X.env }) (RR acc cenv.locals) s₄) E s₃) E s := by
  have fo : ∀ b ∈ fp, b < s.heap.objs.size := fun b hb => by
    obtain ⟨o, e, _⟩ := T.obj _ _ st b hb
    exact Heap.lt_size e
  refine wpAny_newObj_type (wpAny_newFunctionEnv B.cell (by intro y hy; simp at hy) (fun h₁ hns₁ hsb₁ => ?_) hk)
  dsimp only at hns₁ hsb₁ ⊢
  generalize hH2 : s.heap.push { cls := .type "list", dict := none, data := .seq ([] : List Value).toArray } = G at hns₁ hsb₁ ⊢
  have hG : G.objs.size = s.heap.objs.size + 1 := by rw [← hH2, Heap.size_push]
  have hlt : s.heap.objs.size < G.objs.size := by rw [hG]; exact Nat.lt_succ_self _
  have old : ∀ b o, s.heap.get? b = some o → h₁.get? b = some o := fun b o e =>
    hsb₁.extBut b o (Nat.ne_of_lt (Nat.lt_trans (Heap.lt_size e) hlt)) (Heap.get?_push_of_some _ (hH2 ▸ Heap.get?_push_of_some _ e))
  have hacc : h₁.get? s.heap.objs.size = some { cls := .type "list", data := .seq ([] : List Value).toArray } :=
    hsb₁.extBut _ _ (Nat.ne_of_lt hlt) (Heap.get?_push_of_some _ (hH2 ▸ Heap.get?_push_size _ rfl))
  obtain ⟨W, ⟨m0, w0⟩, turn⟩ := hw s.heap.objs.size (I.hok.fresh (Nat.le_refl _))
  have st₁ : tn 0 h₁ := T.keep _ _ _ st fun b _ o e => old b o e
  have hns' : h₁.Ns G.objs.size (fun _ => none) := by
    have e : (fun x => ([] : List (Str × Value)).reverse.lookup x) = (fun _ : Str => (none : Option Value)) := by funext x; rfl
    first
      | exact hns₁
      | (rw [e] at hns₁; exact hns₁)
  have loop : ∀ s₃ : Shared, s₃ = { s with heap := h₁, toks := s.toks + ([] : List (Str × Value)).length } →
      codeAny (model X.prog X.w) X.A (.compLoop (.ListComp elt [⟨tg, iter, ifs, 0⟩] sc pos) 0 (.ref it) (.ref s.heap.objs.size) (compEnvC sc cl G.objs.size X.env)) (RR (.ref s.heap.objs.size) G.objs.size) s₃ := by
    rintro s₃ rfl
    have I0 := blk_start (tk := s.toks + ([] : List (Str × Value)).length) I B hk sub has f2 fo rfl hlt hns' old hacc
    have stat : ∀ {pins' : List (Addr × Obj)} {H' : Hp}, pins' = [] → (∀ b ∈ fp, H' b = none) → ∀ b ∈ fp, FpOk (X.blk sc cl G.objs.size N' s H fp) pins' H' b := fun ep hn b hb => by
      subst ep
      refine ⟨hn b hb, Nat.ne_of_lt (Nat.lt_trans (fo b hb) hlt), fun z => ?_, .inl hb, fun x c e => (f2 b hb).2.2.2.2.1 x c (sub x c e), fun p hp => absurd (show p ∈ ([] : List (Addr × Obj)) from hp) (by simp)⟩
      rcases List.mem_cons.mp (I.stkSub b z) with e | e
      · exact (f2 b hb).2.1 e
      · exact (f2 b hb).2.2.1 e
    have fr0 : ∀ b ∈ fp, upd H s.heap.objs.size (.lst []) b = none := fun b hb => by
      rw [upd_ne (Nat.ne_of_lt (fo b hb))]; exact (f2 b hb).1
    refine compLoop_any (fun n s' => ∃ i σ' H', Inv (X.blk sc cl G.objs.size N' s H fp) [] σ' H' s' ∧ tn i s'.heap ∧ (∀ b ∈ fp, H' b = none) ∧ W i n σ' H') ?_ m0 ⟨0, _, _, I0, st₁, fr0, w0⟩
    rintro n s3 ⟨i, σ3, H3, I3, st3, fr3, w3⟩
    rcases turn i n σ3 H3 w3 with ⟨stop, qn⟩ | ⟨go, Nx, hN, step⟩
    · refine thn (T.done (X.blk sc cl G.objs.size N' s H fp) rfl rfl rfl hc i [] s3 σ3 H3 _ I3 (stat rfl fr3) st3 stop) fun r s4 ⟨hr, I4⟩ => ?_
      subst hr
      exact hRR _ _ _ _ _ rfl (Nat.le_of_lt hlt) I4 qn
    · refine thn (T.item (X.blk sc cl G.objs.size N' s H fp) rfl rfl rfl hc i [] s3 σ3 H3 _ I3 (stat rfl fr3) st3 go) fun r s4 ⟨u, hr, h4⟩ => ?_
      subst hr
      refine thn h4 fun _ s5 ⟨x, H5, I5, r5, y5, st5, fr5⟩ => ?_
      have I5' := I5.pinned (stat rfl fr5) (T.obj _ _ st5)
      refine thn (hg cl G.objs.size s H fp _ s5 σ3 H5 x u _ I5' r5 (step x H5 y5)) fun _ s6 ⟨σ6, H6, I6, q6⟩ => ?_
      refine thn (ht cl G.objs.size s H fp _ s6 σ6 H6 _ I6 q6) fun ok s7 ⟨H7, I7, q7⟩ => ?_
      have again : ∀ {s8 : Shared} {H8 : Hp}, Inv (X.blk sc cl G.objs.size N' s H fp) ([] ++ pinsAt fp s5.heap) σ6 H8 s8 → Nx σ6 H8 →
          ∃ m, m < n ∧ ∃ i σ' H', Inv (X.blk sc cl G.objs.size N' s H fp) [] σ' H' s8 ∧ tn i s8.heap ∧ (∀ b ∈ fp, H' b = none) ∧ W i m σ' H' := fun {s8 H8} I8 n8 => by
        obtain ⟨m', hm, w8⟩ := hN σ6 H8 n8
        refine ⟨m', hm, i + 1, σ6, H8, I8.unpinned, T.keep _ _ _ st5 fun b hb o e => (I8.pin (b, o) (List.mem_append_right _ (List.mem_append_right _ (mem_pinsAt hb e)))).1, fun b hb => ?_, w8⟩
        obtain ⟨o, e, d⟩ := T.obj _ _ st5 b hb
        exact (I8.pin (b, o) (List.mem_append_right _ (List.mem_append_right _ (mem_pinsAt hb e)))).2.1
      cases ok with
      | false =>
        rw [if_neg Bool.false_ne_true] at q7 ⊢
        exact again I7 q7
      | true =>
        rw [if_pos rfl] at q7 ⊢
        refine thn (he cl G.objs.size s H fp _ s7 σ6 H7 _ I7 q7) fun y s8 ⟨v, H8, I8, rv, ys, hD8, hz, nx⟩ => ?_
        refine thn (mt_append (X := X.blk sc cl G.objs.size N' s H fp) _ s8 σ6 H8 (.ref s.heap.objs.size) [v] (.ref s.heap.objs.size) [y] (fun _ H9 => Nx σ6 H9) I8 rfl (.cons rv .nil) ⟨_, ys, v, rfl, rfl, hD8, hz, nx⟩) fun _ s9 ⟨_, H9, I9, _, n9⟩ => ?_
        exact again I9 n9
  exact codeAny_compStart_list (loop _ rfl) (T.self _ 0 _ _ _ st₁ (loop _ rfl))

/-- the comprehension as a value -/
theorem pe_comp (hi : PI X tg iter wi) (hk : sc.kind = .function) (hb : blkChk X.N X.env.kindOf sc.names own fr N' = true) (hc : X.calm = true)
    (hg : ∀ cl C s H fp, PG (X.blk sc cl C N' s H fp) tg g) (ht : ∀ cl C s H fp, PIfs (X.blk sc cl C N' s H fp) ifs tt) (he : ∀ cl C s H fp, PE (X.blk sc cl C N' s H fp) elt te)
    (hs : ∀ x, foldedSetIterable iter X.env x = pure x := by intro _; rfl) : PE X (.ListComp elt [⟨tg, iter, ifs, 0⟩] sc pos) (tComp wi (mkS own fr) g tt te) := by
  intro pins s σ H Q I h
  have B := blk_of hb
  obtain ⟨cl, hcl, sub, has⟩ := clos sc X.env fun p hp e => I.ok.has p.1 (B.free p hp e)
  rw [eval_ListComp]
  refine wpAny_comprehension_free (use := none) rfl hs hcl hk B.loc (thn (hi pins s σ H _ I h) fun v s1 h1 => thn h1 fun itv s2 h2 => ?_)
  obtain ⟨it, fp, tn, J, H2, e, I2, T, st2, f2, body⟩ := h2
  subst e
  refine comp_run (RR := fun acc C => compPost (model X.prog X.w) X.A X.xe none (EP X pins σ Q) acc C) I2 B hk hc sub has T st2 f2 hg ht he body ?_
  intro D C σ' H' s' eD hC J' q
  obtain ⟨m, hn, _⟩ := J'.loc
  refine ⟨m, hn, fun h' hs' => ⟨.ref D, H', ?_, rfl, q⟩⟩
  exact Inv.young I2 (blk_end I2 f2 J') hC J'.free hs'
/-- name = a comprehension -/
theorem ps_setComp {i : Nat} {y : Str} {py spos : Pos} (hi : PI X tg iter wi) (hk : sc.kind = .function) (hb : blkChk X.N X.env.kindOf sc.names own fr N' = true) (hc : X.calm = true)
    (hg : ∀ cl C s H fp, PG (X.blk sc cl C N' s H fp) tg g) (ht : ∀ cl C s H fp, PIfs (X.blk sc cl C N' s H fp) ifs tt) (he : ∀ cl C s H fp, PE (X.blk sc cl C N' s H fp) elt te)
    (hN : X.N.Nodup) (hy : X.N[i]? = some y) (hx : X.env.scope.names.lookup y = some .local)
    (hsw : swapsWith (.ListComp elt [⟨tg, iter, ifs, 0⟩] sc pos) (some (.Name y py)) spos.line X.env = pure true)
    (hs : ∀ x, foldedSetIterable iter X.env x = pure x := by intro _; rfl) : PS X (.Assign [.Name y py] (.ListComp elt [⟨tg, iter, ifs, 0⟩] sc pos) spos) (tAsg (tComp wi (mkS own fr) g tt te) (gName i)) := by
  intro pins s σ H D I h
  have B := blk_of hb
  obtain ⟨cl, hcl, sub, has⟩ := clos sc X.env fun p hp e => I.ok.has p.1 (B.free p hp e)
  rw [exec_Assign_Name_used _ _ _ _ hsw]
  refine wpAny_bind (wpAny_standAt (wpAny_bind ?_))
  show wpAny _ _ (do let _ ← comprehension (.ListComp elt [⟨tg, iter, ifs, 0⟩] sc pos) sc X.env _ (newList []) false (eval iter X.env) (some (assign (.Name y py) X.env))) _ _ s
  refine wpAny_bind (wpAny_mono (wpAny_comprehension_free (use := some (assign (.Name y py) X.env)) (Q := fun _ s' => SP X pins D .next s') rfl hs hcl hk B.loc
    (thn (hi pins s σ H _ I h) fun v s1 h1 => thn h1 fun itv s2 h2 => ?_)) (fun _ s' hq => wpAny_pure (wpAny_pure hq)) fun _ _ e => e)
  obtain ⟨it, fp, tn, J, H2, e, I2, T, st2, f2, body⟩ := h2
  subst e
  refine comp_run (Q := fun v H' => D.nx (σ.set i (some v)) H') (RR := fun acc C => compPost (model X.prog X.w) X.A X.xe (some (assign (.Name y py) X.env)) (fun _ s' => SP X pins D .next s') acc C) I2 B hk hc sub has T st2 f2 hg ht he body ?_
  intro D' C σ' H' s' eD hC J' q
  have I3 := blk_end I2 f2 J'
  show wpAny _ _ (assign (.Name y py) X.env (.ref D')) _ _ s'
  refine wpAny_assign_Name (store_ok2 I3 hN hy (.inl hx) (v := .ref D') rfl (fun s4 I4 ⟨a, hsb, ha⟩ => ?_) (.inr hx))
  obtain ⟨m, hn, _⟩ := J'.loc
  have hCa : C ≠ a := by
    rcases ha with e | e
    · rw [e]; exact Nat.ne_of_gt (Nat.lt_of_lt_of_le I2.lt hC)
    · obtain ⟨v, z⟩ := I2.cell _ _ e
      exact Nat.ne_of_gt (Nat.lt_of_lt_of_le z.lt hC)
  refine ⟨m, hn.sameBut hsb hCa, fun h' hs' => ⟨_, H', ?_, q⟩⟩
  exact Inv.young I2 I4 hC J'.free hs'
end
end L2
end
section
set_option Elab.async false
set_option linter.all false
set_option maxRecDepth 100000
set_option maxHeartbeats 4000000
/-! DATA: values with their tuples, equality of data, isinstance, is, tables of the module. -/
namespace L2
open PySem PySem.Spec PyProof.Rows

/-! ### data -/
inductive D where
  | non | bl (b : Bool) | int (i : Int) | str (x : Str) | tup (ds : List D)
  /-- some list -/
  | lst
mutual
def Dat (K : PySem.W.Frag) (H : Hp) : D → V → Prop
  | .non, v => v = .non
  | .bl b, v => v = .bl b
  | .int i, v => v = .int i
  | .str x, v => v = .str x
  | .tup ds, v => ∃ a vs, v = .ref a ∧ SqT K H a vs ∧ Dats K H ds vs
  | .lst, v => ∃ a vs, v = .ref a ∧ SqL K H a vs
def Dats (K : PySem.W.Frag) (H : Hp) : List D → List V → Prop
  | [], vs => vs = []
  | d :: ds, vs => ∃ v r, vs = v :: r ∧ Dat K H d v ∧ Dats K H ds r
end
section
variable {K : PySem.W.Frag} {H H' : Hp}
theorem Dat.tupI {a : Addr} {vs : List V} {ds : List D} (h : SqT K H a vs) (r : Dats K H ds vs) : Dat K H (.tup ds) (.ref a) := by
  unfold Dat; exact ⟨a, vs, rfl, h, r⟩
theorem Dats.nil : Dats K H [] [] := by unfold Dats; rfl
theorem Dats.cons {d : D} {v : V} {ds : List D} {vs : List V} (h : Dat K H d v) (r : Dats K H ds vs) : Dats K H (d :: ds) (v :: vs) := by
  unfold Dats; exact ⟨v, vs, rfl, h, r⟩
theorem Dat.intI (i : Int) : Dat K H (.int i) (.int i) := by unfold Dat; rfl
theorem Dat.strI (x : Str) : Dat K H (.str x) (.str x) := by unfold Dat; rfl
theorem Dat.blI (b : Bool) : Dat K H (.bl b) (.bl b) := by unfold Dat; rfl
theorem Dat.nonI : Dat K H .non .non := by unfold Dat; rfl
theorem Dat.lstI {a : Addr} {vs : List V} (h : SqL K H a vs) : Dat K H .lst (.ref a) := by unfold Dat; exact ⟨a, vs, rfl, h⟩
theorem Dat.tupE {v : V} {ds : List D} (h : Dat K H (.tup ds) v) : ∃ a vs, v = .ref a ∧ SqT K H a vs ∧ Dats K H ds vs := by
  unfold Dat at h; exact h
theorem Dat.intE {v : V} {i : Int} (h : Dat K H (.int i) v) : v = .int i := by unfold Dat at h; exact h
theorem Dat.strE {v : V} {x : Str} (h : Dat K H (.str x) v) : v = .str x := by unfold Dat at h; exact h
theorem Dat.blE {v : V} {b : Bool} (h : Dat K H (.bl b) v) : v = .bl b := by unfold Dat at h; exact h
theorem Dat.nonE {v : V} (h : Dat K H .non v) : v = .non := by unfold Dat at h; exact h
theorem Dat.lstE {v : V} (h : Dat K H .lst v) : ∃ a vs, v = .ref a ∧ SqL K H a vs := by unfold Dat at h; exact h
theorem Dats.nilE {vs : List V} (h : Dats K H [] vs) : vs = [] := by unfold Dats at h; exact h
theorem Dats.consE {d : D} {ds : List D} {vs : List V} (h : Dats K H (d :: ds) vs) : ∃ v r, vs = v :: r ∧ Dat K H d v ∧ Dats K H ds r := by
  unfold Dats at h; exact h
/-- tuples stay, lists stay lists -/
structure Grow (K : PySem.W.Frag) (H H' : Hp) : Prop where
  tup : ∀ a xs, SqT K H a xs → SqT K H' a xs
  lst : ∀ a xs, SqL K H a xs → ∃ ys, SqL K H' a ys
mutual
theorem Dat.mono (g : Grow K H H') : ∀ (d : D) {v : V}, Dat K H d v → Dat K H' d v
  | .non, v, h => by unfold Dat at h ⊢; exact h
  | .bl b, v, h => by unfold Dat at h ⊢; exact h
  | .int i, v, h => by unfold Dat at h ⊢; exact h
  | .str x, v, h => by unfold Dat at h ⊢; exact h
  | .tup ds, v, h => by
    obtain ⟨a, vs, e, q, r⟩ := h.tupE
    subst e
    exact Dat.tupI (g.tup _ _ q) (Dats.mono g ds r)
  | .lst, v, h => by
    obtain ⟨a, vs, e, q⟩ := h.lstE
    subst e
    obtain ⟨ys, q'⟩ := g.lst _ _ q
    exact Dat.lstI q'
theorem Dats.mono (g : Grow K H H') : ∀ (ds : List D) {vs : List V}, Dats K H ds vs → Dats K H' ds vs
  | [], vs, h => by unfold Dats at h ⊢; exact h
  | d :: ds, vs, h => by
    obtain ⟨v, r, e, h1, h2⟩ := h.consE
    subst e
    exact Dats.cons (Dat.mono g d h1) (Dats.mono g ds h2)
end
theorem Dats.length : ∀ {ds : List D} {vs : List V}, Dats K H ds vs → ds.length = vs.length
  | [], vs, h => by rw [h.nilE]; rfl
  | d :: ds, vs, h => by
    obtain ⟨v, r, e, h1, h2⟩ := h.consE
    subst e
    rw [List.length_cons, List.length_cons, Dats.length h2]
theorem Dats.get : ∀ {ds : List D} {vs : List V} {i : Nat} {d : D}, Dats K H ds vs → ds[i]? = some d → ∃ v, vs[i]? = some v ∧ Dat K H d v
  | [], _, i, d, _, e => by simp at e
  | d0 :: ds, vs, 0, d, h, e => by
    obtain ⟨v, r, e1, h1, h2⟩ := h.consE
    subst e1
    simp at e
    subst e
    exact ⟨v, rfl, h1⟩
  | d0 :: ds, vs, i + 1, d, h, e => by
    obtain ⟨v, r, e1, h1, h2⟩ := h.consE
    subst e1
    obtain ⟨u, q1, q2⟩ := Dats.get (i := i) (d := d) h2 (by simpa using e)
    exact ⟨u, by simpa using q1, q2⟩
theorem Dats.getV : ∀ {ds : List D} {vs : List V} {i : Nat} {v : V}, Dats K H ds vs → vs[i]? = some v → ∃ d, ds[i]? = some d ∧ Dat K H d v
  | [], vs, i, v, h, e => by rw [h.nilE] at e; simp at e
  | d0 :: ds, vs, 0, v, h, e => by
    obtain ⟨u, r, e1, h1, h2⟩ := h.consE
    subst e1
    simp at e
    subst e
    exact ⟨d0, rfl, h1⟩
  | d0 :: ds, vs, i + 1, v, h, e => by
    obtain ⟨u, r, e1, h1, h2⟩ := h.consE
    subst e1
    obtain ⟨d, q1, q2⟩ := Dats.getV (i := i) (v := v) h2 (by simpa using e)
    exact ⟨d, by simpa using q1, q2⟩
theorem Dats.append : ∀ {ds es : List D} {vs us : List V}, Dats K H ds vs → Dats K H es us → Dats K H (ds ++ es) (vs ++ us)
  | [], es, vs, us, h, h' => by rw [h.nilE]; exact h'
  | d :: ds, es, vs, us, h, h' => by
    obtain ⟨v, r, e, h1, h2⟩ := h.consE
    subst e
    exact Dats.cons h1 (Dats.append h2 h')
end

/-! ### equality -/
mutual
def eqD : D → D → Bool
  | .non, .non => true
  | .bl a, .bl b => a == b
  | .int a, .int b => a == b
  | .bl a, .int b => (if a then 1 else 0) == b
  | .int a, .bl b => a == (if b then 1 else 0)
  | .str a, .str b => a == b
  | .tup a, .tup b => eqDs a b
  | _, _ => false
def eqDs : List D → List D → Bool
  | [], [] => true
  | a :: r, b :: q => eqD a b && eqDs r q
  | _, _ => false
end
mutual
/-- no list within, so deep -/
def deepD : D → Nat
  | .tup ds => deepDs ds + 1
  | _ => 0
def deepDs : List D → Nat
  | [] => 0
  | d :: ds => max (deepD d) (deepDs ds)
end
mutual
def noL : D → Bool
  | .tup ds => noLs ds
  | .lst => false
  | _ => true
def noLs : List D → Bool
  | [] => true
  | d :: ds => noL d && noLs ds
end
def eAt (a b : List D) (j : Nat) : Bool := match a[j]?, b[j]? with
  | some x, some y => eqD x y
  | _, _ => false
theorem all_range_succ (n : Nat) (e : Nat → Bool) : (List.range (n + 1)).all e = (e 0 && (List.range n).all fun j => e (j + 1)) := by
  rw [List.range_succ_eq_map, List.all_cons, List.all_map]
  rfl
theorem eqDs_range : ∀ a b : List D, ((List.range (min a.length b.length)).all (eAt a b) && a.length == b.length) = eqDs a b
  | [], [] => by unfold eqDs; rfl
  | [], y :: b => by unfold eqDs; simp
  | x :: a, [] => by unfold eqDs; simp
  | x :: a, y :: b => by
    have ih := eqDs_range a b
    unfold eqDs
    rw [← ih, List.length_cons, List.length_cons, Nat.succ_min_succ, all_range_succ]
    have e0 : eAt (x :: a) (y :: b) 0 = eqD x y := rfl
    have e1 : (fun j => eAt (x :: a) (y :: b) (j + 1)) = eAt a b := by
      funext j
      simp [eAt]
    rw [e0, e1, Bool.and_assoc]
    congr 2
    simp
theorem eqDs_rangeL {a b : List D} (h : a.length = b.length) : (List.range a.length).all (eAt a b) = eqDs a b := by
  have q := eqDs_range a b
  rw [← h, Nat.min_self] at q
  rw [← q]
  simp
mutual
theorem eqD_refl : ∀ d : D, noL d = true → eqD d d = true
  | .non, _ => by unfold eqD; rfl
  | .bl b, _ => by unfold eqD; simp
  | .int i, _ => by unfold eqD; simp
  | .str x, _ => by unfold eqD; simp
  | .tup ds, h => by unfold eqD; unfold noL at h; exact eqDs_refl ds h
  | .lst, h => by unfold noL at h; cases h
theorem eqDs_refl : ∀ ds : List D, noLs ds = true → eqDs ds ds = true
  | [], _ => by unfold eqDs; rfl
  | d :: ds, h => by
    unfold noLs at h
    rw [Bool.and_eq_true] at h
    unfold eqDs
    rw [eqD_refl d h.1, eqDs_refl ds h.2]
    rfl
end
section
variable {X : Cx} {pins : List (Addr × Obj)} {σ : St} {H : Hp} {s : Shared}
mutual
theorem dat_inj (I : Inv X pins σ H s) : ∀ (d e : D) {v : V}, noL d = true → Dat X.K H d v → Dat X.K H e v → noL e = true → d = e
  | .non, e, v, hn, h, h', hn' => by
    have z := h.nonE; subst z
    cases e with
    | non => rfl
    | bl b => exact nomatch h'.blE
    | int i => exact nomatch h'.intE
    | str x => exact nomatch h'.strE
    | tup ds => obtain ⟨_, _, q, _⟩ := h'.tupE; exact nomatch q
    | lst => obtain ⟨_, _, q, _⟩ := h'.lstE; exact nomatch q
  | .bl b, e, v, hn, h, h', hn' => by
    have z := h.blE; subst z
    cases e with
    | non => exact nomatch h'.nonE
    | bl c => have q := h'.blE; injection q with q; rw [q]
    | int i => exact nomatch h'.intE
    | str x => exact nomatch h'.strE
    | tup ds => obtain ⟨_, _, q, _⟩ := h'.tupE; exact nomatch q
    | lst => obtain ⟨_, _, q, _⟩ := h'.lstE; exact nomatch q
  | .int i, e, v, hn, h, h', hn' => by
    have z := h.intE; subst z
    cases e with
    | non => exact nomatch h'.nonE
    | bl c => exact nomatch h'.blE
    | int j => have q := h'.intE; injection q with q; rw [q]
    | str x => exact nomatch h'.strE
    | tup ds => obtain ⟨_, _, q, _⟩ := h'.tupE; exact nomatch q
    | lst => obtain ⟨_, _, q, _⟩ := h'.lstE; exact nomatch q
  | .str x, e, v, hn, h, h', hn' => by
    have z := h.strE; subst z
    cases e with
    | non => exact nomatch h'.nonE
    | bl c => exact nomatch h'.blE
    | int j => exact nomatch h'.intE
    | str y => have q := h'.strE; injection q with q; rw [q]
    | tup ds => obtain ⟨_, _, q, _⟩ := h'.tupE; exact nomatch q
    | lst => obtain ⟨_, _, q, _⟩ := h'.lstE; exact nomatch q
  | .tup ds, e, v, hn, h, h', hn' => by
    obtain ⟨a, vs, z, q, r⟩ := h.tupE
    subst z
    cases e with
    | non => exact nomatch h'.nonE
    | bl c => exact nomatch h'.blE
    | int j => exact nomatch h'.intE
    | str y => exact nomatch h'.strE
    | tup es =>
      obtain ⟨a', vs', z, q', r'⟩ := h'.tupE
      cases z
      have ev := I.tuple_inj q q'
      subst ev
      unfold noL at hn hn'
      rw [dats_inj I ds es hn r r' hn']
    | lst => unfold noL at hn'; cases hn'
  | .lst, e, v, hn, h, h', hn' => by unfold noL at hn; cases hn
theorem dats_inj (I : Inv X pins σ H s) : ∀ (ds es : List D) {vs : List V}, noLs ds = true → Dats X.K H ds vs → Dats X.K H es vs → noLs es = true → ds = es
  | [], es, vs, _, h, h', _ => by
    have z := h.nilE; subst z
    cases es with
    | nil => rfl
    | cons e es => obtain ⟨_, _, q, _⟩ := h'.consE; exact nomatch q
  | d :: ds, es, vs, hn, h, h', hn' => by
    obtain ⟨v, r, z, h1, h2⟩ := h.consE
    subst z
    cases es with
    | nil => exact nomatch h'.nilE
    | cons e es =>
      obtain ⟨v', r', z, h1', h2'⟩ := h'.consE
      injection z with z1 z2
      subst z1 z2
      unfold noLs at hn hn'
      rw [Bool.and_eq_true] at hn hn'
      rw [dat_inj I d e hn.1 h1 h1' hn'.1, dats_inj I ds es hn.2 h2 h2' hn'.2]
end
end
theorem in1_units (A : Around) : A.in1.units = A.units + 1 := rfl
section
variable {X : Cx} {pins : List (Addr × Obj)} {σ : St} {H : Hp} {s : Shared}
theorem deepDs_get : ∀ {ds : List D} {j : Nat} {d : D}, ds[j]? = some d → deepD d ≤ deepDs ds
  | [], _, _, e => by simp at e
  | d0 :: ds, 0, d, e => by simp at e; subst e; unfold deepDs; exact Nat.le_max_left _ _
  | d0 :: ds, j + 1, d, e => by
    have q := deepDs_get (ds := ds) (j := j) (d := d) (by simpa using e)
    unfold deepDs
    exact Nat.le_trans q (Nat.le_max_right _ _)
theorem noLs_get : ∀ {ds : List D} {j : Nat} {d : D}, noLs ds = true → ds[j]? = some d → noL d = true
  | [], _, _, _, e => by simp at e
  | d0 :: ds, 0, d, h, e => by simp at e; subst e; unfold noLs at h; rw [Bool.and_eq_true] at h; exact h.1
  | d0 :: ds, j + 1, d, h, e => by
    unfold noLs at h
    rw [Bool.and_eq_true] at h
    exact noLs_get (ds := ds) (j := j) (d := d) h.2 (by simpa using e)
/-- at the items of two sequences -/
theorem eqAt_items {A : Around} {ds es : List D} {xs ys : List V} {us ws : List Value} (n : Nat)
    (all : ∀ (d e : D) (x y : V) (u w : Value), deepD d ≤ n → noL d = true → noL e = true → Dat X.K H d x → Dat X.K H e y → RelV x u → RelV y w → SeqAt.EqAt A s u w (eqD d e))
    (hn : deepDs ds ≤ n) (h1 : noLs ds = true) (h2 : noLs es = true) (r1 : Dats X.K H ds xs) (r2 : Dats X.K H es ys) (v1 : Vals xs us) (v2 : Vals ys ws) :
    ∀ j (k1 : j < us.toArray.size) (k2 : j < ws.toArray.size), SeqAt.EqAt A s us.toArray[j] ws.toArray[j] (eAt ds es j) := by
  intro j k1 k2
  have l1 : j < xs.length := by rw [v1.length]; simpa using k1
  have l2 : j < ys.length := by rw [v2.length]; simpa using k2
  obtain ⟨u, eu, ru⟩ := v1.get (i := j) (x := xs[j]) (List.getElem?_eq_getElem l1)
  obtain ⟨w, ew, rw'⟩ := v2.get (i := j) (x := ys[j]) (List.getElem?_eq_getElem l2)
  obtain ⟨d, ed, qd⟩ := r1.getV (i := j) (v := xs[j]) (List.getElem?_eq_getElem l1)
  obtain ⟨e, ee, qe⟩ := r2.getV (i := j) (v := ys[j]) (List.getElem?_eq_getElem l2)
  have z1 : us.toArray[j] = u := by
    have : us[j]? = some u := eu
    have k1' : j < us.length := by simpa using k1
    rw [List.getElem?_eq_getElem k1'] at this
    simpa using Option.some.inj this
  have z2 : ws.toArray[j] = w := by
    have : ws[j]? = some w := ew
    have k2' : j < ws.length := by simpa using k2
    rw [List.getElem?_eq_getElem k2'] at this
    simpa using Option.some.inj this
  have z3 : eAt ds es j = eqD d e := by unfold eAt; rw [ed, ee]
  rw [z1, z2, z3]
  exact all d e _ _ u w (Nat.le_trans (deepDs_get ed) hn) (noLs_get h1 ed) (noLs_get h2 ee) qd qe ru rw'
theorem rcAt_tup {A : Around} {ds es : List D} {a b : Addr} {xs ys : List V} (I : Inv X pins σ H s) (hu : A.units < cLine) (n : Nat)
    (all : ∀ (d e : D) (x y : V) (u w : Value), deepD d ≤ n → noL d = true → noL e = true → Dat X.K H d x → Dat X.K H e y → RelV x u → RelV y w → SeqAt.EqAt A.in1 s u w (eqD d e))
    (hn : deepDs ds ≤ n) (h1 : noLs ds = true) (h2 : noLs es = true) (r1 : Dats X.K H ds xs) (r2 : Dats X.K H es ys) (q1 : SqT X.K H a xs) (q2 : SqT X.K H b ys) :
    SeqAt.RcAt A s (.ref a) (.ref b) (eqDs ds es) ∧ SeqAt.RcNeAt A s (.ref a) (.ref b) (!eqDs ds es) := by
  obtain ⟨us, v1, t1, _⟩ := I.tuple q1
  obtain ⟨ws, v2, t2, _⟩ := I.tuple q2
  have hi := eqAt_items (X := X) (H := H) (s := s) n all hn h1 h2 r1 r2 v1 v2
  have p := SeqAt.RcAt.tuples (show s.heap.IsTuple a us.toArray from t1) (show s.heap.IsTuple b ws.toArray from t2) hu hi
  have p' := SeqAt.RcNeAt.tuples (show s.heap.IsTuple a us.toArray from t1) (show s.heap.IsTuple b ws.toArray from t2) hu hi
  have e1 : us.toArray.size = ds.length := by rw [List.size_toArray, ← v1.length, r1.length]
  have e2 : ws.toArray.size = es.length := by rw [List.size_toArray, ← v2.length, r2.length]
  rw [e1, e2, eqDs_range] at p p'
  exact ⟨p, p'⟩
/-- two data are compared, as items are -/
theorem eqAt_D (I : Inv X pins σ H s) : ∀ (n : Nat) (A : Around) (d e : D) (x y : V) (u w : Value), A.units + n + 1 < cLine → deepD d ≤ n → noL d = true → noL e = true → Dat X.K H d x → Dat X.K H e y → RelV x u → RelV y w → SeqAt.EqAt A s u w (eqD d e) := by
  intro n
  induction n with
  | zero =>
    intro A d e x y u w hu hn h1 h2 q1 q2 r1 r2
    exact base I A d e x y u w (by omega) h1 h2 q1 q2 r1 r2 fun ds es a b xs ys ed ee => by
      subst ed
      unfold deepD at hn
      omega
  | succ n ih =>
    intro A d e x y u w hu hn h1 h2 q1 q2 r1 r2
    refine base I A d e x y u w (by omega) h1 h2 q1 q2 r1 r2 fun ds es a b xs ys ed ee t1 t2 s1 s2 hne => ?_
    subst ed ee
    unfold deepD at hn
    unfold noL at h1 h2
    have p := (rcAt_tup (A := A) (ds := ds) (es := es) I (by omega) n (fun d e x y u w k1 k2 k3 k4 k5 k6 k7 => ih A.in1 d e x y u w (by rw [in1_units]; omega) k1 k2 k3 k4 k5 k6 k7) (by omega) h1 h2 t1 t2 s1 s2).1
    unfold eqD
    exact .of_refs hne p
where
  base (I : Inv X pins σ H s) (A : Around) (d e : D) (x y : V) (u w : Value) (hu : A.units < cLine) (h1 : noL d = true) (h2 : noL e = true) (q1 : Dat X.K H d x) (q2 : Dat X.K H e y) (r1 : RelV x u) (r2 : RelV y w)
      (tt : ∀ (ds es : List D) (a b : Addr) (xs ys : List V), d = .tup ds → e = .tup es → Dats X.K H ds xs → Dats X.K H es ys → SqT X.K H a xs → SqT X.K H b ys → a ≠ b → SeqAt.EqAt A s (.ref a) (.ref b) (eqD (.tup ds) (.tup es))) :
      SeqAt.EqAt A s u w (eqD d e) := by
    cases d with
    | lst => unfold noL at h1; cases h1
    | non =>
      have z := q1.nonE; subst z; cases r1
      cases e with
      | lst => unfold noL at h2; cases h2
      | non => have z := q2.nonE; subst z; cases r2; unfold eqD; exact SeqAt.EqAt.same _
      | bl b => have z := q2.blE; subst z; cases r2; unfold eqD; exact SeqAt.EqAt.none_bool b
      | int i => have z := q2.intE; subst z; obtain ⟨t, rfl⟩ := r2; unfold eqD; exact SeqAt.EqAt.none_int i t
      | str i => have z := q2.strE; subst z; obtain ⟨t, rfl⟩ := r2; unfold eqD; exact SeqAt.EqAt.none_str i t
      | tup es => obtain ⟨b, ys, z, s2, t2⟩ := q2.tupE; subst z; cases r2; obtain ⟨ws, v2, p2, _⟩ := I.tuple s2; unfold eqD; exact SeqAt.EqAt.none_tuple (show s.heap.IsTuple b ws.toArray from p2) hu
    | bl c =>
      have z := q1.blE; subst z; cases r1
      cases e with
      | lst => unfold noL at h2; cases h2
      | non => have z := q2.nonE; subst z; cases r2; unfold eqD; exact SeqAt.EqAt.bool_none c
      | bl b => have z := q2.blE; subst z; cases r2; unfold eqD; exact SeqAt.EqAt.bool_bool c b
      | int i => have z := q2.intE; subst z; obtain ⟨t, rfl⟩ := r2; unfold eqD; exact SeqAt.EqAt.bool_int c i t
      | str i => have z := q2.strE; subst z; obtain ⟨t, rfl⟩ := r2; unfold eqD; exact SeqAt.EqAt.bool_str c i t
      | tup es => obtain ⟨b, ys, z, s2, t2⟩ := q2.tupE; subst z; cases r2; obtain ⟨ws, v2, p2, _⟩ := I.tuple s2; unfold eqD; exact SeqAt.EqAt.bool_tuple c (show s.heap.IsTuple b ws.toArray from p2) hu
    | int c =>
      have z := q1.intE; subst z; obtain ⟨tc, rfl⟩ := r1
      cases e with
      | lst => unfold noL at h2; cases h2
      | non => have z := q2.nonE; subst z; cases r2; unfold eqD; exact SeqAt.EqAt.int_none c tc
      | bl b => have z := q2.blE; subst z; cases r2; unfold eqD; exact SeqAt.EqAt.int_bool c tc b
      | int i => have z := q2.intE; subst z; obtain ⟨t, rfl⟩ := r2; unfold eqD; exact SeqAt.EqAt.int_int c tc i t
      | str i => have z := q2.strE; subst z; obtain ⟨t, rfl⟩ := r2; unfold eqD; exact SeqAt.EqAt.int_str c tc i t
      | tup es => obtain ⟨b, ys, z, s2, t2⟩ := q2.tupE; subst z; cases r2; obtain ⟨ws, v2, p2, _⟩ := I.tuple s2; unfold eqD; exact SeqAt.EqAt.int_tuple c tc (show s.heap.IsTuple b ws.toArray from p2) hu
    | str c =>
      have z := q1.strE; subst z; obtain ⟨tc, rfl⟩ := r1
      cases e with
      | lst => unfold noL at h2; cases h2
      | non => have z := q2.nonE; subst z; cases r2; unfold eqD; exact SeqAt.EqAt.str_none c tc
      | bl b => have z := q2.blE; subst z; cases r2; unfold eqD; exact SeqAt.EqAt.str_bool c tc b
      | int i => have z := q2.intE; subst z; obtain ⟨t, rfl⟩ := r2; unfold eqD; exact SeqAt.EqAt.str_int c tc i t
      | str i => have z := q2.strE; subst z; obtain ⟨t, rfl⟩ := r2; unfold eqD; exact SeqAt.EqAt.str_str c tc i t
      | tup es => obtain ⟨b, ys, z, s2, t2⟩ := q2.tupE; subst z; cases r2; obtain ⟨ws, v2, p2, _⟩ := I.tuple s2; unfold eqD; exact SeqAt.EqAt.str_tuple c tc (show s.heap.IsTuple b ws.toArray from p2) hu
    | tup ds =>
      have q1' := q1
      obtain ⟨a, xs, z, s1, t1⟩ := q1.tupE; subst z; cases r1; obtain ⟨us, v1, p1, _⟩ := I.tuple s1
      have p1' : s.heap.IsTuple a us.toArray := p1
      cases e with
      | lst => unfold noL at h2; cases h2
      | non => have z := q2.nonE; subst z; cases r2; unfold eqD; exact SeqAt.EqAt.tuple_none p1' hu
      | bl b => have z := q2.blE; subst z; cases r2; unfold eqD; exact SeqAt.EqAt.tuple_bool b p1' hu
      | int i => have z := q2.intE; subst z; obtain ⟨t, rfl⟩ := r2; unfold eqD; exact SeqAt.EqAt.tuple_int i t p1' hu
      | str i => have z := q2.strE; subst z; obtain ⟨t, rfl⟩ := r2; unfold eqD; exact SeqAt.EqAt.tuple_str i t p1' hu
      | tup es =>
        have q2' := q2
        obtain ⟨b, ys, z, s2, t2⟩ := q2.tupE; subst z; cases r2
        by_cases hab : a = b
        · subst hab
          have ee := dat_inj I (.tup ds) (.tup es) h1 q1' q2' h2
          rw [← ee, eqD_refl _ h1]
          exact SeqAt.EqAt.same _
        · exact tt ds es a b xs ys rfl rfl t1 t2 s1 s2 hab
/-- two lists of data -/
theorem rc_L (I : Inv X pins σ H s) (n : Nat) (A : Around) (ds es : List D) (a b : Addr) (xs ys : List V) (hu : A.units + n + 2 < cLine) (hn : deepDs ds ≤ n) (h1 : noLs ds = true) (h2 : noLs es = true) (q1 : SqL X.K H a xs) (q2 : SqL X.K H b ys) (r1 : Dats X.K H ds xs) (r2 : Dats X.K H es ys) :
    SeqAt.RcAt A s (.ref a) (.ref b) (eqDs ds es) ∧ SeqAt.RcNeAt A s (.ref a) (.ref b) (!eqDs ds es) := by
  have hu' : A.units < cLine := by omega
  obtain ⟨us, v1, p1, _⟩ := I.list q1
  obtain ⟨ws, v2, p2, _⟩ := I.list q2
  have e1 : us.toArray.size = ds.length := by rw [List.size_toArray, ← v1.length, r1.length]
  have e2 : ws.toArray.size = es.length := by rw [List.size_toArray, ← v2.length, r2.length]
  have hi := eqAt_items (X := X) (H := H) (s := s) (A := A.in1) n (fun d e x y u w k1 k2 k3 k4 k5 k6 k7 => eqAt_D I n A.in1 d e x y u w (by rw [in1_units]; omega) k1 k2 k3 k4 k5 k6 k7) hn h1 h2 r1 r2 v1 v2
  by_cases hl : ds.length = es.length
  · have hsz : us.toArray.size = ws.toArray.size := by rw [e1, e2, hl]
    have p := SeqAt.RcAt.lists p1.isList p2.isList hsz hu' hi
    have p' := SeqAt.RcNeAt.lists p1.isList p2.isList hsz hu' hi
    rw [e1, eqDs_rangeL hl] at p p'
    exact ⟨p, p'⟩
  · have hsz : (us.toArray.size != ws.toArray.size) = true := by rw [e1, e2]; simpa using hl
    have z : eqDs ds es = false := by
      rw [← eqDs_range]
      have : (ds.length == es.length) = false := by simpa using hl
      rw [this, Bool.and_false]
    rw [z]
    exact ⟨SeqAt.RcAt.lists_lengths p1.isList p2.isList hsz hu', SeqAt.RcNeAt.lists_lengths p1.isList p2.isList hsz hu'⟩
end
section
variable {X : Cx} {k : Nat}
def rEqL (K : PySem.W.Frag) (neg : Bool) : R2 := fun x y H Q => ∃ a b xs ys ds es, x = .ref a ∧ y = .ref b ∧ SqL K H a xs ∧ SqL K H b ys ∧ Dats K H ds xs ∧ Dats K H es ys ∧ noLs ds = true ∧ noLs es = true ∧ deepDs ds ≤ 20 ∧ Q (.bl (if neg then !eqDs ds es else eqDs ds es)) H
theorem op_eqL (hr : Room k X.A) : OpR X (compareOp .Eq) (rEqL X.K false) := by
  intro pins s σ H x y v u Q I rx ry h
  obtain ⟨a, b, xs, ys, ds, es, ex, ey, q1, q2, r1, r2, h1, h2, hn, q⟩ := h
  subst ex ey
  cases rx
  cases ry
  have hu : X.A.units + 20 + 2 < cLine := by have := hr.un; omega
  exact (rc_L I 20 X.A ds es a b xs ys hu hn h1 h2 q1 q2 r1 r2).1 _ _ _ _ ⟨.bl _, H, I, rfl, q⟩
theorem op_neL (hr : Room k X.A) : OpR X (compareOp .NotEq) (rEqL X.K true) := by
  intro pins s σ H x y v u Q I rx ry h
  obtain ⟨a, b, xs, ys, ds, es, ex, ey, q1, q2, r1, r2, h1, h2, hn, q⟩ := h
  subst ex ey
  cases rx
  cases ry
  have hu : X.A.units + 20 + 2 < cLine := by have := hr.un; omega
  exact (rc_L I 20 X.A ds es a b xs ys hu hn h1 h2 q1 q2 r1 r2).2 _ _ _ _ ⟨.bl _, H, I, rfl, q⟩
/-- is, is not, of bools -/
theorem op_isB : OpR X (compareOp .Is) (fun x y H Q => ∃ a b, x = .bl a ∧ y = .bl b ∧ Q (.bl (a == b)) H) := by
  intro pins s σ H x y v u Q I rx ry h
  obtain ⟨a, b, ex, ey, q⟩ := h
  subst ex ey
  cases rx
  cases ry
  exact PyProof.Rows.is_bool ⟨.bl _, H, I, rfl, q⟩
theorem op_isnotB : OpR X (compareOp .IsNot) (fun x y H Q => ∃ a b, x = .bl a ∧ y = .bl b ∧ Q (.bl (a != b)) H) := by
  intro pins s σ H x y v u Q I rx ry h
  obtain ⟨a, b, ex, ey, q⟩ := h
  subst ex ey
  cases rx
  cases ry
  exact PyProof.Rows.isnot_bool ⟨.bl _, H, I, rfl, q⟩

/-! ### isinstance against a built-in type -/
def tyD : D → String
  | .non => "NoneType"
  | .bl _ => "bool"
  | .int _ => "int"
  | .str _ => "str"
  | .tup _ => "tuple"
  | .lst => "list"
/-- T is one of int, bool, str, tuple, list -/
def isiD (d : D) (T : String) : Bool := tyD d == T || (tyD d == "bool" && T == "int")
theorem call_isi {T : String} (hk : ∀ d : D, PySem.W.kitOne X.K (.type (tyD d)) (.type T) = some (isiD d T)) :
    CallR X (.builtin "isinstance") (fun xs H Q => ∃ x d, xs = [x, .ty T] ∧ Dat X.K H d x ∧ Q (.bl (isiD d T)) H) := by
  intro pins s σ H xs us Q I r h
  obtain ⟨x, d, e, q, h⟩ := h
  subst e
  obtain ⟨u, c, e, ru, rc⟩ := vals2 r
  subst e
  cases (show c = Value.type T from rc)
  have fin : ∀ tk, EP X pins σ Q (.bool (isiD d T)) { s with toks := tk } := fun tk => ⟨.bl _, H, I.tok tk, rfl, h⟩
  have kd := hk d
  cases d with
  | non => have z := q.nonE; subst z; cases ru; exact PySem.W.kia_one PySem.W.kitx_none I.kIn True.intro kd (fun z => nomatch z) fin
  | bl b => have z := q.blE; subst z; cases ru; exact PySem.W.kia_one PySem.W.kitx_bool I.kIn True.intro kd (fun z => nomatch z) fin
  | int i => have z := q.intE; subst z; obtain ⟨t, rfl⟩ := ru; exact PySem.W.kia_one PySem.W.kitx_int I.kIn True.intro kd (fun z => nomatch z) fin
  | str y => have z := q.strE; subst z; obtain ⟨t, rfl⟩ := ru; exact PySem.W.kia_one PySem.W.kitx_str I.kIn True.intro kd (fun z => nomatch z) fin
  | tup ds =>
    obtain ⟨a, vs, z, sq, _⟩ := q.tupE
    subst z
    cases ru
    obtain ⟨its, _, ⟨o, e1, e2, _⟩, _⟩ := I.tuple sq
    exact PySem.W.kia_one PySem.W.kitx_tuple I.kIn ⟨o, e1, e2⟩ kd (fun z => nomatch z) fin
  | lst =>
    obtain ⟨a, vs, z, sq⟩ := q.lstE
    subst z
    cases ru
    obtain ⟨its, _, ⟨o, _, e1, e2, _⟩, _⟩ := I.list sq
    exact PySem.W.kia_one PySem.W.kitx_list I.kIn ⟨o, e1, e2⟩ kd (fun z => nomatch z) fin
end

/-! ### tables of the module: texts to ints -/
def TabK (K : PySem.W.Frag) (a : Addr) (T : List (Str × KTD.Dat)) : Prop := ∀ h : Heap, K.In h → KTD.TextTab h a T
section
variable {X : Cx}
theorem op_inTab : OpR X (compareOp .In) (fun x y H Q => ∃ k a T, x = .str k ∧ y = .ref a ∧ TabK X.K a T ∧ Q (.bl (KTD.inKeys k T)) H) := by
  intro pins s σ H x y v u Q I rx ry h
  obtain ⟨k, a, T, ex, ey, t, q⟩ := h
  subst ex ey
  obtain ⟨tk, rfl⟩ := rx
  cases ry
  exact KTD.in_text (h₀ := s.heap) ⟨t _ I.kIn, fun _ _ e => e⟩ ⟨.bl _, H, I.tok _, rfl, q⟩
def rIxTab (K : PySem.W.Frag) : R2 := fun x y H Q => ∃ a k T i, x = .ref a ∧ y = .str k ∧ TabK K a T ∧ (T.all fun p => KTD.plain p.2) = true ∧ KTD.datumAt k T = some (.flat (.int i)) ∧ Q (.int i) H
theorem ix_tab : IxR X (rIxTab X.K) := by
  intro value slice pins s σ H x y v u Q I rx ry h hs
  obtain ⟨a, k, T, i, ex, ey, t, hp, hd, q⟩ := h
  subst ex ey
  obtain ⟨tk, rfl⟩ := ry
  cases rx
  have hm : KTD.inKeys k T = true := by rw [← KTD.isSome_datumAt, hd]; rfl
  refine KTD.item_textA (h₀ := s.heap) ⟨t _ I.kIn, fun _ _ e => e⟩ hp hm ?_ hs
  exact each T hd fun v hv => by
    obtain ⟨t', rfl⟩ := PyProof.V.Flat.int_inv hv
    exact ⟨.int i, H, I.tok _, ⟨t', rfl⟩, q⟩
where
  each {h : Heap} {k : Str} {P : Value → Prop} {i : Int} : ∀ (T : List (Str × KTD.Dat)), KTD.datumAt k T = some (.flat (.int i)) → (∀ v, PyProof.V.Flat v (.int i) → P v) → KTD.EachL h k P T
    | [], hd, _ => by simp [KTD.datumAt] at hd
    | (x, d) :: T, hd, hP => by
      have hd' : (if decide (k = x) = true then some d else KTD.datumAt k T) = some (.flat (.int i)) := hd
      by_cases hx : k = x
      · rw [if_pos (decide_eq_true hx)] at hd'
        cases hd'
        refine KTD.eachL_hit hx ?_
        exact opened hP
      · rw [if_neg (by simp [hx])] at hd'
        exact KTD.eachL_miss hx (each T hd' hP)
  opened {h : Heap} {P : Value → Prop} {i : Int} (hP : ∀ v, PyProof.V.Flat v (.int i) → P v) : KTD.Opened h P (.flat (.int i)) := by
    first
      | exact KTD.opened_int fun t => hP _ (PyProof.V.Flat.int i t)
      | exact fun t => hP _ (PyProof.V.Flat.int i t)
end
end L2
end
section
set_option Elab.async false
set_option linter.all false
set_option maxRecDepth 100000
set_option maxHeartbeats 4000000
/-! SHORT WORDS for data, draws and comprehensions. -/
namespace L2
open PySem PySem.Spec PyProof.Rows

/-! ### heaps that grow -/
section
variable {K : PySem.W.Frag} {H H' H2 : Hp}
theorem Same.sqT {a : Addr} {xs : List V} (e : Same H H') (h : SqT K H a xs) : SqT K H' a xs := by
  rcases h with (h | ⟨o, h⟩) | h
  · exact .inl (.inl (e _ _ h))
  · exact .inl (.inr ⟨o, e _ _ h⟩)
  · exact .inr h
theorem Same.grow (e : Same H H') : Grow K H H' := ⟨fun _ _ h => e.sqT h, fun _ xs h => ⟨xs, e.seq h⟩⟩
theorem Same.dat {d : D} {v : V} (e : Same H H') (h : Dat K H d v) : Dat K H' d v := Dat.mono e.grow d h
theorem Same.dats {ds : List D} {vs : List V} (e : Same H H') (h : Dats K H ds vs) : Dats K H' ds vs := Dats.mono e.grow ds h
theorem same_new {p : Addr} (h : H p = none) (o : HO) : Same H (upd H p o) := fun b u q => by rw [upd_ne (ne_of_none q h)]; exact q
/-- all but the object at t stays -/
def But (t : Addr) (H H' : Hp) : Prop := ∀ b o, b ≠ t → H b = some o → H' b = some o
theorem Same.but {t : Addr} (e : Same H H') : But t H H' := fun b o _ h => e b o h
theorem But.trans {t : Addr} (a : But t H H') (b : But t H' H2) : But t H H2 := fun c o n h => b c o n (a c o n h)
theorem But.upd {t : Addr} {o : HO} (a : But t H H') : But t H (upd H' t o) := fun b u n h => by rw [upd_ne n]; exact a b u n h
theorem But.sqT {t a : Addr} {xs : List V} {zs : List V} (e : But t H H') (ht : H t = some (.lst zs)) (h : SqT K H a xs) : SqT K H' a xs := by
  rcases h with (h | ⟨o, h⟩) | h
  · exact .inl (.inl (e _ _ (fun z => by rw [z, ht] at h; cases h) h))
  · exact .inl (.inr ⟨o, e _ _ (fun z => by rw [z, ht] at h; cases h) h⟩)
  · exact .inr h
theorem But.sqL {t a : Addr} {xs : List V} (e : But t H H') (n : a ≠ t) (h : SqL K H a xs) : SqL K H' a xs := by
  rcases h with (h | ⟨o, h⟩) | h
  · exact .inl (.inl (e _ _ n h))
  · exact .inl (.inr ⟨o, e _ _ n h⟩)
  · exact .inr h
theorem But.grow {t : Addr} {zs zs' : List V} (e : But t H H') (ht : H t = some (.lst zs)) (ht' : H' t = some (.lst zs')) : Grow K H H' :=
  ⟨fun _ _ h => e.sqT ht h, fun a xs h => by
    by_cases n : a = t
    · subst n; exact ⟨zs', SqL.of ht'⟩
    · exact ⟨xs, e.sqL n h⟩⟩
end

/-! ### isinstance: what the deciders answer -/
section
variable {K : PySem.W.Frag}
theorem hi_int (d : D) : PySem.W.kitOne K (.type (tyD d)) (.type "int") = some (isiD d "int") := by cases d <;> rfl
theorem hi_bool (d : D) : PySem.W.kitOne K (.type (tyD d)) (.type "bool") = some (isiD d "bool") := by cases d <;> rfl
theorem hi_str (d : D) : PySem.W.kitOne K (.type (tyD d)) (.type "str") = some (isiD d "str") := by cases d <;> rfl
theorem hi_tuple (d : D) : PySem.W.kitOne K (.type (tyD d)) (.type "tuple") = some (isiD d "tuple") := by cases d <;> rfl
theorem hi_list (d : D) : PySem.W.kitOne K (.type (tyD d)) (.type "list") = some (isiD d "list") := by cases d <;> rfl
end

/-! ### a def upon data: it makes nothing that is seen but its answer -/
def spD (K : PySem.W.Frag) (R : List D → D → Prop) : Sp := fun vs H Q _ => ∃ ds d, Dats K H ds vs ∧ R ds d ∧ ∀ v H', Same H H' → Dat K H' d v → Q v H'
/-- .. a new list of data -/
def spDL (K : PySem.W.Frag) (R : List D → List D → Prop) : Sp := fun vs H Q _ => ∃ ds es, Dats K H ds vs ∧ R ds es ∧ ∀ r us H', Same H H' → H' r = some (.lst us) → H r = none → Dats K H' es us → Q (.ref r) H'
theorem dats1 {K : PySem.W.Frag} {H : Hp} {a : D} {vs : List V} (h : Dats K H [a] vs) : ∃ u, vs = [u] ∧ Dat K H a u := by
  obtain ⟨u, r, e, h1, h⟩ := h.consE
  have z := h.nilE
  subst z e
  exact ⟨u, rfl, h1⟩
theorem dats2 {K : PySem.W.Frag} {H : Hp} {a b : D} {vs : List V} (h : Dats K H [a, b] vs) : ∃ u v, vs = [u, v] ∧ Dat K H a u ∧ Dat K H b v := by
  obtain ⟨u, r, e, h1, h⟩ := h.consE
  obtain ⟨v, q, h2⟩ := dats1 h
  subst q e
  exact ⟨u, v, rfl, h1, h2⟩
theorem dats3 {K : PySem.W.Frag} {H : Hp} {a b c : D} {vs : List V} (h : Dats K H [a, b, c] vs) : ∃ u v w, vs = [u, v, w] ∧ Dat K H a u ∧ Dat K H b v ∧ Dat K H c w := by
  obtain ⟨u, r, e, h1, h⟩ := h.consE
  obtain ⟨v, w, q, h2⟩ := dats2 h
  subst q e
  exact ⟨u, v, w, rfl, h1, h2⟩

/-! ### a comprehension over so many items -/
theorem set_set_none {σ : St} {j : Nat} {z : Option V} {x : Option V} : (σ.set j z).set j x = σ.set j x := by rw [List.set_set]
theorem comp_items {J : It} {n : Nat} {item : Nat → V} {j : Nat} {te : TE} {σ0 : St} {H1 : Hp} {Q : VK} (Ok : Hp → Prop)
    (go : ∀ i H', Ok H' → i < n → J.go i H' ∧ ∀ x H'', J.yld i H' x H'' → H'' = H' ∧ x = item i) (stop : ∀ H', Ok H' → J.stop n H') (h0 : σ0.set j none = σ0)
    (D : Addr) (Pn : Nat → Hp → Prop) (p0 : Pn 0 (upd H1 D (.lst []))) (ok : ∀ i H', i ≤ n → Pn i H' → Ok H')
    (turn : ∀ i H', i < n → Pn i H' → te (σ0.set j (some (item i))) H' fun v H4 => ∃ ys, H4 D = some (.lst ys) ∧ ys.length < sizeLine ∧ (∃ z, σ0.set j (some (item i)) = σ0.set j z) ∧ Pn (i + 1) (upd H4 D (.lst (ys ++ [v]))))
    (fin : ∀ H', Pn n H' → Q (.ref D) H') :
    ∃ W : Nat → Nat → St → Hp → Prop, (∃ m, W 0 m σ0 (upd H1 D (.lst []))) ∧ ∀ i m σ' H', W i m σ' H' →
      (J.stop i H' ∧ Q (.ref D) H') ∨
      (J.go i H' ∧ ∃ Nx : St → Hp → Prop, (∀ σ'' H'', Nx σ'' H'' → ∃ m', m' < m ∧ W (i + 1) m' σ'' H'') ∧ ∀ x H'', J.yld i H' x H'' → gName j x σ' H'' fun σ2 H2 => tTrue σ2 H2 fun b H3 =>
        if b = true then te σ2 H3 fun v H4 => ∃ ys, H4 D = some (.lst ys) ∧ ys.length < sizeLine ∧ Nx σ2 (upd H4 D (.lst (ys ++ [v]))) else Nx σ2 H3) := by
  refine ⟨fun i m σ' H' => m = n - i ∧ i ≤ n ∧ (∃ z, σ' = σ0.set j z) ∧ Pn i H', ⟨n, by omega, Nat.zero_le _, ⟨none, h0.symm⟩, p0⟩, ?_⟩
  rintro i m σ' H' ⟨rfl, hi, ⟨z, rfl⟩, p⟩
  have o := ok i H' hi p
  by_cases hlt : i < n
  · obtain ⟨g, y⟩ := go i H' o hlt
    refine .inr ⟨g, fun σ'' H'' => (∃ z, σ'' = σ0.set j z) ∧ Pn (i + 1) H'', fun σ'' H'' q => ⟨n - (i + 1), by omega, rfl, hlt, q.1, q.2⟩, fun x H'' yx => ?_⟩
    obtain ⟨e1, e2⟩ := y x H'' yx
    subst e1 e2
    simp only [gName, tTrue, if_true, set_set_none]
    exact turn i _ hlt p
  · have e : i = n := by omega
    subst e
    exact .inl ⟨stop H' o, fin H' p⟩
theorem go_tup {K : PySem.W.Frag} {a : Addr} {xs : List V} (i : Nat) (H' : Hp) (h : SqT K H' a xs) (hi : i < xs.length) : (Itt K a).go i H' ∧ ∀ x H'', (Itt K a).yld i H' x H'' → H'' = H' ∧ x = xs.getD i .non := by
  refine ⟨⟨xs, xs[i], h, List.getElem?_eq_getElem hi⟩, fun x H'' y => ⟨y.1, ?_⟩⟩
  have q := y.2 xs h
  rw [List.getD_eq_getElem?_getD, q]
  rfl
theorem go_lst {K : PySem.W.Frag} {a : Addr} {xs : List V} (i : Nat) (H' : Hp) (h : SqL K H' a xs) (hi : i < xs.length) : (Itl K a).go i H' ∧ ∀ x H'', (Itl K a).yld i H' x H'' → H'' = H' ∧ x = xs.getD i .non := by
  refine ⟨⟨xs, xs[i], h, List.getElem?_eq_getElem hi⟩, fun x H'' y => ⟨y.1, ?_⟩⟩
  have q := y.2 xs h
  rw [List.getD_eq_getElem?_getD, q]
  rfl
theorem go_rng {n : Nat} (i : Nat) (H' : Hp) (hi : i < n) : (Itr 0 n).go i H' ∧ ∀ x H'', (Itr 0 n).yld i H' x H'' → H'' = H' ∧ x = .int i := by
  refine ⟨hi, fun x H'' y => ⟨y.1, ?_⟩⟩
  have q := y.2
  rw [q]
  simp

/-! ### items, products -/
section
variable {X : Cx}
def rGetL (K : PySem.W.Frag) : V → V → Hp → VK → Prop := fun o i H Q => ∃ p xs k v, o = .ref p ∧ i = .int k ∧ 0 ≤ k ∧ SqL K H p xs ∧ xs[k.toNat]? = some v ∧ Q v H
theorem get_list : PGet X (rGetL X.K) := by
  intro pins s σ H o i ov iv Q I r1 r2 h
  obtain ⟨p, xs, k, v, eo, ei, h0, hq, he, q⟩ := h
  subst eo ei
  cases r1
  obtain ⟨t, rfl⟩ := r2
  obtain ⟨its, r, pl, hz⟩ := I.list hq
  obtain ⟨w, ew, rw'⟩ := r.get he
  have hl := r.length
  have hlt : k.toNat < xs.length := (List.getElem?_eq_some_iff.mp he).1
  have hn := line63
  exact wpAny_getItem_list pl.isList h0 (by omega) (by simpa using ew) ⟨v, H, I, rw', q⟩
theorem op_mulB : OpR X (binaryOp .Mult) (rI IntMulOk fun i j => .int (i * j)) := opI fun _ _ _ _ _ _ _ hc q => mul_int q hc
end
theorem ixN_nat {n j : Nat} (h : j < n) : ixN n (j : Int) = some j := by
  unfold ixN
  rw [if_pos (by omega), if_pos (by omega)]
  simp
theorem at0 {α : Type} {x : α} {r : List α} : atI (x :: r) 0 = some x := atI_nat (j := 0) rfl
theorem at1 {α : Type} {x y : α} {r : List α} : atI (x :: y :: r) 1 = some y := atI_nat (j := 1) rfl
theorem ix0 {n : Nat} : ixN (n + 1) 0 = some 0 := ixN_nat (j := 0) (by omega)
theorem ix1 {n : Nat} : ixN (n + 2) 1 = some 1 := ixN_nat (j := 1) (by omega)
/-- a list of ints as data -/
theorem dats_ints {K : PySem.W.Frag} {H : Hp} : ∀ ns : List Int, Dats K H (ns.map D.int) (ns.map V.int)
  | [] => Dats.nil
  | n :: ns => Dats.cons (Dat.intI n) (dats_ints ns)
theorem noLs_ints : ∀ ns : List Int, noLs (ns.map D.int) = true
  | [] => by unfold noLs; rfl
  | n :: ns => by
    show noLs (D.int n :: ns.map D.int) = true
    unfold noLs
    rw [noLs_ints ns]
    unfold noL
    rfl
theorem deepDs_ints : ∀ ns : List Int, deepDs (ns.map D.int) = 0
  | [] => by unfold deepDs; rfl
  | n :: ns => by
    show deepDs (D.int n :: ns.map D.int) = 0
    unfold deepDs
    rw [deepDs_ints ns]
    unfold deepD
    rfl
theorem eqDs_nil (ns : List Int) : eqDs (ns.map D.int) [] = ns.isEmpty := by
  cases ns with
  | nil => unfold eqDs; rfl
  | cons n ns => show eqDs (D.int n :: ns.map D.int) [] = false; unfold eqDs; rfl
theorem small {n : Nat} (h : n ≤ 1000) : n ≤ sizeLine := Nat.le_of_lt (small1000 h)

/-- the script: known to the object, or an object of the module; never written -/
def Scr (K : PySem.W.Frag) (H : Hp) (a : Addr) (ns : List Int) : Prop := (∃ o, H a = some (.frz o (.lst (ns.map V.int)))) ∨
  ∃ (o : Obj) (its : Array Value) (n : Nat), K.lookup a = some o ∧ o.cls = .type "list" ∧ o.dict = none ∧ o.data = .seq its n ∧ its.size ≤ sizeLine ∧ Vals (ns.map V.int) its.toList
theorem Scr.sqL {K : PySem.W.Frag} {H : Hp} {a : Addr} {ns : List Int} (h : Scr K H a ns) : SqL K H a (ns.map V.int) := by
  rcases h with ⟨o, h⟩ | h
  · exact .inl (.inr ⟨o, h⟩)
  · exact .inr h
theorem Scr.but {K : PySem.W.Frag} {H H' : Hp} {a t : Addr} {ns : List Int} {zs : List V} (h : Scr K H a ns) (e : But t H H') (ht : H t = some (.lst zs)) : Scr K H' a ns := by
  rcases h with ⟨o, h⟩ | h
  · exact .inl ⟨o, e _ _ (fun z => by rw [z, ht] at h; cases h) h⟩
  · exact .inr h
theorem Scr.same {K : PySem.W.Frag} {H H' : Hp} {a : Addr} {ns : List Int} (h : Scr K H a ns) (e : Same H H') : Scr K H' a ns := by
  rcases h with ⟨o, h⟩ | h
  · exact .inl ⟨o, e _ _ h⟩
  · exact .inr h
theorem scr_of {K : PySem.W.Frag} {H : Hp} {a : Addr} {ns : List Int} (hO : Only H) (h : SqL K H a (ns.map V.int)) : Scr K H a ns := by
  rcases h with (h | ⟨o, h⟩) | h
  · rcases hO a with z | ⟨o, xs, z⟩
    · rw [h] at z; cases z
    · rw [h] at z; cases z
  · exact .inl ⟨o, h⟩
  · exact .inr h

/-! ### a draw: a number below so many, whatever the script says -/
def spDraw (K : PySem.W.Frag) : Sp := fun vs H Q _ => ∃ (a t : Addr) (ns : List Int) (m p q : Int) (rest : List V), vs = [.ref a, .ref t, .int m] ∧ Scr K H a ns ∧ H t = some (.lst (.int p :: .int q :: rest)) ∧ 0 ≤ p ∧ 0 < m ∧ m ≤ 1000000 ∧
  ∀ (r : Int) (H' : Hp) (p' q' : Int), But t H H' → H' t = some (.lst (.int p' :: .int q' :: rest)) → 0 ≤ p' → 0 ≤ r → r < m → Q (.int r) H'
end L2
end
section
set_option Elab.async false
set_option linter.all false
set_option maxRecDepth 100000
set_option maxHeartbeats 4000000
/-! READINGS BY DATA: what an expression that changes nothing is worth. -/
namespace L2
open PySem PySem.Spec PyProof.Rows

def RE (K : PySem.W.Frag) (t : TE) (σ : St) (H : Hp) (d : D) : Prop := ∀ H1, Same H H1 → ∀ Q : VK, (∀ v H', Same H1 H' → Dat K H' d v → Q v H') → t σ H1 Q
def RT (t : TT) (σ : St) (H : Hp) (b : Bool) : Prop := ∀ H1, Same H H1 → ∀ Q : Bool → Hp → Prop, (∀ H', Same H1 H' → Q b H') → t σ H1 Q
def RA (K : PySem.W.Frag) (t : TA) (σ : St) (H : Hp) (ds : List D) : Prop := ∀ H1, Same H H1 → ∀ Q : List V → Hp → Prop, (∀ vs H', Same H1 H' → Dats K H' ds vs → Q vs H') → t σ H1 Q
section
variable {K : PySem.W.Frag} {σ : St} {H H' : Hp} {d d' : D} {ds : List D} {t u ta tb : TE} {tt uu : TT} {tA : TA} {i j : Int} {b c : Bool}
theorem RE.mono (h : RE K t σ H d) (e : Same H H') : RE K t σ H' d := fun H1 s Q q => h H1 (e.trans s) Q q
theorem RA.mono (h : RA K tA σ H ds) (e : Same H H') : RA K tA σ H' ds := fun H1 s Q q => h H1 (e.trans s) Q q
theorem RE.as (h : RE K t σ H d) (e : d = d') : RE K t σ H d' := e ▸ h
theorem RT.as (h : RT tt σ H b) (e : b = c) : RT tt σ H c := e ▸ h
theorem RE.use {Q : VK} (h : RE K t σ H d) (q : ∀ v H', Same H H' → Dat K H' d v → Q v H') : t σ H Q := h H (Same.refl H) Q q
theorem RT.use {Q : Bool → Hp → Prop} (h : RT tt σ H b) (q : ∀ H', Same H H' → Q b H') : tt σ H Q := h H (Same.refl H) Q q
theorem RA.use {Q : List V → Hp → Prop} (h : RA K tA σ H ds) (q : ∀ vs H', Same H H' → Dats K H' ds vs → Q vs H') : tA σ H Q := h H (Same.refl H) Q q
/-! ### values -/
theorem re_int : RE K (tC (.int i)) σ H (.int i) := fun H1 _ Q q => q _ _ (Same.refl _) (Dat.intI i)
theorem re_str {x : Str} : RE K (tC (.str x)) σ H (.str x) := fun H1 _ Q q => q _ _ (Same.refl _) (Dat.strI x)
theorem re_bl : RE K (tC (.bl b)) σ H (.bl b) := fun H1 _ Q q => q _ _ (Same.refl _) (Dat.blI b)
theorem re_non : RE K (tC .non) σ H .non := fun H1 _ Q q => q _ _ (Same.refl _) Dat.nonI
theorem re_var {k : Nat} {v : V} (h : Dat K H d v) (e : σ[k]? = some (some v) := by rfl) : RE K (tVar k) σ H d := fun H1 s Q q => ⟨v, e, q _ _ (Same.refl _) (s.dat h)⟩
theorem ra_nil : RA K tNil σ H [] := fun H1 _ Q q => q _ _ (Same.refl _) Dats.nil
theorem ra_cons (h : RE K t σ H d) (r : RA K tA σ H ds) : RA K (tCons t tA) σ H (d :: ds) := fun H1 s Q q =>
  h H1 s _ fun v H2 s2 q2 => r H2 (s.trans s2) _ fun vs H3 s3 q3 => q _ _ (s2.trans s3) (Dats.cons (s3.dat q2) q3)
theorem re_tup (h : RA K tA σ H ds) (hl : ds.length ≤ 1000 := by simp) : RE K (tTup tA) σ H (.tup ds) := fun H1 s Q q =>
  h H1 s _ fun vs H2 s2 q2 => ⟨by rw [← q2.length]; exact small hl, fun p hp => q _ _ (s2.trans (same_new hp _)) (Dat.tupI (SqT.of upd_same) ((same_new hp _).dats q2))⟩
theorem re_un {g : Int → Int} (h : RE K t σ H (.int i)) : RE K (tUn (rU fun i => .int (g i)) t) σ H (.int (g i)) := fun H1 s Q q =>
  h H1 s _ fun v H2 s2 q2 => ⟨i, q2.intE, q _ _ s2 (Dat.intI _)⟩
theorem re_op0 {g : Int → Int → V} (h1 : RE K ta σ H (.int i)) (h2 : RE K tb σ H (.int j)) (hd : ∀ H, Dat K H d (g i j)) : RE K (tOp (rI0 g) ta tb) σ H d := fun H1 s Q q =>
  h1 H1 s _ fun v H2 s2 q2 => h2 H2 (s.trans s2) _ fun w H3 s3 q3 => ⟨i, j, q2.intE, q3.intE, q _ _ (s2.trans s3) (hd _)⟩
theorem re_add (h1 : RE K ta σ H (.int i)) (h2 : RE K tb σ H (.int j)) : RE K (tOp (rI0 fun i j => .int (i + j)) ta tb) σ H (.int (i + j)) := re_op0 h1 h2 fun _ => Dat.intI _
theorem re_sub (h1 : RE K ta σ H (.int i)) (h2 : RE K tb σ H (.int j)) : RE K (tOp (rI0 fun i j => .int (i - j)) ta tb) σ H (.int (i - j)) := re_op0 h1 h2 fun _ => Dat.intI _
theorem re_cmp {p : Int → Int → Bool} (h1 : RE K ta σ H (.int i)) (h2 : RE K tb σ H (.int j)) : RE K (tOp (rI0 fun i j => .bl (p i j)) ta tb) σ H (.bl (p i j)) := re_op0 h1 h2 fun _ => Dat.blI _
theorem re_eqI (h1 : RE K ta σ H (.int i)) (h2 : RE K tb σ H (.int j)) : RE K (tOp rEq ta tb) σ H (.bl (decide (i = j))) := fun H1 s Q q =>
  h1 H1 s _ fun v H2 s2 q2 => h2 H2 (s.trans s2) _ fun w H3 s3 q3 => by
    rw [q2.intE, q3.intE]
    refine ⟨rfl, ?_⟩
    have e : decide (V.int i = V.int j) = decide (i = j) := by by_cases z : i = j <;> simp [z]
    rw [e]
    exact q _ _ (s2.trans s3) (Dat.blI _)
theorem re_neI (h1 : RE K ta σ H (.int i)) (h2 : RE K tb σ H (.int j)) : RE K (tOp rNe ta tb) σ H (.bl (!decide (i = j))) := fun H1 s Q q =>
  h1 H1 s _ fun v H2 s2 q2 => h2 H2 (s.trans s2) _ fun w H3 s3 q3 => by
    rw [q2.intE, q3.intE]
    refine ⟨rfl, ?_⟩
    have e : decide (V.int i = V.int j) = decide (i = j) := by by_cases z : i = j <;> simp [z]
    rw [e]
    exact q _ _ (s2.trans s3) (Dat.blI _)
theorem re_eqS {x y : Str} (h1 : RE K ta σ H (.str x)) (h2 : RE K tb σ H (.str y)) : RE K (tOp rEq ta tb) σ H (.bl (decide (x = y))) := fun H1 s Q q =>
  h1 H1 s _ fun v H2 s2 q2 => h2 H2 (s.trans s2) _ fun w H3 s3 q3 => by
    rw [q2.strE, q3.strE]
    refine ⟨rfl, ?_⟩
    have e : decide (V.str x = V.str y) = decide (x = y) := by by_cases z : x = y <;> simp [z]
    rw [e]
    exact q _ _ (s2.trans s3) (Dat.blI _)
theorem re_isB (h1 : RE K ta σ H (.bl b)) (h2 : RE K tb σ H (.bl c)) : RE K (tOp (fun x y H Q => ∃ a b, x = .bl a ∧ y = .bl b ∧ Q (.bl (a == b)) H) ta tb) σ H (.bl (b == c)) := fun H1 s Q q =>
  h1 H1 s _ fun v H2 s2 q2 => h2 H2 (s.trans s2) _ fun w H3 s3 q3 => ⟨b, c, q2.blE, q3.blE, q _ _ (s2.trans s3) (Dat.blI _)⟩
theorem re_isnotB (h1 : RE K ta σ H (.bl b)) (h2 : RE K tb σ H (.bl c)) : RE K (tOp (fun x y H Q => ∃ a b, x = .bl a ∧ y = .bl b ∧ Q (.bl (a != b)) H) ta tb) σ H (.bl (b != c)) := fun H1 s Q q =>
  h1 H1 s _ fun v H2 s2 q2 => h2 H2 (s.trans s2) _ fun w H3 s3 q3 => ⟨b, c, q2.blE, q3.blE, q _ _ (s2.trans s3) (Dat.blI _)⟩
theorem re_ix {k : Nat} (h1 : RE K ta σ H (.tup ds)) (h2 : RE K tb σ H (.int k)) (e : ds[k]? = some d) : RE K (tOp (rIxT K) ta tb) σ H d := fun H1 s Q q =>
  h1 H1 s _ fun v H2 s2 q2 => h2 H2 (s.trans s2) _ fun w H3 s3 q3 => by
    obtain ⟨a, vs, ev, hq, hd⟩ := (s3.dat q2).tupE
    obtain ⟨x, ex, hx⟩ := hd.get e
    exact ⟨a, vs, k, x, ev, q3.intE, hq, atI_nat ex, q _ _ (s2.trans s3) hx⟩
theorem re_len (h : RE K t σ H (.tup ds)) : RE K (tCB (fun xs H Q => ∃ p ys, xs = [.ref p] ∧ (SqL K H p ys ∨ SqT K H p ys) ∧ Q (.int ys.length) H) (tCons t tNil)) σ H (.int ds.length) := fun H1 s Q q =>
  h H1 s _ fun v H2 s2 q2 => by
    obtain ⟨a, vs, ev, hq, hd⟩ := q2.tupE
    subst ev
    refine ⟨a, vs, rfl, .inr hq, ?_⟩
    rw [← hd.length]
    exact q _ _ s2 (Dat.intI _)
theorem re_isi {T : String} (h : RE K t σ H d) : RE K (tCB (fun xs H Q => ∃ x d, xs = [x, .ty T] ∧ Dat K H d x ∧ Q (.bl (isiD d T)) H) (tCons t (tCons (tC (.ty T)) tNil))) σ H (.bl (isiD d T)) := fun H1 s Q q =>
  h H1 s _ fun v H2 s2 q2 => ⟨v, d, rfl, q2, q _ _ s2 (Dat.blI _)⟩
theorem re_call {R : List D → D → Prop} {E : XK} (h : RA K tA σ H ds) (e : R ds d) : RE K (tCall (spD K R) [] E tA) σ H d := fun H1 s Q q =>
  h H1 s _ fun vs H2 s2 q2 => ⟨ds, d, by rw [List.append_nil]; exact q2, e, fun v H3 s3 q3 => q _ _ (s2.trans s3) q3⟩
theorem re_inTab {k : Str} {a : Addr} {T : List (Str × KTD.Dat)} (h : RE K t σ H (.str k)) (ht : TabK K a T) : RE K (tOp (fun x y H Q => ∃ k a T, x = .str k ∧ y = .ref a ∧ TabK K a T ∧ Q (.bl (KTD.inKeys k T)) H) t (tC (.ref a))) σ H (.bl (KTD.inKeys k T)) := fun H1 s Q q =>
  h H1 s _ fun v H2 s2 q2 => ⟨k, a, T, q2.strE, rfl, ht, q _ _ s2 (Dat.blI _)⟩
theorem re_ixTab {k : Str} {a : Addr} {T : List (Str × KTD.Dat)} (h : RE K t σ H (.str k)) (ht : TabK K a T) (hp : (T.all fun p => KTD.plain p.2) = true) (e : KTD.datumAt k T = some (.flat (.int i))) : RE K (tOp (rIxTab K) (tC (.ref a)) t) σ H (.int i) := fun H1 s Q q =>
  h H1 s _ fun v H2 s2 q2 => ⟨a, k, T, i, rfl, q2.strE, ht, hp, e, q _ _ s2 (Dat.intI _)⟩
theorem sIx1 {n : Nat} : HT.sIx (n + 1) 0 (some 1) = 1 := by
  have := HT.sIx_nat (n + 1) 0 1
  simpa using this
theorem cut1 (v : V) (r : List V) : cutV (v :: r) (some 1) none = r := by
  unfold cutV
  rw [List.length_cons, sIx1, HT.sIx_none]
  simp
/-- t[1:] -/
theorem re_slice1 (h : RE K t σ H (.tup (d' :: ds))) : RE K (tSl (rSlT K) t (tPart (tC (.int 1))) tNoPart) σ H (.tup ds) := fun H1 s Q q =>
  h H1 s _ fun v H2 s2 q2 => by
    obtain ⟨a, vs, ev, hq, hd⟩ := q2.tupE
    obtain ⟨w, r, er, h1, h2⟩ := hd.consE
    subst ev er
    refine ⟨1, rfl, a, w :: r, rfl, hq, fun z => ?_, fun p hp => ?_⟩
    · rw [List.length_cons, sIx1] at z
      exact absurd z.1 (by decide)
    · rw [cut1]
      exact q _ _ (s2.trans (same_new hp _)) (Dat.tupI (SqT.of upd_same) ((same_new hp _).dats h2))
theorem re_and (h1 : RE K ta σ H (.bl b)) (h2 : b = true → RE K tb σ H (.bl c)) : RE K (tAndV ta tb) σ H (.bl (b && c)) := fun H1 s Q q =>
  h1 H1 s _ fun v H2 s2 q2 => ⟨b, q2.blE, by
    cases b with
    | true => rw [if_pos rfl]; exact h2 rfl H2 (s.trans s2) _ fun w H3 s3 q3 => q _ _ (s2.trans s3) q3
    | false => rw [if_neg Bool.false_ne_true]; exact q _ _ s2 (Dat.blI _)⟩
theorem re_or (h1 : RE K ta σ H (.bl b)) (h2 : b = false → RE K tb σ H (.bl c)) : RE K (tOrV ta tb) σ H (.bl (b || c)) := fun H1 s Q q =>
  h1 H1 s _ fun v H2 s2 q2 => ⟨b, q2.blE, by
    cases b with
    | true => rw [if_pos rfl]; exact q _ _ s2 (Dat.blI _)
    | false => rw [if_neg Bool.false_ne_true]; exact h2 rfl H2 (s.trans s2) _ fun w H3 s3 q3 => q _ _ (s2.trans s3) q3⟩
theorem re_not (h : RE K t σ H (.bl b)) : RE K (tNotV t) σ H (.bl (!b)) := fun H1 s Q q =>
  h H1 s _ fun v H2 s2 q2 => ⟨b, q2.blE, q _ _ s2 (Dat.blI _)⟩
theorem re_chain {p r : Int → Int → Bool} {k : Int} {tc : TE} (h1 : RE K ta σ H (.int i)) (h2 : RE K tb σ H (.int j)) (h3 : p i j = true → RE K tc σ H (.int k)) :
    RE K (tChain (rI0 fun i j => .bl (p i j)) (rI0 fun i j => .bl (r i j)) ta tb tc) σ H (.bl (p i j && r j k)) := fun H1 s Q q =>
  h1 H1 s _ fun v H2 s2 q2 => h2 H2 (s.trans s2) _ fun w H3 s3 q3 => by
    refine ⟨i, j, q2.intE, q3.intE, p i j, rfl, ?_⟩
    cases hp : p i j with
    | true =>
      simp only [if_true, Bool.true_and]
      exact h3 hp H3 (s.trans (s2.trans s3)) _ fun z H4 s4 q4 => ⟨j, k, q3.intE, q4.intE, q _ _ (s2.trans (s3.trans s4)) (by rw [hp]; exact Dat.blI _)⟩
    | false =>
      simp only [Bool.false_eq_true, if_false, Bool.false_and]
      exact q _ _ (s2.trans s3) (by rw [hp]; exact Dat.blI _)
/-! ### tests -/
theorem rt_test (h : RE K t σ H (.bl b)) : RT (tTest t) σ H b := fun H1 s Q q => h H1 s _ fun v H2 s2 q2 => ⟨b, q2.blE, q _ s2⟩
theorem rt_truth (h : RE K t σ H (.bl b)) : RT (fun σ H Q => t σ H fun x H' => ∃ k, TruV K x H' k ∧ Q k H') σ H b := fun H1 s Q q => h H1 s _ fun v H2 s2 q2 => by
  rw [q2.blE]
  exact ⟨b, rfl, q _ s2⟩
theorem rt_not (h : RT tt σ H b) : RT (tNot tt) σ H (!b) := fun H1 s Q q => h H1 s _ fun H2 s2 => q _ s2
theorem rt_or (h : RT tt σ H b) (h2 : b = false → RT uu σ H c) : RT (tOr tt uu) σ H (b || c) := fun H1 s Q q => h H1 s _ fun H2 s2 => by
  cases b with
  | true => rw [if_pos rfl]; exact q _ s2
  | false => rw [if_neg Bool.false_ne_true]; exact h2 rfl H2 (s.trans s2) _ fun H3 s3 => q _ (s2.trans s3)
/-! ### statements -/
theorem rs_ret {En : Ends} (h : RE K t σ H d) (q : ∀ v H', Same H H' → Dat K H' d v → En.rt v H') : tRet t En σ H := h.use q
theorem rs_if {En : Ends} {ts us : TS} (h : RT tt σ H b) (h1 : b = true → ∀ H', Same H H' → ts En σ H') (h2 : b = false → ∀ H', Same H H' → us En σ H') : tIfS tt ts us En σ H := h.use fun H' s => by
  cases b with
  | true => rw [if_pos rfl]; exact h1 rfl H' s
  | false => rw [if_neg Bool.false_ne_true]; exact h2 rfl H' s
end

/-! ### the names of built-ins -/
theorem bo_len : bootBuiltins "len" = some (.builtin "len") := by decide +kernel
theorem bo_isinstance : bootBuiltins "isinstance" = some (.builtin "isinstance") := by decide +kernel
theorem bo_all : bootBuiltins "all" = some (.builtin "all") := by decide +kernel
theorem bo_any : bootBuiltins "any" = some (.builtin "any") := by decide +kernel
theorem bo_int : bootBuiltins "int" = some (.type "int") := by decide +kernel
theorem bo_bool : bootBuiltins "bool" = some (.type "bool") := by decide +kernel
theorem bo_str : bootBuiltins "str" = some (.type "str") := by decide +kernel
theorem bo_tuple : bootBuiltins "tuple" = some (.type "tuple") := by decide +kernel
theorem bo_list : bootBuiltins "list" = some (.type "list") := by decide +kernel
theorem bo_range : bootBuiltins "range" = some (.type "range") := by decide +kernel
theorem bo_set : bootBuiltins "set" = some (.type "set") := by decide +kernel
theorem bo_enumerate : bootBuiltins "enumerate" = some (.type "enumerate") := by decide +kernel
/-- a list display -/
theorem rl_lst {K : PySem.W.Frag} {σ : St} {H : Hp} {tA : TA} {ds : List D} {Q : VK} (h : RA K tA σ H ds) (q : ∀ p vs H1, Same H H1 → H1 p = none → Dats K H1 ds vs → Q (.ref p) (upd H1 p (.lst vs))) (hl : ds.length ≤ 1000 := by simp) : tLst tA σ H Q :=
  h.use fun vs H1 s1 q1 => ⟨by rw [← q1.length]; exact small hl, fun p hp => q p vs H1 s1 hp q1⟩
/-- a comprehension whose element changes nothing -/
theorem comp_pure {K : PySem.W.Frag} {J : It} {n : Nat} {item : Nat → V} {j : Nat} {te : TE} {σ0 : St} {H1 : Hp} {Q : VK} (go : ∀ i H', Same H1 H' → i < n → J.go i H' ∧ ∀ x H'', J.yld i H' x H'' → H'' = H' ∧ x = item i) (stop : ∀ H', Same H1 H' → J.stop n H')
    (h0 : σ0.set j none = σ0) (es : List D) (hn : es.length = n) (hb : n ≤ 1000) (turn : ∀ i d, es[i]? = some d → RE K te (σ0.set j (some (item i))) H1 d)
    (fin : ∀ l ys H', H1 l = none → Same H1 H' → H' l = some (.lst ys) → Dats K H' es ys → Q (.ref l) H') (l : Addr) (hl : H1 l = none) :
    ∃ W : Nat → Nat → St → Hp → Prop, (∃ m, W 0 m σ0 (upd H1 l (.lst []))) ∧ ∀ i m σ' H', W i m σ' H' →
      (J.stop i H' ∧ Q (.ref l) H') ∨
      (J.go i H' ∧ ∃ Nx : St → Hp → Prop, (∀ σ'' H'', Nx σ'' H'' → ∃ m', m' < m ∧ W (i + 1) m' σ'' H'') ∧ ∀ x H'', J.yld i H' x H'' → gName j x σ' H'' fun σ2 H2 => tTrue σ2 H2 fun b H3 =>
        if b = true then te σ2 H3 fun v H4 => ∃ ys, H4 l = some (.lst ys) ∧ ys.length < sizeLine ∧ Nx σ2 (upd H4 l (.lst (ys ++ [v]))) else Nx σ2 H3) := by
  refine comp_items (fun H' => Same H1 H') go stop h0 l (fun i H' => Same H1 H' ∧ ∃ ys, H' l = some (.lst ys) ∧ Dats K H' (es.take i) ys) ?_ ?_ ?_ ?_
  · exact ⟨same_new hl _, [], upd_same, by rw [List.take_zero]; exact Dats.nil⟩
  · intro i H' _ p
    exact p.1
  · intro i H' hi ⟨s1, ys, hy, hd⟩
    have hi' : i < es.length := by omega
    refine ((turn i es[i] (List.getElem?_eq_getElem hi')).mono s1).use fun v H4 s4 q4 => ?_
    have hy4 := s4 _ _ hy
    have lys : ys.length = i := by rw [← hd.length, List.length_take]; omega
    refine ⟨ys, hy4, small1000 (by omega), ⟨_, rfl⟩, fun b o hb => ?_, ys ++ [v], upd_same, ?_⟩
    · rw [upd_ne (ne_of_none hb hl)]
      exact s4 _ _ (s1 _ _ hb)
    · have g : Grow K H4 (upd H4 l (.lst (ys ++ [v]))) := But.grow (t := l) (But.upd (Same.refl H4).but) hy4 upd_same
      rw [List.take_add_one, List.getElem?_eq_getElem hi']
      exact Dats.append (Dats.mono g _ (s4.dats hd)) (Dats.cons (Dat.mono g _ q4) Dats.nil)
  · intro H' ⟨s1, ys, hy, hd⟩
    rw [List.take_of_length_le (by omega)] at hd
    exact fin l ys H' hl s1 hy hd
/-- if c: .. (that leaves), then the rest -/
theorem rs_ifr {K : PySem.W.Frag} {σ : St} {H : Hp} {tt : TT} {b : Bool} {En : Ends} {ts us : TS} (h : RT tt σ H b) (h1 : b = true → ∀ H', Same H H' → ts { En with nx := us En } σ H') (h2 : b = false → ∀ H', Same H H' → us En σ H') : tSeq (tIfS tt ts tNext) us En σ H :=
  rs_if h h1 h2
theorem rs_setr {K : PySem.W.Frag} {σ : St} {H : Hp} {t : TE} {d : D} {En : Ends} {us : TS} {k : Nat} (h : RE K t σ H d) (q : ∀ v H', Same H H' → Dat K H' d v → us En (σ.set k (some v)) H') : tSeq (tAsg t (gName k)) us En σ H := h.use q
/-- x = e, then the rest; e, then the rest; return e -/
theorem rs_asg {σ : St} {H : Hp} {te : TE} {En : Ends} {us : TS} {k : Nat} (h : te σ H fun x H1 => us En (σ.set k (some x)) H1) : tSeq (tAsg te (gName k)) us En σ H := h
theorem rs_tc {σ : St} {H : Hp} {v : V} {Q : VK} (h : Q v H) : tC v σ H Q := h
theorem rs_rt {σ : St} {H : Hp} {te : TE} {En : Ends} (h : te σ H En.rt) : tRet te En σ H := h
theorem rs_seq {σ : St} {H : Hp} {En : Ends} {ts us : TS} (h : ts { En with nx := us En } σ H) : tSeq ts us En σ H := h
/-- a comprehension over a tuple of data -/
theorem rcomp_tup {K : PySem.W.Frag} {tl te : TE} {mk : St → St} {j : Nat} {σ : St} {H : Hp} {Q : VK} {cs : List D} (h : RE K tl σ H (.tup cs)) (hc : cs.length ≤ 1000) (es : List D) (hl : es.length = cs.length) (h0 : (mk σ).set j none = mk σ)
    (turn : ∀ H1 (i : Nat) c v d, Same H H1 → cs[i]? = some c → es[i]? = some d → Dat K H1 c v → RE K te ((mk σ).set j (some v)) H1 d)
    (fin : ∀ l ys H', H l = none → Same H H' → H' l = some (.lst ys) → Dats K H' es ys → Q (.ref l) H') : tComp (iTup K tl) mk (gName j) tTrue te σ H Q := by
  refine h.use fun v4 H4 s4 q4 => ?_
  obtain ⟨a, vs, e, hq, hd⟩ := q4.tupE
  subst e
  have l4 := hd.length
  refine ⟨a, rfl, ⟨vs, hq⟩, ?_⟩
  refine comp_pure (K := K) (Q := Q) (n := vs.length) (item := fun i => vs.getD i .non) (fun i H' s hi => go_tup i H' (s.sqT hq) hi) (fun H' s => ⟨vs, s.sqT hq, Nat.le_refl _⟩) h0 es (by omega) (by omega) (fun i d hi => ?_) (fun l ys H5 hl5 s5 => fin l ys H5 (s4.free hl5) (s4.trans s5))
  have hi' : i < es.length := (List.getElem?_eq_some_iff.mp hi).1
  have hic : i < cs.length := by omega
  obtain ⟨vz, ez, hz⟩ := hd.get (List.getElem?_eq_getElem hic)
  have q := turn H4 i cs[i] vz d s4 (List.getElem?_eq_getElem hic) hi hz
  rw [List.getD_eq_getElem?_getD, ez]
  exact q
/-- a comprehension over range(n) -/
theorem rcomp_rng {K : PySem.W.Frag} {tA : TA} {te : TE} {mk : St → St} {j : Nat} {σ : St} {H : Hp} {Q : VK} {n : Nat} (h : RA K tA σ H [.int n]) (hc : n ≤ 1000) (es : List D) (hl : es.length = n) (h0 : (mk σ).set j none = mk σ)
    (turn : ∀ H1 (i : Nat) d, Same H H1 → es[i]? = some d → RE K te ((mk σ).set j (some (.int i))) H1 d)
    (fin : ∀ l ys H', H l = none → Same H H' → H' l = some (.lst ys) → Dats K H' es ys → Q (.ref l) H') : tComp (iRng1 tA) mk (gName j) tTrue te σ H Q := by
  refine h.use fun v4 H4 s4 q4 => ?_
  obtain ⟨u, e, hu⟩ := dats1 q4
  have eu := hu.intE
  subst eu e
  refine ⟨n, rfl, by omega, by omega, ?_⟩
  rw [Int.toNat_natCast]
  exact comp_pure (K := K) (Q := Q) (n := n) (item := fun i => .int i) (fun i H' s hi => go_rng i H' hi) (fun H' s => Nat.le_refl _) h0 es hl hc (fun i d hi => turn H4 i d s4 hi) (fun l ys H5 hl5 s5 => fin l ys H5 (s4.free hl5) (s4.trans s5))
end L2
end
section
set_option Elab.async false
set_option linter.all false
set_option maxRecDepth 100000
set_option maxHeartbeats 4000000
namespace L2
open PySem PySem.Spec PyProof.Rows
theorem fn_false {P : Program} {w : World} {K : PySem.W.Frag} {mg : Str → Option Value} {base : Heap} {CX : CXT} {k : Nat} {f : Addr} {fd : FuncData} {ps : List Str} {sp : Sp} (no : ∀ vs H Q E, ¬ sp vs H Q E) : FnOk P w K mg base CX k f fd ps sp :=
  ⟨fun vs H Q E h => absurd h (no vs H Q E), fun A outer s H args us vs Q E _ _ _ _ h => absurd h (no vs H Q E)⟩
theorem r_cb1 {ta : TE} {r : List V → Hp → VK → Prop} {σ : St} {H : Hp} {Q : VK} (h : ta σ H fun x H1 => r [x] H1 Q) : tCB r (tCons ta tNil) σ H Q := h
/-- a list display, seen as some list -/
theorem re_lst {K : PySem.W.Frag} {tA : TA} {σ : St} {H : Hp} {ds : List D} (h : RA K tA σ H ds) (hl : ds.length ≤ 1000 := by simp) : RE K (tLst tA) σ H .lst := fun H1 s Q q =>
  h H1 s _ fun vs H2 s2 q2 => ⟨by rw [← q2.length]; exact small hl, fun p hp => q _ _ (s2.trans (same_new hp _)) (Dat.lstI (SqL.of upd_same))⟩
/-- xs.extend([..]) -/
theorem rs_extl {K : PySem.W.Frag} {tA : TA} {us : TS} {En : Ends} {σ : St} {G : Hp} {j : Nat} {l : Addr} {xs : List V} {es : List D} (h : RA K tA σ G es) (hl : G l = some (.lst xs)) (hx : xs.length ≤ 900)
    (q : ∀ ys G', But l G G' → G' l = some (.lst (xs ++ ys)) → Dats K G' es ys → us En σ G') (hv : σ[j]? = some (some (.ref l)) := by rfl) (he : es.length ≤ 100 := by simp) : tSeq (tDrop (tBM K "list" rExtend (tVar j) (tCons (tLst tA) tNil))) us En σ G := by
  refine ⟨_, hv, .inl ⟨rfl, _, SqL.of hl⟩, ?_⟩
  refine rl_lst h (fun p vs H1 s1 hp q1 => ?_) (by omega)
  have hlp : l ≠ p := ne_of_none (s1 _ _ hl) hp
  have hl1 : upd H1 p (.lst vs) l = some (.lst xs) := by rw [upd_ne hlp]; exact s1 _ _ hl
  have lv := q1.length
  refine ⟨l, p, xs, vs, rfl, rfl, hl1, upd_same, small (by omega), ?_⟩
  have b : But l (upd H1 p (.lst vs)) (upd (upd H1 p (.lst vs)) l (.lst (xs ++ vs))) := But.upd (Same.refl _).but
  have g : Grow K (upd H1 p (.lst vs)) (upd (upd H1 p (.lst vs)) l (.lst (xs ++ vs))) := b.grow hl1 upd_same
  exact q vs _ ((s1.trans (same_new hp _)).but.trans b) upd_same (Dats.mono g _ ((same_new hp _).dats q1))
/-- a, b = a pair of data, unpacked -/
theorem rs_unp2 {K : PySem.W.Frag} {te : TE} {us : TS} {En : Ends} {σ : St} {H : Hp} {i j : Nat} {d e : D} (h : RE K te σ H (.tup [d, e])) (q : ∀ v w H', Same H H' → Dat K H' d v → Dat K H' e w → us En ((σ.set i (some v)).set j (some w)) H') :
    tSeq (tAsg te (gTup K 2 (gCons (gName i) (gCons (gName j) gNil)))) us En σ H :=
  h.use fun x H1 s1 q1 => by
    obtain ⟨a, vs, e1, hq, hd⟩ := q1.tupE
    obtain ⟨v, w, e2, hv, hw⟩ := dats2 hd
    subst e1 e2
    exact ⟨a, _, rfl, hq, rfl, v, _, rfl, w, _, rfl, rfl, q v w H1 s1 hv hw⟩
/-! ### argument lists: no star, seen once for all -/
def nStar : Expr → Bool
  | .Starred .. => false
  | _ => true
theorem star_cons {e : Expr} {es : List Expr} {env : Env} (h : nStar e = true) : starEach (e :: es) env = (false, eval e env) :: starEach es env := by
  cases e <;> first | rfl | cases h
theorem pa_c {X : Cx} {e : Expr} {es : List Expr} {te : TE} {t : TA} (ha : PE X e te) (hr : PA X es t) (h : nStar e = true := by rfl) : PA X (e :: es) (tCons te t) := pa_cons ha hr (star_cons h)
end L2
end
section
set_option Elab.async false
set_option linter.all false
set_option maxRecDepth 100000
set_option maxHeartbeats 4000000
/-! all, any; keywords and defaults; more readings. -/
namespace L2
open PySem PySem.Spec PyProof.Rows
theorem vals_bools {bs : List Bool} {us : List Value} : Vals (bs.map V.bl) us → us = bs.map Value.bool := by
  intro h
  induction bs generalizing us with
  | nil => cases h; rfl
  | cons b bs ih =>
    cases h with
    | cons r t => cases r; rw [ih t]; rfl
theorem rangeB (bs : List Bool) (d : Bool) : (List.range bs.length).map (fun i => (bs[i]?).getD d) = bs := by
  apply List.ext_getElem
  · simp
  · intro i h1 h2
    simp at h1
    simp [h1]
section
variable {X : Cx}
theorem call_all (hc : X.calm = true) : CallR X (.builtin "all") (fun xs H Q => ∃ (l : Addr) (bs : List Bool), xs = [.ref l] ∧ SqL X.K H l (bs.map V.bl) ∧ Q (.bl (bs.all id)) H) := by
  intro pins s σ H xs us Q I r h
  obtain ⟨l, bs, rfl, hq, q⟩ := h
  obtain ⟨u, rfl, ru⟩ := vals1 r
  cases ru
  obtain ⟨its, rv, p, hz⟩ := I.list hq
  have ei := vals_bools rv
  have hl := p.isList
  have hlt : l < s.heap.objs.size := by obtain ⟨_, e, _⟩ := hl; exact Heap.lt_size e
  refine call_all_walk (wpAny_pyIter_list hl ?_)
  refine ⟨s.heap.objs.size, [s.heap.objs.size, l], [s.heap.objs.size], its.toArray.size, _, _, fun i => (bs[i]?).getD true, rfl, Walks.list (A := X.A.in1) (I.ok.hd hc) _ l (Nat.ne_of_lt hlt) its.toArray,
    ⟨⟨_, Heap.get?_push_size _ rfl, rfl, rfl⟩, hl.push _⟩, fun i v s' Q' E' hP hQ => ?_, fun h' tk hk => ?_⟩
  · subst ei
    have hP' : (bs.map Value.bool)[i]? = some v := by simpa using hP
    rw [List.getElem?_map] at hP'
    cases hb : bs[i]? with
    | none => rw [hb] at hP'; cases hP'
    | some b =>
      rw [hb] at hP'
      cases hP'
      simp only [hb, Option.getD_some] at hQ
      exact wpAny_truthy_bool hQ
  · have e : ((List.range its.toArray.size).all fun i => (bs[i]?).getD true) = bs.all id := by
      subst ei
      rw [List.size_toArray, List.length_map]
      conv => rhs; rw [← rangeB bs true]
      rw [List.all_map]
      rfl
    rw [e]
    exact ⟨.bl _, H, I.kept (t' := tk) fun b x e => hk b x (fun hm => by rw [List.mem_singleton.mp hm] at e; exact Nat.lt_irrefl _ (Heap.lt_size e)) (Heap.get?_push_of_some _ e), rfl, q⟩
theorem call_any (hc : X.calm = true) : CallR X (.builtin "any") (fun xs H Q => ∃ (l : Addr) (bs : List Bool), xs = [.ref l] ∧ SqL X.K H l (bs.map V.bl) ∧ Q (.bl (bs.any id)) H) := by
  intro pins s σ H xs us Q I r h
  obtain ⟨l, bs, rfl, hq, q⟩ := h
  obtain ⟨u, rfl, ru⟩ := vals1 r
  cases ru
  obtain ⟨its, rv, p, hz⟩ := I.list hq
  have ei := vals_bools rv
  have hl := p.isList
  have hlt : l < s.heap.objs.size := by obtain ⟨_, e, _⟩ := hl; exact Heap.lt_size e
  refine call_any_walk (wpAny_pyIter_list hl ?_)
  refine ⟨s.heap.objs.size, [s.heap.objs.size, l], [s.heap.objs.size], its.toArray.size, _, _, fun i => (bs[i]?).getD false, rfl, Walks.list (A := X.A.in1) (I.ok.hd hc) _ l (Nat.ne_of_lt hlt) its.toArray,
    ⟨⟨_, Heap.get?_push_size _ rfl, rfl, rfl⟩, hl.push _⟩, fun i v s' Q' E' hP hQ => ?_, fun h' tk hk => ?_⟩
  · subst ei
    have hP' : (bs.map Value.bool)[i]? = some v := by simpa using hP
    rw [List.getElem?_map] at hP'
    cases hb : bs[i]? with
    | none => rw [hb] at hP'; cases hP'
    | some b =>
      rw [hb] at hP'
      cases hP'
      simp only [hb, Option.getD_some] at hQ
      exact wpAny_truthy_bool hQ
  · have e : ((List.range its.toArray.size).any fun i => (bs[i]?).getD false) = bs.any id := by
      subst ei
      rw [List.size_toArray, List.length_map]
      conv => rhs; rw [← rangeB bs false]
      rw [List.any_map]
      rfl
    rw [e]
    exact ⟨.bl _, H, I.kept (t' := tk) fun b x e => hk b x (fun hm => by rw [List.mem_singleton.mp hm] at e; exact Nat.lt_irrefl _ (Heap.lt_size e)) (Heap.get?_push_of_some _ e), rfl, q⟩
end
/-! ### a def with defaults, with keywords -/
section
variable {P : Program} {w : World} {K : PySem.W.Frag} {mg : Str → Option Value} {base : Heap}
end
/-! ### readings -/
section
variable {K : PySem.W.Frag} {σ : St} {H H' : Hp} {d d' : D} {ds : List D} {t u ta tb : TE} {tt uu : TT} {tA : TA} {i j : Int} {b c : Bool}
theorem datBs : ∀ {bs : List Bool} {vs : List V}, Dats K H (bs.map D.bl) vs → vs = bs.map V.bl
  | [], vs, h => by rw [Dats.nilE h]; rfl
  | b :: bs, vs, h => by
    obtain ⟨v, r, e, h1, h2⟩ := h.consE
    rw [e, h1.blE, datBs h2]
    rfl
end
end L2
end
section
set_option Elab.async false
set_option linter.all false
set_option maxRecDepth 100000
set_option maxHeartbeats 4000000
/-! more readings: in, tuple(..) of a comprehension. -/
namespace L2
open PySem PySem.Spec PyProof.Rows
section
variable {K : PySem.W.Frag} {σ : St} {H H' : Hp} {d d' : D} {ds : List D} {t u ta tb : TE} {tt uu : TT} {tA : TA} {i j : Int} {b c : Bool}
theorem datSs : ∀ {xs : List Str} {vs : List V}, Dats K H (xs.map D.str) vs → vs = xs.map V.str
  | [], vs, h => by rw [Dats.nilE h]; rfl
  | x :: xs, vs, h => by
    obtain ⟨v, r, e, h1, h2⟩ := h.consE
    rw [e, h1.strE, datSs h2]
    rfl
theorem eqV_str (x y : Str) : eqV (.str x) (.str y) = decide (x = y) := by
  unfold eqV
  by_cases h : x = y <;> simp [h]
theorem inV_str (x : Str) : ∀ ys : List Str, inV (.str x) (ys.map V.str) = decide (x ∈ ys)
  | [] => by simp [inV]
  | y :: ys => by
    have ih := inV_str x ys
    unfold inV at ih ⊢
    rw [List.map_cons, List.any_cons, ih, eqV_str]
    by_cases h : y = x
    · subst h; simp
    · have h' : ¬ x = y := fun z => h z.symm
      simp [h, h']
theorem flat_strs (ys : List Str) : (ys.map V.str).all flatV = true := by
  rw [List.all_eq_true]
  intro v hv
  obtain ⟨y, _, rfl⟩ := List.mem_map.mp hv
  rfl
theorem re_inS {x : Str} {ys : List Str} (h1 : RE K ta σ H (.str x)) (h2 : RE K tb σ H (.tup (ys.map D.str))) : RE K (tOp (rIn K false) ta tb) σ H (.bl (decide (x ∈ ys))) := fun H1 s Q q =>
  h1 H1 s _ fun v H2 s2 q2 => h2 H2 (s.trans s2) _ fun w H3 s3 q3 => by
    obtain ⟨a, vs, ev, hq, hd⟩ := q3.tupE
    have e := datSs hd
    subst e
    rw [q2.strE]
    refine ⟨a, _, ev, .inr hq, rfl, flat_strs ys, ?_⟩
    rw [inV_str]
    exact q _ _ (s2.trans s3) (Dat.blI _)
theorem re_notinS {x : Str} {ys : List Str} (h1 : RE K ta σ H (.str x)) (h2 : RE K tb σ H (.tup (ys.map D.str))) : RE K (tOp (rIn K true) ta tb) σ H (.bl (!decide (x ∈ ys))) := fun H1 s Q q =>
  h1 H1 s _ fun v H2 s2 q2 => h2 H2 (s.trans s2) _ fun w H3 s3 q3 => by
    obtain ⟨a, vs, ev, hq, hd⟩ := q3.tupE
    have e := datSs hd
    subst e
    rw [q2.strE]
    refine ⟨a, _, ev, .inr hq, rfl, flat_strs ys, ?_⟩
    rw [inV_str]
    exact q _ _ (s2.trans s3) (Dat.blI _)
theorem re_neS {x y : Str} (h1 : RE K ta σ H (.str x)) (h2 : RE K tb σ H (.str y)) : RE K (tOp rNe ta tb) σ H (.bl (!decide (x = y))) := fun H1 s Q q =>
  h1 H1 s _ fun v H2 s2 q2 => h2 H2 (s.trans s2) _ fun w H3 s3 q3 => by
    rw [q2.strE, q3.strE]
    refine ⟨rfl, ?_⟩
    have e : decide (V.str x = V.str y) = decide (x = y) := by by_cases z : x = y <;> simp [z]
    rw [e]
    exact q _ _ (s2.trans s3) (Dat.blI _)
end
end L2
end
section
set_option Elab.async false
set_option linter.all false
set_option maxRecDepth 100000
set_option maxHeartbeats 4000000
/-! a try that nothing leaves by an exception; texts walked; tables of the module: get, not in, texts, their keys. -/
namespace L2
open PySem PySem.Spec PyProof.Rows
section
variable {X : Cx}
theorem op_leS : OpR X (compareOp .LtE) (fun x y H Q => ∃ i j : Str, x = .str i ∧ y = .str j ∧ Q (.bl (!decide (j.cps.toList < i.cps.toList))) H) := by
  intro pins s σ H x y v u Q I rx ry h
  obtain ⟨i, j, rfl, rfl, q⟩ := h
  obtain ⟨t, rfl⟩ := rx
  obtain ⟨t', rfl⟩ := ry
  refine PySem.P.le_str ?_
  exact ⟨.bl _, H, I, rfl, q⟩
/-- the signs of a text -/
def Its (x : Str) : It := ⟨fun i _ => i < x.cps.size, fun i H v H' => H' = H ∧ ∃ c, x.cps[i]? = some c ∧ v = .str ⟨#[c]⟩, fun i _ => i = x.cps.size⟩
theorem turn_walk {P : Program} {w : World} {K : PySem.W.Frag} {tg : Expr} {it : Addr} {n : String} {x : Str} {t : Tok} (hn : ["enumerate", "zip", "dict_itemiterator", "dict_reverseitemiterator", "odict_iterator", "itertools.zip_longest", "itertools.pairwise"].contains n = false)
    (W : ∀ A : Around, A.handled = none → Walks P w A it [it] [it] x.cps.size (SignAt x) (fun i h => h.IsStrIter it n x t i))
    (self : ∀ (A : Around) (i : Nat) (s : Shared) (Q : Value → Shared → Prop) (E : Value → Shared → Prop), s.heap.IsStrIter it n x t i → Q (.ref it) s → wpAny (model P w) A (pyIter (.ref it)) Q E s) :
    Turn P w K tg (Its x) [it] it (fun i h => h.IsStrIter it n x t i) where
  mem := by simp
  obj := fun i h st b hb => by
    have e : b = it := by simpa using hb
    subst e
    obtain ⟨o, e, c, d⟩ := st
    exact ⟨o, e, fun v z => by rw [d] at z; cases z⟩
  keep := fun i h h' st k => by
    obtain ⟨o, e, r⟩ := st
    exact ⟨o, k it (by simp) o e, r⟩
  item := by
    intro X hP hw hK hc i pins s σ H E I hf st hg
    subst hP hw hK
    obtain ⟨f0, f1, f2, f3, f4, f5⟩ := hf it (by simp)
    refine (W X.A (I.ok.hd hc)).item i s _ _ hg st fun v h' tk hv st' kk => ?_
    obtain ⟨c, u, hx, rfl⟩ := hv
    have I1 : Inv X pins σ H { s with heap := h', toks := tk } := I.turned (fun b o hb e => kk b o (by simpa using hb) e) f0 f1 f3 f4 f5
    obtain ⟨o, e, cc, d⟩ := id st'
    exact ⟨_, rfl, go_of (s := { s with heap := h', toks := tk }) e cc d hn ⟨.str ⟨#[c]⟩, H, I1, ⟨u, rfl⟩, ⟨rfl, c, hx, rfl⟩, st', fun b hb => (hf b hb).1⟩⟩
  done := by
    intro X hP hw hK hc i pins s σ H E I hf st hg
    subst hP hw hK
    obtain ⟨f0, f1, f2, f3, f4, f5⟩ := hf it (by simp)
    have hg' : i = x.cps.size := hg
    subst hg'
    exact (W X.A (I.ok.hd hc)).done s _ _ st fun h' tk eb => ⟨rfl, I.turned (fun b o hb e => eb b o (by simpa using hb) e) f0 f1 f3 f4 f5⟩
  self := self
variable {tg : Expr}
def iStr (tl : TE) : TI := fun σ H R => tl σ H fun v H1 => ∃ x, v = .str x ∧ R (Its x) H1
theorem pi_str {l : Expr} {tl : TE} (hl : PE X l tl) : PI X tg l (iStr tl) := by
  intro pins s σ H R I h
  refine thn (hl pins s σ H _ I h) fun v s1 ⟨xv, H1, I1, r1, q1⟩ => ?_
  obtain ⟨x, e, q⟩ := q1
  subst e
  obtain ⟨t, rfl⟩ := r1
  have fin : ∀ (o : Obj) (n : String), Turn X.prog X.w X.K tg (Its x) [s1.heap.objs.size] s1.heap.objs.size (fun i h => h.IsStrIter s1.heap.objs.size n x t i) → (s1.heap.push o).IsStrIter s1.heap.objs.size n x t 0 → PIE X pins σ tg R (.ref s1.heap.objs.size) { s1 with heap := s1.heap.push o } := by
    intro o n T st
    refine ⟨s1.heap.objs.size, [s1.heap.objs.size], _, _, H1, rfl, I1.kept (t' := s1.toks) fun b o e => Heap.get?_push_of_some _ e, T, st, fun b hb => ?_, q⟩
    have e : b = s1.heap.objs.size := by simpa using hb
    subst e
    exact I1.fpOk (Nat.le_refl _) (I1.hok.fresh (Nat.le_refl _))
  cases ha : x.cps.all (· < 128)
  · exact wpAny_pyIter_wide ha (fin _ "str_iterator" (turn_walk (by decide) (fun A hA => Walks.strWide hA _ x t) fun A i s Q E st q => wpAny_pyIter_striter_wide st q) ⟨_, Heap.get?_push_size _ rfl, rfl, rfl⟩)
  · exact wpAny_pyIter_ascii ha (fin _ "str_ascii_iterator" (turn_walk (by decide) (fun A hA => Walks.strAscii hA _ x t) fun A i s Q E st q => wpAny_pyIter_striter_ascii st q) ⟨_, Heap.get?_push_size _ rfl, rfl, rfl⟩)
/-! ### tables of the module -/
theorem op_notinTab : OpR X (compareOp .NotIn) (fun x y H Q => ∃ k a T, x = .str k ∧ y = .ref a ∧ TabK X.K a T ∧ Q (.bl (!KTD.inKeys k T)) H) := by
  intro pins s σ H x y v u Q I rx ry h
  obtain ⟨k, a, T, ex, ey, t, q⟩ := h
  subst ex ey
  obtain ⟨tk, rfl⟩ := rx
  cases ry
  exact KTD.notin_text (h₀ := s.heap) ⟨t _ I.kIn, fun _ _ e => e⟩ ⟨.bl _, H, I.tok _, rfl, q⟩
def rIxTabS (K : PySem.W.Frag) : R2 := fun x y H Q => ∃ a k T z, x = .ref a ∧ y = .str k ∧ TabK K a T ∧ (T.all fun p => KTD.plain p.2) = true ∧ KTD.datumAt k T = some (.flat (.str z)) ∧ Q (.str z) H
theorem ix_tabS : IxR X (rIxTabS X.K) := by
  intro value slice pins s σ H x y v u Q I rx ry h hs
  obtain ⟨a, k, T, z, ex, ey, t, hp, hd, q⟩ := h
  subst ex ey
  obtain ⟨tk, rfl⟩ := ry
  cases rx
  have hm : KTD.inKeys k T = true := by rw [← KTD.isSome_datumAt, hd]; rfl
  refine KTD.item_textA (h₀ := s.heap) ⟨t _ I.kIn, fun _ _ e => e⟩ hp hm ?_ hs
  exact each T hd fun t' => ⟨.str z, H, I.tok _, ⟨t', rfl⟩, q⟩
where
  each {h : Heap} {k : Str} {P : Value → Prop} {z : Str} : ∀ (T : List (Str × KTD.Dat)), KTD.datumAt k T = some (.flat (.str z)) → (∀ t, P (.str z t)) → KTD.EachL h k P T
    | [], hd, _ => by simp [KTD.datumAt] at hd
    | (x, d) :: T, hd, hP => by
      have hd' : (if decide (k = x) = true then some d else KTD.datumAt k T) = some (.flat (.str z)) := hd
      by_cases hx : k = x
      · rw [if_pos (decide_eq_true hx)] at hd'
        cases hd'
        exact KTD.eachL_hit hx (KTD.opened_str hP)
      · rw [if_neg (by simp [hx])] at hd'
        exact KTD.eachL_miss hx (each T hd' hP)
/-- T.get(k, i), T a table of ints -/
def tTabGet (K : PySem.W.Frag) (td ty tx : TE) : TE := fun σ H Q => td σ H fun x H1 => ∃ a T, x = .ref a ∧ TabK K a T ∧ ty σ H1 fun y H2 => tx σ H2 fun z H3 => ∃ k i, y = .str k ∧ z = .int i ∧ (∀ p ∈ T, ∃ j, p.2 = .flat (.int j)) ∧
  Q (.int (match KTD.datumAt k T with | some (.flat (.int j)) => j | _ => i)) H3
theorem pe_tabget {o e f : Expr} {apos cpos : Pos} {td ty tx : TE} (ho : PE X o td) (he : PE X e ty) (hf : PE X f tx) (m : M2 X o "get" apos e f cpos) : PE X (.Call (.Attribute o "get" apos) [e, f] [] cpos) (tTabGet X.K td ty tx) := by
  intro pins s σ H Q I h
  refine wpAny_Call_method m.base m.few m.line PySem.F.plainAttrs_dict PySem.F.slot_dict_get PySem.F.type_dict_get (thn (ho pins s σ H _ I h) fun u s1 ⟨x, H1, I1, rx, a, T, ex, tk, q1⟩ => ?_)
  subst ex
  obtain rfl : u = Value.ref a := rx
  have t1 := tk _ I1.kIn
  obtain ⟨lo, ob, es, ep, hob, hex, hdat, hrows⟩ := id t1
  refine ⟨⟨ob, hob, hex.1⟩, fun b eb => ?_, ?_⟩
  · cases eb
    exact ⟨ob, hob, hex.2.1⟩
  rw [m.trees]
  refine Calls.callWith_builtin rfl (Calls.evalArgs_plain (Calls.spliced_cons (thn (he pins s1 σ H1 _ I1 q1) fun iv s2 ⟨y, H2, I2, ry, q2⟩ =>
    Calls.spliced_cons (thn (hf pins s2 σ H2 _ I2 q2) fun fv s3 ⟨z, H3, I3, rz, k, i, ey, ez, hT, q3⟩ => Calls.spliced_nil ?_))))
  subst ey ez
  obtain ⟨tok1, rfl⟩ := ry
  obtain ⟨tok2, rfl⟩ := rz
  refine KTD.get2_text (h₀ := s3.heap) ⟨tk _ I3.kIn, fun _ _ e => e⟩ ?_
  have fin : ∀ (D : List (Str × KTD.Dat)), (∀ p ∈ D, ∃ j, p.2 = .flat (.int j)) → Q (.int (match KTD.datumAt k D with | some (.flat (.int j)) => j | _ => i)) H3 →
      KTD.Each s3.heap k (fun v => EP X pins σ Q v { s3 with toks := s3.toks + 1 }) (EP X pins σ Q (.int i tok2) { s3 with toks := s3.toks + 1 }) D := by
    intro D
    induction D with
    | nil => intro _ q; exact KTD.each_nil ⟨.int i, H3, I3.tok _, ⟨_, rfl⟩, q⟩
    | cons p D ih =>
      intro hD q
      obtain ⟨x, d⟩ := p
      obtain ⟨j, ej⟩ := hD (x, d) List.mem_cons_self
      have ej' : d = .flat (.int j) := ej
      subst ej'
      have ed : KTD.datumAt k ((x, KTD.Dat.flat (.int j)) :: D) = if decide (k = x) = true then some (.flat (.int j)) else KTD.datumAt k D := rfl
      rw [ed] at q
      by_cases hx : k = x
      · rw [if_pos (decide_eq_true hx)] at q
        exact KTD.each_hit hx (KTD.opened_int fun t => ⟨.int j, H3, I3.tok _, ⟨t, rfl⟩, q⟩)
      · rw [if_neg (by simp [hx])] at q
        exact KTD.each_miss hx (ih (fun p hp => hD p (List.mem_cons_of_mem _ hp)) q)
  exact fin T hT q3
end
end L2
end
section
set_option Elab.async false
set_option linter.all false
set_option maxRecDepth 100000
set_option maxHeartbeats 4000000
/-! the keys of a table of the module, walked; readings. -/
namespace L2
open PySem PySem.Spec PyProof.Rows
/-- a table of the module whose keys may be walked -/
structure KeysK (P : Program) (w : World) (K : PySem.W.Frag) (a : Addr) (ks : List Str) : Prop where
  lk : ∃ o, K.lookup a = some o
  tb : ∀ h : Heap, K.In h → ∃ D, StrTab P w h a D ∧ D.map (·.1) = ks.map PyData.str
def Itk (ks : List Str) : It := ⟨fun i _ => i < ks.length, fun i H v H' => H' = H ∧ ∃ k, ks[i]? = some k ∧ v = .str k, fun i _ => i = ks.length⟩
theorem flat_keys {kvs : List (Str × Value)} {D : List (PyData × PyData)} {ks : List Str} (h : PyProof.V.FlatPairs PyData.str kvs D) (e : D.map (·.1) = ks.map PyData.str) : kvs.map (·.1) = ks := by
  induction h generalizing ks with
  | nil =>
    cases ks with
    | nil => rfl
    | cons k ks => simp at e
  | cons _ _ ih =>
    cases ks with
    | nil => simp at e
    | cons k ks =>
      simp only [List.map_cons, List.cons.injEq] at e
      obtain ⟨e1, e2⟩ := e
      injection e1 with e1
      rw [List.map_cons, ih e2, ← e1]
theorem turn_tab {P : Program} {w : World} {K : PySem.W.Frag} {tg : Expr} {it d : Addr} {ep : Nat} {kvs : List (Str × Value)} (hD : ∀ h : Heap, K.In h → h.DictAt (strKind P w) d kvs ep) :
    Turn P w K tg (Itk (kvs.map (·.1))) [it] it (fun i h => h.IsKeyIter it d i kvs.length ep) where
  mem := by simp
  obj := fun i h st b hb => by
    have e : b = it := by simpa using hb
    subst e
    obtain ⟨o, e, c, d⟩ := st
    exact ⟨o, e, fun v z => by rw [d] at z; cases z⟩
  keep := fun i h h' st k => by
    obtain ⟨o, e, r⟩ := st
    exact ⟨o, k it (by simp) o e, r⟩
  item := by
    intro X hP hw hK hc i pins s σ H E I hf st hg
    subst hP hw hK
    obtain ⟨f0, f1, f2, f3, f4, f5⟩ := hf it (by simp)
    have hi : i < kvs.length := by have z : i < (kvs.map (·.1)).length := hg; simpa using z
    refine wpAny_pyNext_dict_item st (hD _ I.kIn) (List.getElem?_eq_getElem hi) fun key h' hk st' sb => ?_
    obtain ⟨t, rfl⟩ := Value.isStrOf_shape hk
    have I1 : Inv X pins σ H { s with heap := h' } := I.turned (t' := s.toks) (fun b o hb e => (sb.2 b hb).trans e) f0 f1 f3 f4 f5
    refine ⟨_, rfl, PyProof.Rows.letGo_keyiter (s' := { s with heap := h' }) st' ⟨.str (kvs[i]).1, H, I1, ⟨t, rfl⟩, ⟨rfl, (kvs[i]).1, ?_, rfl⟩, st', fun b hb => (hf b hb).1⟩⟩
    rw [List.getElem?_map, List.getElem?_eq_getElem hi]
    rfl
  done := by
    intro X hP hw hK hc i pins s σ H E I hf st hg
    subst hP hw hK
    obtain ⟨f0, f1, f2, f3, f4, f5⟩ := hf it (by simp)
    have hi : i = kvs.length := by have z : i = (kvs.map (·.1)).length := hg; simpa using z
    exact wpAny_pyNext_dict_end (I.ok.hd hc) st (hD _ I.kIn) (by simp [hi]) fun h' eb => ⟨rfl, I.turned (t' := s.toks) (fun b o hb e => eb b o hb e) f0 f1 f3 f4 f5⟩
  self := fun A i s Q E st q => wpAny_pyIter_keyiter st q
section
variable {X : Cx} {tg : Expr}
def iTab (P : Program) (w : World) (K : PySem.W.Frag) (tl : TE) : TI := fun σ H R => tl σ H fun v H1 => ∃ a ks, v = .ref a ∧ KeysK P w K a ks ∧ R (Itk ks) H1
theorem pi_tab {l : Expr} {tl : TE} (hl : PE X l tl) : PI X tg l (iTab X.prog X.w X.K tl) := by
  intro pins s σ H R I h
  refine thn (hl pins s σ H _ I h) fun v s1 ⟨xv, H1, I1, r1, q1⟩ => ?_
  obtain ⟨a, ks, e, hK, q⟩ := q1
  subst e
  cases r1
  obtain ⟨D, T, hD⟩ := hK.tb _ I1.kIn
  obtain ⟨o, ho⟩ := hK.lk
  obtain ⟨lo, kvs, hdo, hf⟩ := T
  obtain ⟨ep, hat⟩ := hdo.dictAt
  have ek := flat_keys hf hD
  subst ek
  have hall : ∀ h : Heap, X.K.In h → h.DictAt (strKind X.prog X.w) a kvs ep := fun h x => by
    obtain ⟨o', es, e1, r⟩ := hat
    have z := I1.kIn _ _ ho
    rw [e1] at z
    cases z
    exact ⟨_, es, x _ _ ho, r⟩
  refine wpAny_pyIter_dict lo hat ?_
  refine ⟨s1.heap.objs.size, [s1.heap.objs.size], _, _, H1, rfl, I1.kept (t' := s1.toks) fun b o e => Heap.get?_push_of_some _ e, turn_tab hall, ⟨_, Heap.get?_push_size _ rfl, rfl, rfl⟩, fun b hb => ?_, q⟩
  have e : b = s1.heap.objs.size := by simpa using hb
  subst e
  exact I1.fpOk (Nat.le_refl _) (I1.hok.fresh (Nat.le_refl _))
end
end L2
end
section
set_option Elab.async false
set_option linter.all false
set_option maxRecDepth 100000
set_option maxHeartbeats 4000000
/-! NEW LISTS OF DATA: what makes one, what is made of one. -/
namespace L2
open PySem PySem.Spec PyProof.Rows
/-- a new list of these data -/
def RC (K : PySem.W.Frag) (t : TE) (σ : St) (H : Hp) (es : List D) : Prop := ∀ H1, Same H H1 → ∀ Q : VK, (∀ l ys H', H1 l = none → Same H1 H' → H' l = some (.lst ys) → Dats K H' es ys → Q (.ref l) H') → t σ H1 Q
section
variable {K : PySem.W.Frag} {σ : St} {H H' : Hp} {d d' : D} {ds es : List D} {t u ta tb te tl : TE} {tt uu : TT} {tA : TA} {i j : Int} {b c : Bool} {mk : St → St} {jj : Nat}
theorem RC.mono (h : RC K t σ H es) (e : Same H H') : RC K t σ H' es := fun H1 s Q q => h H1 (e.trans s) Q q
theorem RC.use {Q : VK} (h : RC K t σ H es) (q : ∀ l ys H', H l = none → Same H H' → H' l = some (.lst ys) → Dats K H' es ys → Q (.ref l) H') : t σ H Q := h H (Same.refl H) Q q
/-! ### makers -/
theorem rc_lst (h : RA K tA σ H es) (hl : es.length ≤ 1000 := by simp) : RC K (tLst tA) σ H es := fun H1 s Q q =>
  rl_lst (h.mono s) (fun p vs H2 s2 hp hd => q p vs _ (s2.free hp) (s2.trans (same_new hp _)) upd_same ((same_new hp _).dats hd)) hl
theorem rc_tup {cs : List D} (h : RE K tl σ H (.tup cs)) (hc : cs.length ≤ 1000) (es : List D) (hl : es.length = cs.length) (h0 : (mk σ).set jj none = mk σ)
    (turn : ∀ H1 (i : Nat) c v d, Same H H1 → cs[i]? = some c → es[i]? = some d → Dat K H1 c v → RE K te ((mk σ).set jj (some v)) H1 d) : RC K (tComp (iTup K tl) mk (gName jj) tTrue te) σ H es := fun H1 s Q q =>
  rcomp_tup (K := K) (h.mono s) hc es hl h0 (fun H2 i c v d s2 => turn H2 i c v d (s.trans s2)) (fun l ys H2 hl s2 hy hd => q l ys H2 hl s2 hy hd)
/-- over a text -/
theorem rc_str {x : Str} (h : RE K tl σ H (.str x)) (hc : x.cps.size ≤ 1000) (es : List D) (hl : es.length = x.cps.size) (h0 : (mk σ).set jj none = mk σ)
    (turn : ∀ H1 (i : Nat) c d, Same H H1 → x.cps[i]? = some c → es[i]? = some d → RE K te ((mk σ).set jj (some (.str ⟨#[c]⟩))) H1 d) : RC K (tComp (iStr tl) mk (gName jj) tTrue te) σ H es := fun H1 s Q q => by
  refine (h.mono s).use fun v4 H4 s4 q4 => ?_
  have e := q4.strE
  subst e
  refine ⟨x, rfl, ?_⟩
  refine comp_pure (K := K) (Q := Q) (n := x.cps.size) (item := fun i => .str ⟨#[x.cps.getD i 0]⟩) (fun i H' s hi => ⟨hi, fun v H'' y => ⟨y.1, ?_⟩⟩) (fun H' s => rfl) h0 es hl hc (fun i d hi => ?_) (fun l ys H5 hl5 s5 => q l ys H5 (s4.free hl5) (s4.trans s5))
  · obtain ⟨_, c, hc, e⟩ := y
    rw [e, Array.getD_eq_getD_getElem?, hc]
    rfl
  · have hi' : i < es.length := (List.getElem?_eq_some_iff.mp hi).1
    have hc : x.cps[i]? = some (x.cps.getD i 0) := by
      rw [Array.getD_eq_getD_getElem?, Array.getElem?_eq_getElem (by omega)]
      rfl
    exact turn H4 i _ d (s.trans s4) hc hi
/-- over the keys of a table of the module -/
theorem rc_tab {P : Program} {w : World} {a : Addr} {ks : List Str} (hK : KeysK P w K a ks) (hc : ks.length ≤ 1000) (es : List D) (hl : es.length = ks.length) (h0 : (mk σ).set jj none = mk σ)
    (turn : ∀ H1 (i : Nat) k d, Same H H1 → ks[i]? = some k → es[i]? = some d → RE K te ((mk σ).set jj (some (.str k))) H1 d) : RC K (tComp (iTab P w K (tC (.ref a))) mk (gName jj) tTrue te) σ H es := fun H1 s Q q => by
  refine ⟨a, ks, rfl, hK, ?_⟩
  refine comp_pure (K := K) (Q := Q) (n := ks.length) (item := fun i => .str (ks.getD i "")) (fun i H' s hi => ⟨hi, fun v H'' y => ⟨y.1, ?_⟩⟩) (fun H' s => rfl) h0 es hl hc (fun i d hi => ?_) q
  · obtain ⟨_, k, hk, e⟩ := y
    rw [e, List.getD_eq_getElem?_getD, hk]
    rfl
  · have hi' : i < es.length := (List.getElem?_eq_some_iff.mp hi).1
    have hk : ks[i]? = some (ks.getD i "") := by
      rw [List.getD_eq_getElem?_getD, List.getElem?_eq_getElem (by omega)]
      rfl
    exact turn H1 i _ d s hk hi
/-- over a new list -/
theorem rc_list {cs : List D} (h : RC K tl σ H cs) (hc : cs.length ≤ 1000) (es : List D) (hl : es.length = cs.length) (h0 : (mk σ).set jj none = mk σ)
    (turn : ∀ H1 (i : Nat) c v d, Same H H1 → cs[i]? = some c → es[i]? = some d → Dat K H1 c v → RE K te ((mk σ).set jj (some v)) H1 d) : RC K (tComp (iList K tl) mk (gName jj) tTrue te) σ H es := fun H1 s Q q => by
  refine (h.mono s).use fun l4 ys4 H4 hl4 s4 hy4 hd4 => ?_
  have ll := hd4.length
  refine ⟨l4, rfl, ⟨ys4, SqL.of hy4⟩, ?_⟩
  refine comp_pure (K := K) (Q := Q) (n := ys4.length) (item := fun i => ys4.getD i .non) (fun i H' s hi => go_lst i H' (SqL.of (s _ _ hy4)) hi) (fun H' s => ⟨ys4, SqL.of (s _ _ hy4), Nat.le_refl _⟩) h0 es (by omega) (by omega) (fun i d hi => ?_) (fun l ys H5 hl5 s5 => q l ys H5 (s4.free hl5) (s4.trans s5))
  have hi' : i < es.length := (List.getElem?_eq_some_iff.mp hi).1
  have hic : i < cs.length := by omega
  obtain ⟨vz, ez, hz⟩ := hd4.get (List.getElem?_eq_getElem hic)
  have q := turn H4 i cs[i] vz d (s.trans s4) (List.getElem?_eq_getElem hic) hi hz
  rw [List.getD_eq_getElem?_getD, ez]
  exact q
/-- a def that makes a new list -/
theorem rc_call {R : List D → List D → Prop} {E : XK} (h : RA K tA σ H ds) (e : R ds es) : RC K (tCall (spDL K R) [] E tA) σ H es := fun H1 s Q q =>
  h H1 s _ fun vs H2 s2 q2 => ⟨ds, es, by rw [List.append_nil]; exact q2, e, fun r us H3 s3 hr hr0 hd => q r us H3 (s2.free hr0) (s2.trans s3) hr hd⟩
/-! ### uses -/
theorem re_allC {bs : List Bool} (h : RC K t σ H (bs.map D.bl)) : RE K (tCB (fun xs H Q => ∃ (l : Addr) (bs : List Bool), xs = [.ref l] ∧ SqL K H l (bs.map V.bl) ∧ Q (.bl (bs.all id)) H) (tCons t tNil)) σ H (.bl (bs.all id)) := fun H1 s Q q =>
  r_cb1 ((h.mono s).use fun l ys H' _ s' hy hd => ⟨l, bs, rfl, by rw [← datBs hd]; exact SqL.of hy, q _ _ s' (Dat.blI _)⟩)
theorem re_anyC {bs : List Bool} (h : RC K t σ H (bs.map D.bl)) : RE K (tCB (fun xs H Q => ∃ (l : Addr) (bs : List Bool), xs = [.ref l] ∧ SqL K H l (bs.map V.bl) ∧ Q (.bl (bs.any id)) H) (tCons t tNil)) σ H (.bl (bs.any id)) := fun H1 s Q q =>
  r_cb1 ((h.mono s).use fun l ys H' _ s' hy hd => ⟨l, bs, rfl, by rw [← datBs hd]; exact SqL.of hy, q _ _ s' (Dat.blI _)⟩)
theorem re_tupleT (h : RE K t σ H (.tup es)) : RE K (tCB (fun xs H Q => ∃ p ys, xs = [.ref p] ∧ ((SqL K H p ys ∧ ∀ l, H l = none → Q (.ref l) (upd H l (.tup ys))) ∨ (SqT K H p ys ∧ Q (.ref p) H))) (tCons t tNil)) σ H (.tup es) := fun H1 s Q q =>
  r_cb1 ((h.mono s).use fun v H' s' hd => by
    obtain ⟨a, vs, e, hq, hds⟩ := hd.tupE
    subst e
    exact ⟨a, vs, rfl, .inr ⟨hq, q _ _ s' (Dat.tupI hq hds)⟩⟩)
theorem re_lenC (h : RC K t σ H es) : RE K (tCB (fun xs H Q => ∃ p ys, xs = [.ref p] ∧ (SqL K H p ys ∨ SqT K H p ys) ∧ Q (.int ys.length) H) (tCons t tNil)) σ H (.int es.length) := fun H1 s Q q =>
  r_cb1 ((h.mono s).use fun l ys H' _ s' hy hd => ⟨l, ys, rfl, .inl (SqL.of hy), by rw [← hd.length]; exact q _ _ s' (Dat.intI _)⟩)
theorem re_lenS {x : Str} (h : RE K t σ H (.str x)) (hx : x.length ≤ sizeLine) : RE K (tCB (fun xs H Q => ∃ z : Str, xs = [.str z] ∧ z.length ≤ sizeLine ∧ Q (.int z.length) H) (tCons t tNil)) σ H (.int x.length) := fun H1 s Q q =>
  r_cb1 ((h.mono s).use fun v H' s' hd => by
    rw [hd.strE]
    exact ⟨x, rfl, hx, q _ _ s' (Dat.intI _)⟩)
/-- xs = a new list of data, then the rest -/
theorem rs_setC {us : TS} {En : Ends} {k : Nat} (h : RC K t σ H es) (q : ∀ l ys H', H l = none → Same H H' → H' l = some (.lst ys) → Dats K H' es ys → us En (σ.set k (some (.ref l))) H') : tSeq (tAsg t (gName k)) us En σ H := h.use q
/-! ### texts in order -/
theorem re_chainS {tc : TE} {x y z : Str} {p q' : Str → Str → Bool} (h1 : RE K ta σ H (.str x)) (h2 : RE K tb σ H (.str y)) (h3 : p x y = true → RE K tc σ H (.str z)) :
    RE K (tChain (fun u v H Q => ∃ i j : Str, u = .str i ∧ v = .str j ∧ Q (.bl (p i j)) H) (fun u v H Q => ∃ i j : Str, u = .str i ∧ v = .str j ∧ Q (.bl (q' i j)) H) ta tb tc) σ H (.bl (p x y && q' y z)) := fun H1 s Q q =>
  h1 H1 s _ fun v H2 s2 q2 => h2 H2 (s.trans s2) _ fun w H3 s3 q3 => by
    refine ⟨x, y, q2.strE, q3.strE, p x y, rfl, ?_⟩
    cases hp : p x y with
    | true =>
      simp only [if_true, Bool.true_and]
      exact h3 hp H3 (s.trans (s2.trans s3)) _ fun z' H4 s4 q4 => ⟨y, z, q3.strE, q4.strE, q _ _ (s2.trans (s3.trans s4)) (by rw [hp]; exact Dat.blI _)⟩
    | false =>
      simp only [Bool.false_eq_true, if_false, Bool.false_and]
      exact q _ _ (s2.trans s3) (by rw [hp]; exact Dat.blI _)
/-! ### tables -/
theorem re_notinTab {k : Str} {a : Addr} {T : List (Str × KTD.Dat)} (h : RE K t σ H (.str k)) (ht : TabK K a T) : RE K (tOp (fun x y H Q => ∃ k a T, x = .str k ∧ y = .ref a ∧ TabK K a T ∧ Q (.bl (!KTD.inKeys k T)) H) t (tC (.ref a))) σ H (.bl (!KTD.inKeys k T)) := fun H1 s Q q =>
  h H1 s _ fun v H2 s2 q2 => ⟨k, a, T, q2.strE, rfl, ht, q _ _ s2 (Dat.blI _)⟩
theorem re_ixTabS {k z : Str} {a : Addr} {T : List (Str × KTD.Dat)} (h : RE K t σ H (.str k)) (ht : TabK K a T) (hp : (T.all fun p => KTD.plain p.2) = true) (e : KTD.datumAt k T = some (.flat (.str z))) : RE K (tOp (rIxTabS K) (tC (.ref a)) t) σ H (.str z) := fun H1 s Q q =>
  h H1 s _ fun v H2 s2 q2 => ⟨a, k, T, z, rfl, q2.strE, ht, hp, e, q _ _ s2 (Dat.strI _)⟩
def tabD (k : Str) (T : List (Str × KTD.Dat)) (i : Int) : Int := match KTD.datumAt k T with | some (.flat (.int j)) => j | _ => i
theorem re_tabget {k : Str} {a : Addr} {T : List (Str × KTD.Dat)} (ht : TabK K a T) (h1 : RE K ta σ H (.str k)) (h2 : RE K tb σ H (.int i)) (hT : ∀ p ∈ T, ∃ j, p.2 = .flat (.int j)) : RE K (tTabGet K (tC (.ref a)) ta tb) σ H (.int (tabD k T i)) := fun H1 s Q q =>
  ⟨a, T, rfl, ht, h1 H1 s _ fun v H2 s2 q2 => h2 H2 (s.trans s2) _ fun w H3 s3 q3 => ⟨k, i, (s3.dat q2).strE, q3.intE, hT, q _ _ (s2.trans s3) (Dat.intI _)⟩⟩
/-! ### a slice of a tuple -/
theorem cut_nat {vs : List V} {lo hi : Nat} : cutV vs (some (lo : Int)) (some (hi : Int)) = (vs.drop lo).take (hi - lo) := by
  unfold cutV
  rw [HT.sIx_nat, HT.sIx_nat]
  apply List.ext_getElem?
  intro i
  simp only [List.getElem?_take, List.getElem?_drop]
  by_cases h1 : i < hi - lo
  · rw [if_pos h1]
    by_cases h2 : i < min hi vs.length - min lo vs.length
    · rw [if_pos h2]
      congr 1
      omega
    · rw [if_neg h2, List.getElem?_eq_none (by omega)]
  · rw [if_neg h1, if_neg (by omega)]
theorem Dats.dropN : ∀ {n : Nat} {ds : List D} {vs : List V}, Dats K H ds vs → Dats K H (ds.drop n) (vs.drop n)
  | 0, _, _, h => h
  | n + 1, [], _, h => by rw [h.nilE]; exact Dats.nil
  | n + 1, d :: ds, _, h => by
    obtain ⟨v, r, e, h1, h2⟩ := h.consE
    subst e
    exact Dats.dropN (n := n) h2
theorem Dats.takeN : ∀ {n : Nat} {ds : List D} {vs : List V}, Dats K H ds vs → Dats K H (ds.take n) (vs.take n)
  | 0, _, _, h => by rw [List.take_zero, List.take_zero]; exact Dats.nil
  | n + 1, [], _, h => by rw [h.nilE]; exact Dats.nil
  | n + 1, d :: ds, _, h => by
    obtain ⟨v, r, e, h1, h2⟩ := h.consE
    subst e
    exact Dats.cons h1 (Dats.takeN (n := n) h2)
theorem re_cut {lo hi : Nat} (h : RE K t σ H (.tup ds)) (h1 : RE K ta σ H (.int lo)) (h2 : RE K tb σ H (.int hi)) (hl : 1 ≤ lo) (hd : 0 < ds.length) : RE K (tSl (rSlT K) t (tPart ta) (tPart tb)) σ H (.tup ((ds.drop lo).take (hi - lo))) := fun H1 s Q q =>
  h H1 s _ fun v H2 s2 q2 => h1 H2 (s.trans s2) _ fun v3 H3 s3 q3 => ⟨lo, q3.intE, h2 H3 (s.trans (s2.trans s3)) _ fun v4 H4 s4 q4 => ⟨hi, q4.intE, by
    obtain ⟨a, vs, ev, hq, hds⟩ := ((s3.trans s4).dat q2).tupE
    have ll := hds.length
    refine ⟨a, vs, ev, hq, fun z => ?_, fun p hp => ?_⟩
    · rw [HT.sIx_nat] at z
      omega
    · rw [cut_nat]
      exact q _ _ (s2.trans (s3.trans (s4.trans (same_new hp _)))) (Dat.tupI (SqT.of upd_same) ((same_new hp _).dats (Dats.takeN (Dats.dropN hds))))⟩⟩
end
/-! ### data of the module -/
mutual
def datOk (K : PySem.W.Frag) : D → Value → Bool
  | .non, u => (match u with | .none => true | _ => false)
  | .bl b, u => (match u with | .bool c => b == c | _ => false)
  | .int i, u => (match u with | .int j _ => i == j | _ => false)
  | .str x, u => (match u with | .str y _ => x == y | _ => false)
  | .tup ds, u => (match u with | .ref a => (match K.lookup a with | some ⟨.type "tuple", _, .seq its _, _⟩ => decide (its.size ≤ 1000) && datsOk K ds its.toList | _ => false) | _ => false)
  | .lst, _ => false
def datsOk (K : PySem.W.Frag) : List D → List Value → Bool
  | [], us => us.isEmpty
  | d :: ds, us => (match us with | u :: r => datOk K d u && datsOk K ds r | [] => false)
end
mutual
theorem datOk_sound {K : PySem.W.Frag} (H : Hp) : ∀ (d : D) (u : Value), datOk K d u = true → ∃ v, RelV v u ∧ Dat K H d v
  | .non, u, h => by
    unfold datOk at h
    cases u <;> first | (exact ⟨.non, rfl, Dat.nonI⟩) | cases h
  | .bl b, u, h => by
    unfold datOk at h
    cases u <;> first | cases h | skip
    rename_i c
    have e : b = c := by simpa using h
    subst e
    exact ⟨.bl b, rfl, Dat.blI _⟩
  | .int i, u, h => by
    unfold datOk at h
    cases u <;> first | cases h | skip
    rename_i j t
    have e : i = j := by simpa using h
    subst e
    exact ⟨.int i, ⟨t, rfl⟩, Dat.intI _⟩
  | .str x, u, h => by
    unfold datOk at h
    cases u <;> first | cases h | skip
    rename_i y t
    have e : x = y := by simpa using h
    subst e
    exact ⟨.str x, ⟨t, rfl⟩, Dat.strI _⟩
  | .tup ds, u, h => by
    unfold datOk at h
    cases u <;> first | cases h | skip
    rename_i a
    dsimp only at h
    split at h
    · rename_i od its n sl e
      rw [Bool.and_eq_true] at h
      obtain ⟨vs, r, hd⟩ := datsOk_sound H ds its.toList h.2
      refine ⟨.ref a, rfl, Dat.tupI (.inr ⟨_, its, n, e, rfl, rfl, ?_, r⟩) hd⟩
      exact Nat.le_trans (of_decide_eq_true h.1) (by decide)
    · cases h
  | .lst, u, h => by unfold datOk at h; cases h
theorem datsOk_sound {K : PySem.W.Frag} (H : Hp) : ∀ (ds : List D) (us : List Value), datsOk K ds us = true → ∃ vs, Vals vs us ∧ Dats K H ds vs
  | [], us, h => by
    unfold datsOk at h
    cases us with
    | nil => exact ⟨[], .nil, Dats.nil⟩
    | cons u r => cases h
  | d :: ds, us, h => by
    unfold datsOk at h
    cases us with
    | nil => cases h
    | cons u r =>
      dsimp only at h
      rw [Bool.and_eq_true] at h
      obtain ⟨v, r1, h1⟩ := datOk_sound H d u h.1
      obtain ⟨vs, r2, h2⟩ := datsOk_sound H ds r h.2
      exact ⟨v :: vs, .cons r1 r2, Dats.cons h1 h2⟩
end
theorem datK {K : PySem.W.Frag} {ds : List D} {a : Addr} (h : datOk K (.tup ds) (.ref a) = true) (H : Hp) : Dat K H (.tup ds) (.ref a) := by
  obtain ⟨v, r, hd⟩ := datOk_sound H _ _ h
  obtain ⟨b, vs, e, _⟩ := id hd.tupE
  subst e
  have z : Value.ref a = .ref b := r
  cases z
  exact hd
theorem re_con {K : PySem.W.Frag} {σ : St} {H : Hp} {ds : List D} {a : Addr} (h : datOk K (.tup ds) (.ref a) = true) : RE K (tC (.ref a)) σ H (.tup ds) := fun H1 _ Q q => q _ _ (Same.refl _) (datK h H1)
end L2
end
section
set_option Elab.async false
set_option linter.all false
set_option maxRecDepth 100000
set_option maxHeartbeats 4000000
/-! ranges as things, list(range(n)); lists put together, of the module too. -/
namespace L2
open PySem PySem.Spec PyProof.Rows
section
variable {X : Cx}
theorem call_rng : CallR X (.type "range") (fun xs H Q => ∃ n : Nat, xs = [.int n] ∧ ∀ p, H p = none → Q (.ref p) (upd H p (.rng 0 n))) := by
  intro pins s σ H xs us Q I r h
  obtain ⟨n, rfl, q⟩ := h
  obtain ⟨u, rfl, ru⟩ := vals1 r
  obtain ⟨t, rfl⟩ := ru
  refine call_range_1 ⟨.ref s.heap.objs.size, _, I.laid (fun b o e => Heap.get?_push_of_some _ e) (Nat.le_refl _) (show ObjOk X.prog X.w _ _ _ (.rng 0 n) from ⟨_, _, _, Heap.get?_push_size _ rfl⟩), rfl, q _ (I.hok.fresh (Nat.le_refl _))⟩
theorem vals_rng {n : Nat} {acc : Array Value} (h : ItemsOf (fun i v => ∃ t, v = .int ((0 : Int) + (i : Nat) * 1) t) acc n) : Vals ((List.range n).map fun i : Nat => V.int i) acc.toList := by
  obtain ⟨hs, hi⟩ := h
  have all : ∀ (l : List Value) (k : Nat), (∀ (j : Nat) (v : Value), l[j]? = some v → ∃ t, v = Value.int ((0 : Int) + ((k + j : Nat) : Int) * 1) t) → Vals ((List.range' k l.length).map fun i : Nat => V.int i) l := by
    intro l
    induction l with
    | nil => intro k _; exact .nil
    | cons u l ih =>
      intro k hj
      rw [List.length_cons, List.range'_succ, List.map_cons]
      refine .cons ?_ (ih (k + 1) fun j v e => ?_)
      · obtain ⟨t, e⟩ := hj 0 u rfl
        refine ⟨t, ?_⟩
        rw [e]
        congr 1
        simp
      · obtain ⟨t, e'⟩ := hj (j + 1) v (by simpa using e)
        refine ⟨t, ?_⟩
        rw [e']
        congr 1
        have : k + (j + 1) = k + 1 + j := by omega
        rw [this]
  have q := all acc.toList 0 fun j v e => by
    rw [Nat.zero_add]
    exact hi j v (by simpa using e)
  rw [List.range_eq_range']
  rw [Array.length_toList, hs] at q
  exact q
theorem call_list_rng (hc : X.calm = true) : CallR X (.type "list") (fun xs H Q => ∃ (p : Addr) (n : Nat), xs = [.ref p] ∧ H p = some (.rng 0 n) ∧ n ≤ 1000 ∧ ∀ l, H l = none → Q (.ref l) (upd H l (.lst ((List.range n).map fun i : Nat => V.int i)))) := by
  intro pins s σ H xs us Q I r h
  obtain ⟨p, n, rfl, hp, hn, q⟩ := h
  obtain ⟨u, rfl, rx⟩ := vals1 r
  cases rx
  obtain ⟨t, u, v, e⟩ := (show ObjOk X.prog X.w H s.heap p (.rng 0 n) from I.hok p _ hp)
  refine call_list_range (n := n) (I.ok.hd hc) (show IsRange s.heap p 0 n 1 t u v from e) (small_one (by omega) (by omega) (by omega) (by omega)) ?_ (by omega) fun h' tk acc' c' kp e' hacc => ?_
  · rw [rangeSize_one]
    split <;> omega
  · have hv := vals_rng hacc
    have hl := hv.length
    refine ⟨.ref s.heap.objs.size, _, I.laid kp (Nat.le_refl _) (show ObjOk X.prog X.w _ h' _ (.lst _) from ⟨?_, acc'.toList, c', hv, by simpa using e'⟩), rfl, q _ (I.hok.fresh (Nat.le_refl _))⟩
    simp only [List.length_map, List.length_range]
    exact Nat.le_trans hn (by decide)
/-- a list of the module, as it stands -/
def LstK (K : PySem.W.Frag) (a : Addr) (xs : List V) : Prop := ∃ (its : Array Value) (n : Nat), K.lookup a = some ⟨.type "list", none, .seq its n, #[]⟩ ∧ its.size ≤ 1000 ∧ Vals xs its.toList
def aLst (K : PySem.W.Frag) (H : Hp) (a : Addr) (xs : List V) : Prop := H a = some (.lst xs) ∨ LstK K a xs
theorem aLst.sqL {K : PySem.W.Frag} {H : Hp} {a : Addr} {xs : List V} (h : aLst K H a xs) : SqL K H a xs := by
  rcases h with h | ⟨its, n, e, hz, r⟩
  · exact SqL.of h
  · exact .inr ⟨_, its, n, e, rfl, rfl, rfl, Nat.le_trans hz (by decide), r⟩
theorem aLst.at {pins : List (Addr × Obj)} {σ : St} {H : Hp} {s : Shared} {a : Addr} {xs : List V} (I : Inv X pins σ H s) (h : aLst X.K H a xs) : ∃ (its : List Value) (n : Nat), Vals xs its ∧ s.heap.get? a = some { cls := .type "list", data := .seq its.toArray n } := by
  rcases h with h | ⟨its, n, e, hz, r⟩
  · obtain ⟨z, its, n, r, hl, e⟩ := I.lstM h
    exact ⟨its, n, r, e⟩
  · exact ⟨its.toList, n, r, by simpa using I.kIn _ _ e⟩
def rCatK (K : PySem.W.Frag) : R2 := fun x y H Q => ∃ l b xs zs, x = .ref l ∧ y = .ref b ∧ aLst K H l xs ∧ aLst K H b zs ∧ xs.length + zs.length ≤ 1000 ∧ ∀ p, H p = none → Q (.ref p) (upd H p (.lst (xs ++ zs)))
theorem op_catK : OpR X (binaryOp .Add) (rCatK X.K) := by
  intro pins s σ H x y v u Q I rx ry h
  obtain ⟨l, b, xs, zs, rfl, rfl, hH, hB, hz, q⟩ := h
  cases rx
  cases ry
  obtain ⟨its, n, r, e⟩ := hH.at I
  obtain ⟨its2, n2, r2, e2⟩ := hB.at I
  have l1 := r.length
  have l2 := r2.length
  have hz' : xs.length + zs.length ≤ sizeLine := Nat.le_trans hz (by decide)
  refine PySem.P.add_list e e2 ?_ (by rw [List.size_toArray, List.size_toArray]; omega)
  have ea : its.toArray ++ its2.toArray = (its ++ its2).toArray := by simp
  rw [ea]
  exact ⟨.ref _, _, I.lnew (t' := s.toks) (r.append r2) (by rw [List.length_append]; omega), rfl, q _ I.fresh⟩
end
section
variable {K : PySem.W.Frag} {σ : St} {H : Hp} {t : TE} {n : Nat}
/-- a list of data of the module -/
def lstKOk (K : PySem.W.Frag) (ds : List D) (a : Addr) : Bool := match K.lookup a with
  | some ⟨.type "list", none, .seq its _, sl⟩ => decide (its.size ≤ 1000) && (sl.isEmpty && datsOk K ds its.toList)
  | _ => false
theorem lstKOk_sound {K : PySem.W.Frag} {ds : List D} {a : Addr} (h : lstKOk K ds a = true) (H : Hp) : ∃ vs, LstK K a vs ∧ Dats K H ds vs := by
  unfold lstKOk at h
  split at h
  · rename_i its n sl e
    rw [Bool.and_eq_true, Bool.and_eq_true] at h
    obtain ⟨vs, r, hd⟩ := datsOk_sound H ds its.toList h.2.2
    have es : sl = #[] := by simpa using h.2.1
    subst es
    exact ⟨vs, ⟨its, n, e, of_decide_eq_true h.1, r⟩, hd⟩
  · cases h
/-- list(range(n)) -/
theorem rc_listrange (h : RE K t σ H (.int n)) (hn : n ≤ 1000) : RC K (tCB (fun xs H Q => ∃ (p : Addr) (n : Nat), xs = [.ref p] ∧ H p = some (.rng 0 n) ∧ n ≤ 1000 ∧ ∀ l, H l = none → Q (.ref l) (upd H l (.lst ((List.range n).map fun i : Nat => V.int i))))
    (tCons (tCB (fun xs H Q => ∃ n : Nat, xs = [.int n] ∧ ∀ p, H p = none → Q (.ref p) (upd H p (.rng 0 n))) (tCons t tNil)) tNil)) σ H ((List.range n).map fun i : Nat => D.int i) := fun H1 s Q q =>
  r_cb1 (r_cb1 ((h.mono s).use fun v H2 s2 q2 => by
    rw [q2.intE]
    refine ⟨n, rfl, fun p hp => ⟨p, n, rfl, upd_same, hn, fun l hl => ?_⟩⟩
    have s3 := s2.trans ((same_new hp (.rng 0 n)).trans (same_new hl (.lst ((List.range n).map fun i : Nat => V.int i))))
    refine q l _ _ ((s2.trans (same_new hp _)).free hl) s3 upd_same ?_
    have z : ∀ m : List Nat, Dats K (upd (upd H2 p (.rng 0 n)) l (.lst ((List.range n).map fun i : Nat => V.int i))) (m.map fun i : Nat => D.int i) (m.map fun i : Nat => V.int i) := by
      intro m
      induction m with
      | nil => exact Dats.nil
      | cons a m ih => exact Dats.cons (Dat.intI _) ih
    exact z _))
end
end L2
end
section
set_option Elab.async false
set_option linter.all false
set_option maxRecDepth 100000
set_option maxHeartbeats 4000000
/-! three lists that are filled. -/
namespace L2
open PySem PySem.Spec PyProof.Rows
section
variable {K : PySem.W.Frag} {l0 l1 l2 : Addr} {H H' H2 : Hp} {a b c a' b' c' : List V} {v : V}
/-- xs.append(e), e data -/
theorem rs_appl {te : TE} {us : TS} {En : Ends} {σ : St} {G : Hp} {j : Nat} {l : Addr} {xs : List V} {d : D} (h : RE K te σ G d) (hl : G l = some (.lst xs)) (hx : xs.length ≤ 900)
    (q : ∀ y G', But l G G' → G' l = some (.lst (xs ++ [y])) → Dat K G' d y → us En σ G') (hv : σ[j]? = some (some (.ref l)) := by rfl) : tSeq (tDrop (tBM K "list" rAppend (tVar j) (tCons te tNil))) us En σ G := by
  refine ⟨_, hv, .inl ⟨rfl, _, SqL.of hl⟩, h.use fun y H1 s1 q1 => ?_⟩
  have hl1 := s1 _ _ hl
  refine ⟨l, xs, y, rfl, rfl, hl1, small1000 (by omega), ?_⟩
  have b : But l H1 (upd H1 l (.lst (xs ++ [y]))) := But.upd (Same.refl _).but
  exact q y _ (s1.but.trans b) upd_same (Dat.mono (b.grow hl1 upd_same) _ q1)
end
end L2
end
section
set_option Elab.async false
set_option linter.all false
set_option maxRecDepth 100000
set_option maxHeartbeats 4000000
/-! sum, index of data, reversed. -/
namespace L2
open PySem PySem.Spec PyProof.Rows
section
variable {X : Cx}
variable {tg : Expr}
end
end L2
end
section
set_option Elab.async false
set_option linter.all false
set_option maxRecDepth 100000
set_option maxHeartbeats 4000000
/-! set(a list of texts), its length. -/
namespace L2
open PySem PySem.Spec PyProof.Rows
/-- each text once, as it is met -/
def met (f : Nat → Str) (i : Nat) : List Str := ((List.range i).map f).foldl step_dedup []
theorem met_succ (f : Nat → Str) (i : Nat) : met f (i + 1) = step_dedup (met f i) (f i) := by unfold met; rw [List.range_succ, List.map_append, List.foldl_append]; rfl
theorem ded_len (l : List Str) (x : Str) : (step_dedup l x).length = if l.any (· == x) then l.length else l.length + 1 := by unfold step_dedup; split <;> simp
theorem ded_any (l : List Str) (x y : Str) : (step_dedup l x).any (· == y) = (l.any (· == y) || decide (y = x)) := by
  unfold step_dedup
  split
  · rename_i h
    by_cases e : y = x
    · subst e; rw [h]; rfl
    · rw [decide_eq_false e, Bool.or_false]
  · rw [List.any_append]
    congr 1
    by_cases e : y = x
    · subst e; simp
    · have e' : ¬ x = y := fun z => e z.symm
      simp [e, e']
theorem met_le (f : Nat → Str) : ∀ i, (met f i).length ≤ i
  | 0 => by simp [met]
  | i + 1 => by rw [met_succ, ded_len]; have := met_le f i; split <;> omega
theorem upd_loop {P : Program} {w : World} {A : Around} {R : Result → Shared → Prop} {it : Addr} {fp wr : List Addr} {G : Array GenState → Array GenState → Prop} {n : Nat} {Pv : Nat → Value → Prop} {St : Nat → Shared → Prop}
    (W : WalksS P w A.in1 it fp wr G n Pv St) (sa : Addr) (nsa : sa ∉ fp) (f : Nat → Str) (hf : ∀ i v, Pv i v → ∃ t, v = .str (f i) t) (few : n + 1 < scanBound) :
    ∀ (m i : Nat) (s : Shared), n - i = m → i ≤ n → St i s → s.heap.SetOf (strKind P w) sa (fun y => (met f i).any (· == y)) (met f i).length →
      (∀ s', Moved (sa :: wr) G s s' → s'.heap.SetOf (strKind P w) sa (fun y => (met f n).any (· == y)) (met f n).length → R (.ok (.ret .none)) s') → codeAny (model P w) A (.builtin "set.update.loop" ⟨[.ref sa, .ref it], []⟩) R s := by
  have nw : sa ∉ wr := fun z => nsa (W.sub _ z)
  have more : ∀ b ∈ wr, b ∈ sa :: wr := fun b z => List.mem_cons_of_mem _ z
  intro m
  induction m with
  | zero =>
    intro i s e1 e2 st so fin
    obtain rfl : i = n := by omega
    refine codeAny_builtin PyProof.Rows.F.entry_set_update_loop ?_
    rw [Around.under_plainId PyProof.Rows.F.plain_set_update_loop _]
    show wpAny _ A.in1 (pyNext (.ref it) >>= _) _ _ s
    refine wpAny_bind (W.done s _ _ st fun s2 mv => ?_)
    show wpAny _ A.in1 (ret Value.none) _ _ s2
    obtain ⟨o, es, ep, tb, g, rest⟩ := so
    exact wpAny_pure (fin s2 (mv.mono more) ⟨o, es, ep, tb, mv.heap sa _ nw g, rest⟩)
  | succ m ih =>
    intro i s e1 e2 st so fin
    have lt : i < n := by omega
    refine codeAny_builtin PyProof.Rows.F.entry_set_update_loop ?_
    rw [Around.under_plainId PyProof.Rows.F.plain_set_update_loop _]
    show wpAny _ A.in1 (pyNext (.ref it) >>= _) _ _ s
    refine wpAny_bind (W.item i s _ _ lt st fun v s2 pv st2 mv => ?_)
    obtain ⟨tk, rfl⟩ := hf i v pv
    have so2 : s2.heap.SetOf (strKind P w) sa (fun y => (met f i).any (· == y)) (met f i).length := let ⟨o, es, ep, tb, g, rest⟩ := so; ⟨o, es, ep, tb, mv.heap sa _ nw g, rest⟩
    show wpAny _ A.in1 (holding [Value.str (f i) tk] (setAdd sa (.str (f i) tk)) >>= _) _ _ s2
    refine wpAny_bind (wpAny_holding ?_)
    unfold setAdd
    refine wpAny_holding (wpAny_bind ((strKind P w).pyHash (k := f i) (strKind_is P w _ _) ?_))
    have rm : (met f i).length + 1 < scanBound := by have := met_le f i; omega
    refine wpAny_setAddHashed_of (knd := strKind P w) (s := { s2 with toks := s2.toks + 1 }) (strKind_is P w _ _) rfl so2 rm fun h' sb so3 => ?_
    have so4 : h'.SetOf (strKind P w) sa (fun y => (met f (i + 1)).any (· == y)) (met f (i + 1)).length := SetOf_congr so3 (fun y => by rw [met_succ, ded_any]) (by rw [met_succ, ded_len])
    refine wpAny_pure ⟨plainId_quiet PyProof.Rows.F.plain_set_update_loop _, ih (i + 1) _ (by omega) lt (W.frame _ s2 _ _ st2 (Nat.le_succ _) fun b z o g => ?_) so4 fun s3 mv3 so5 => ?_⟩
    · rw [sb.2 b (fun q : b = sa => nsa (by rw [← q]; exact z))]; exact g
    · refine fin s3 (Moved.trans W.gtrans ((mv.mono more).then_heap (Nat.le_succ _) fun b o z g => ?_) mv3) so5
      rw [sb.2 b (fun q : b = sa => z (by rw [q]; exact List.mem_cons_self))]; exact g
/-- the object of a new set, empty -/
abbrev set0 (led : Bool) : Obj := { cls := .type "set", dict := none, data := .set #[] 0 (.fresh 0 0 led) }
theorem call_setS {P : Program} {w : World} {A : Around} {E : Value → Shared → Prop} {s : Shared} {l : Addr} {items : Array Value} {f : Nat → Str} {Q : Value → Shared → Prop} (hh : A.handled = none) (hl : s.heap.IsList l items)
    (hi : ∀ (i : Nat) (v : Value), items[i]? = some v → ∃ t, v = .str (f i) t) (few : items.size + 1 < scanBound)
    (fin : ∀ (h' : Heap) (tk : Nat), h'.SetOf (strKind P w) s.heap.objs.size (fun y => (met f items.size).any (· == y)) (met f items.size).length → (∀ b o, b < s.heap.objs.size → s.heap.get? b = some o → h'.get? b = some o) → Q (.ref s.heap.objs.size) { s with heap := h', toks := tk }) :
    wpAny (model P w) A (call (.type "set") [.ref l]) Q E s := by
  obtain ⟨c, tl, mro⟩ := PySem.F.called_set.mro
  have made := PySem.F.called_set.made
  have sub := PySem.F.called_set.sub
  refine wpAny_call (codeAny_of_tree ?_)
  show wpAny _ _ (callAny (.type "set") _) _ _ _
  refine wpAny_pure ⟨Code.quiet_builtin _ (by decide +kernel), codeAny_builtin PySem.F.entry_type_call ?_⟩
  rw [Around.under_plain (weight_type_call_type "set" [.ref l] []) rfl]
  have k1 := PySem.F.called_set.notType
  have k2 := PySem.F.called_set.canCreate
  have k3 := PySem.F.typeCall_set_1 (.ref l)
  repeat (any_goals (first | assumption | wp_step))
  refine codeAny_mono (code_set_new_1 (.ref l) (E := E) (Q₁ := fun obj s1 => ∃ led : Bool, obj = .ref s.heap.objs.size ∧ s1 = { s with heap := s.heap.push (set0 led) }) fun led => ⟨led, rfl, rfl⟩) fun r s1 hr => ?_
  cases r with
  | error e => exact hr
  | ok fl =>
    cases fl with
    | ret obj =>
      obtain ⟨led, rfl, rfl⟩ := hr
      have g0 : (s.heap.push (set0 led)).get? s.heap.objs.size = some (set0 led) := Heap.get?_push_size _ rfl
      have ty : Shared.TypeIs { s with heap := s.heap.push (set0 led) } (.ref s.heap.objs.size) "set" := ⟨_, g0, rfl⟩
      have k4 := PySem.F.called_set.init.lookup
      have k5 := PySem.F.called_set.init.bind (.ref s.heap.objs.size)
      repeat (any_goals (first | assumption | wp_step))
      refine codeAny_mono (codeAny_call_builtin (R := wants (fun r s2 => r = .none ∧ ∃ h' tk, s2 = { s with heap := h', toks := tk } ∧ h'.SetOf (strKind P w) s.heap.objs.size (fun y => (met f items.size).any (· == y)) (met f items.size).length ∧
          (∀ b o, b < s.heap.objs.size → s.heap.get? b = some o → h'.get? b = some o)) E) PySem.F.called_set.init.plain PySem.F.entry_set_init (check_set_init_1 ty ?_)) fun r2 s2 hr2 => ?_
      · obtain ⟨ol, g1, g2, nl, g3⟩ := hl
        obtain ⟨oc, od, ob, os⟩ := ol
        simp only at g2 g3
        subst g2; subst g3
        have g4 : (s.heap.push (set0 led)).get? l = some { cls := .type "list", dict := od, data := .seq items nl, slots := os } := Heap.get?_push_of_some _ g1
        have m1 := PySem.F.sub_list_set
        have m2 := PySem.F.sub_list_frozenset
        have m3 : (Value.type "list" == Value.type "dict") = false := by decide
        have il : (s.heap.push (set0 led)).IsList l items := ⟨_, g4, rfl, nl, rfl⟩
        unfold Builtin.«set.__init__» noKeywords Builtin.Frozenset.updateFrom
        generalize hPI : pyIter = PI
        wp_walk
        subst hPI
        refine wpAny_pyIter_list il (wpAny_bind (wpAny_runValue ?_))
        have ll : l < s.heap.objs.size := Heap.lt_size g1
        have h3 : A.in1.in1.in1.handled = none := by simp [hh]
        have n1 : l ≠ (s.heap.push (set0 led)).objs.size := by rw [Heap.size_push]; exact Nat.ne_of_lt (Nat.lt_succ_of_lt ll)
        have n2 : s.heap.objs.size ∉ [(s.heap.push (set0 led)).objs.size, l] := by rw [Heap.size_push]; simp only [List.mem_cons, List.mem_singleton, List.not_mem_nil, or_false, not_or]; exact ⟨Nat.ne_of_lt (Nat.lt_succ_self _), Nat.ne_of_gt ll⟩
        refine upd_loop ((Walks.list h3 _ l n1 items).toS) s.heap.objs.size n2 f hi few (items.size - 0) 0 _ (by omega) (Nat.zero_le _) ⟨⟨_, Heap.get?_push_size _ rfl, rfl, rfl⟩, (il.push _)⟩ ?so ?fi
        case so => exact SetOf_congr ((setObjOf_fresh (knd := strKind P w) led).setOf (Heap.get?_push_of_some _ g0) (by unfold scanBound; omega)) (fun _ => rfl) rfl
        case fi =>
          intro s' mv so
          obtain ⟨h', g', d', tk', os'⟩ := s'
          obtain rfl : g' = s.gens := mv.gens
          obtain rfl : d' = s.drawn := mv.drawn
          obtain rfl : os' = s.os := mv.os
          show wpAny _ _ _ _ _ _
          refine wpAny_pure ?_
          show wpAny _ _ (ret Value.none) _ _ _
          refine wpAny_pure ⟨rfl, h', tk', rfl, so, fun b o z g => ?_⟩
          have z1 : b ≠ s.heap.objs.size := Nat.ne_of_lt z
          have z2 : b ≠ (s.heap.push (set0 led)).objs.size := by rw [Heap.size_push]; exact Nat.ne_of_lt (Nat.lt_succ_of_lt z)
          exact mv.heap b o (by simp only [List.mem_cons, List.mem_singleton, List.not_mem_nil, or_false, not_or]; exact ⟨z1, z2⟩) (Heap.get?_push_of_some _ (Heap.get?_push_of_some _ g))
      · cases r2 with
        | error e => exact hr2
        | ok fl2 =>
          cases fl2 with
          | ret r =>
            obtain ⟨rfl, h', tk, rfl, so, kp⟩ := hr2
            repeat (any_goals (first | assumption | wp_step))
            exact fin _ _ so kp
          | _ => exact hr2.elim
    | _ => exact hr.elim
/-- a set of so many -/
def setN (a : Addr) (n : Nat) (h : Heap) : Prop := ∃ o es ep t, h.get? a = some o ∧ o.ExactSet ∧ o.data = .set es ep t ∧ t.fits es.size = true ∧ es.size = n
section
variable {X : Cx}
theorem strs_at : ∀ {zs : List Str} {us : List Value} (i : Nat) (v : Value), Vals (zs.map V.str) us → us[i]? = some v → ∃ t, v = .str (zs.getD i "") t
  | [], us, i, v, h, e => by cases h; simp at e
  | z :: zs, us, i, v, h, e => by
    cases h with
    | cons r t =>
      obtain ⟨tk, rfl⟩ := r
      cases i with
      | zero =>
        have e' : Value.str z tk = v := by simpa using e
        exact ⟨tk, e'.symm⟩
      | succ i =>
        obtain ⟨t', e'⟩ := strs_at (zs := zs) i v t (by simpa using e)
        exact ⟨t', by simpa using e'⟩
def dedN (zs : List Str) : Nat := (met (fun i => zs.getD i "") zs.length).length
theorem call_setT (hc : X.calm = true) : CallR X (.type "set") (fun xs H Q => ∃ (l : Addr) (zs : List Str), xs = [.ref l] ∧ SqL X.K H l (zs.map V.str) ∧ zs.length ≤ 100 ∧ ∀ p, H p = none → Q (.ref p) (upd H p (.ext (setN p (dedN zs))))) := by
  intro pins s σ H xs us Q I r h
  obtain ⟨l, zs, rfl, hq, hz, q⟩ := h
  obtain ⟨u, rfl, ru⟩ := vals1 r
  cases ru
  obtain ⟨its, rv, p, _⟩ := I.list hq
  have lr := rv.length
  rw [List.length_map] at lr
  refine call_setS (f := fun i => zs.getD i "") (I.ok.hd hc) p.isList (fun i v e => strs_at i v rv (by simpa using e)) (by unfold scanBound; simp; omega) fun h' tk so kp => ?_
  have so' : setN s.heap.objs.size (dedN zs) h' := by
    obtain ⟨o, es, ep, t, a1, a2, a3, _, _, _, a4, a5⟩ := so
    refine ⟨o, es, ep, t, a1, a2, a3, a4, ?_⟩
    rw [a5]
    unfold dedN
    rw [lr]
    simp
  refine ⟨.ref s.heap.objs.size, _, I.laid (t' := tk) (fun b o e => kp b o (Heap.lt_size e) e) (Nat.le_refl _) (show ObjOk X.prog X.w _ h' _ (.ext (setN s.heap.objs.size (dedN zs))) from ⟨so', ?_, fun h1 h2 z k => ?_⟩), rfl, q _ (I.hok.fresh (Nat.le_refl _))⟩
  · obtain ⟨o, _, _, _, a1, _⟩ := so'
    exact ⟨o, a1⟩
  · obtain ⟨o, es, ep, t, a1, rest⟩ := z
    exact ⟨o, es, ep, t, k _ a1, rest⟩
theorem call_lenSet : CallR X (.builtin "len") (fun xs H Q => ∃ (p : Addr) (n : Nat), xs = [.ref p] ∧ H p = some (.ext (setN p n)) ∧ n ≤ 1000 ∧ Q (.int n) H) := by
  intro pins s σ H xs us Q I r h
  obtain ⟨p, n, rfl, hp, hn, q⟩ := h
  obtain ⟨u, rfl, ru⟩ := vals1 r
  cases ru
  obtain ⟨⟨o, es, ep, t, a1, a2, a3, a4, a5⟩, _⟩ := (show ObjOk X.prog X.w H s.heap p (.ext (setN p n)) from I.hok p _ hp)
  subst a5
  exact call_len_set a1 a2 a3 a4 (by omega) ⟨.int (es.size : Nat), H, I.tok _, ⟨_, rfl⟩, q⟩
end
end L2
end
section
set_option Elab.async false
set_option linter.all false
set_option maxRecDepth 100000
set_option maxHeartbeats 4000000
/-! LISTS OF DATA AS ARGUMENTS: a list that stays as it is, read; what is made of it. -/
namespace L2
open PySem PySem.Spec PyProof.Rows
theorem Same.aLst {K : PySem.W.Frag} {H H' : Hp} {a : Addr} {xs : List V} (e : Same H H') (h : aLst K H a xs) : aLst K H' a xs := h.elim (fun z => .inl (e _ _ z)) .inr
/-- v is a list of these data -/
def LD (K : PySem.W.Frag) (H : Hp) (ds : List D) (v : V) : Prop := ∃ a vs, v = .ref a ∧ aLst K H a vs ∧ Dats K H ds vs
theorem Same.ld {K : PySem.W.Frag} {H H' : Hp} {ds : List D} {v : V} (e : Same H H') (h : LD K H ds v) : LD K H' ds v := by
  obtain ⟨a, vs, e1, h1, h2⟩ := h
  exact ⟨a, vs, e1, e.aLst h1, e.dats h2⟩
theorem LD.lst {K : PySem.W.Frag} {H : Hp} {ds : List D} {v : V} (h : LD K H ds v) : Dat K H .lst v := by
  obtain ⟨a, vs, rfl, h1, _⟩ := h
  exact Dat.lstI h1.sqL
theorem LD.of {K : PySem.W.Frag} {H : Hp} {ds : List D} {a : Addr} {vs : List V} (h : H a = some (.lst vs)) (hd : Dats K H ds vs) : LD K H ds (.ref a) := ⟨a, vs, rfl, .inl h, hd⟩
/-- an argument: data, or a list of data -/
inductive Ar where
  | d (x : D)
  | l (ds : List D)
def ArI (K : PySem.W.Frag) (H : Hp) : Ar → V → Prop
  | .d x, v => Dat K H x v
  | .l ds, v => LD K H ds v
inductive Ars (K : PySem.W.Frag) (H : Hp) : List Ar → List V → Prop
  | nil : Ars K H [] []
  | cons {a v as vs} : ArI K H a v → Ars K H as vs → Ars K H (a :: as) (v :: vs)
theorem Same.ari {K : PySem.W.Frag} {H H' : Hp} {a : Ar} {v : V} (e : Same H H') (h : ArI K H a v) : ArI K H' a v := by
  cases a with
  | d x => exact e.dat h
  | l ds => exact e.ld h
theorem Ars.length {K : PySem.W.Frag} {H : Hp} {as : List Ar} {vs : List V} (h : Ars K H as vs) : as.length = vs.length := by
  induction h with
  | nil => rfl
  | cons _ _ ih => simp [ih]
theorem ars1 {K : PySem.W.Frag} {H : Hp} {a : Ar} {vs : List V} (h : Ars K H [a] vs) : ∃ u, vs = [u] ∧ ArI K H a u := by
  cases h with
  | cons h1 h2 => cases h2; exact ⟨_, rfl, h1⟩
/-- a def upon such arguments that changes nothing: its answer is data; a new list of data -/
def spA (K : PySem.W.Frag) (R : List Ar → D → Prop) : Sp := fun vs H Q _ => ∃ as d, Ars K H as vs ∧ R as d ∧ ∀ v H', Same H H' → Dat K H' d v → Q v H'
def RL (K : PySem.W.Frag) (t : TE) (σ : St) (H : Hp) (ds : List D) : Prop := ∀ H1, Same H H1 → ∀ Q : VK, (∀ v H', Same H1 H' → LD K H' ds v → Q v H') → t σ H1 Q
def RB (K : PySem.W.Frag) (t : TA) (σ : St) (H : Hp) (as : List Ar) : Prop := ∀ H1, Same H H1 → ∀ Q : List V → Hp → Prop, (∀ vs H', Same H1 H' → Ars K H' as vs → Q vs H') → t σ H1 Q
section
variable {K : PySem.W.Frag} {σ : St} {H H' : Hp} {d d' : D} {ds es : List D} {t u ta tb te tl : TE} {tt uu : TT} {tA : TA} {i j : Int} {b c : Bool} {mk : St → St} {jj : Nat} {ar : List Ar}
theorem RL.mono (h : RL K t σ H es) (e : Same H H') : RL K t σ H' es := fun H1 s Q q => h H1 (e.trans s) Q q
theorem RL.use {Q : VK} (h : RL K t σ H es) (q : ∀ v H', Same H H' → LD K H' es v → Q v H') : t σ H Q := h H (Same.refl H) Q q
theorem RB.use {Q : List V → Hp → Prop} (h : RB K tA σ H ar) (q : ∀ vs H', Same H H' → Ars K H' ar vs → Q vs H') : tA σ H Q := h H (Same.refl H) Q q
theorem rb_nil : RB K tNil σ H [] := fun H1 _ Q q => q _ _ (Same.refl _) .nil
theorem rb_d (h : RE K t σ H d) (r : RB K tA σ H ar) : RB K (tCons t tA) σ H (.d d :: ar) := fun H1 s Q q =>
  h H1 s _ fun v H2 s2 q2 => r H2 (s.trans s2) _ fun vs H3 s3 q3 => q _ _ (s2.trans s3) (.cons (s3.ari (a := .d d) q2) q3)
theorem rb_l (h : RL K t σ H ds) (r : RB K tA σ H ar) : RB K (tCons t tA) σ H (.l ds :: ar) := fun H1 s Q q =>
  h H1 s _ fun v H2 s2 q2 => r H2 (s.trans s2) _ fun vs H3 s3 q3 => q _ _ (s2.trans s3) (.cons (s3.ari (a := .l ds) q2) q3)
theorem rl_var {k : Nat} {v : V} (h : LD K H ds v) (e : σ[k]? = some (some v) := by rfl) : RL K (tVar k) σ H ds := fun H1 s Q q => ⟨v, e, q _ _ (Same.refl _) (s.ld h)⟩
theorem rl_of (h : RC K t σ H es) : RL K t σ H es := fun H1 s Q q => h H1 s _ fun l ys H' _ s' hy hd => q _ _ s' (LD.of hy hd)
theorem rl_con {a : Addr} (h : lstKOk K ds a = true) : RL K (tC (.ref a)) σ H ds := fun H1 _ Q q => by
  obtain ⟨vs, h1, h2⟩ := lstKOk_sound h H1
  exact q _ _ (Same.refl _) ⟨a, vs, rfl, .inr h1, h2⟩
theorem re_callA {R : List Ar → D → Prop} {E : XK} (h : RB K tA σ H ar) (e : R ar d) : RE K (tCall (spA K R) [] E tA) σ H d := fun H1 s Q q =>
  h H1 s _ fun vs H2 s2 q2 => ⟨ar, d, by rw [List.append_nil]; exact q2, e, fun v H3 s3 q3 => q _ _ (s2.trans s3) q3⟩
/-! ### uses of a list -/
theorem re_ixL {k : Nat} (h1 : RL K ta σ H ds) (h2 : RE K tb σ H (.int k)) (e : ds[k]? = some d) : RE K (tOp (rIxL K) ta tb) σ H d := fun H1 s Q q =>
  h1 H1 s _ fun v H2 s2 q2 => h2 H2 (s.trans s2) _ fun w H3 s3 q3 => by
    obtain ⟨a, vs, ev, hq, hd⟩ := s3.ld q2
    obtain ⟨x, ex, hx⟩ := hd.get e
    exact ⟨a, vs, k, x, ev, q3.intE, hq.sqL, atI_nat ex, q _ _ (s2.trans s3) hx⟩
theorem re_lenL (h : RL K t σ H es) : RE K (tCB (fun xs H Q => ∃ p ys, xs = [.ref p] ∧ (SqL K H p ys ∨ SqT K H p ys) ∧ Q (.int ys.length) H) (tCons t tNil)) σ H (.int es.length) := fun H1 s Q q =>
  r_cb1 ((h.mono s).use fun v H' s' hd => by
    obtain ⟨l, ys, rfl, hy, hd⟩ := hd
    exact ⟨l, ys, rfl, .inl hy.sqL, by rw [← hd.length]; exact q _ _ s' (Dat.intI _)⟩)
/-- [.. for x in a list] -/
theorem rc_listL {cs : List D} (h : RL K tl σ H cs) (hc : cs.length ≤ 1000) (es : List D) (hl : es.length = cs.length) (h0 : (mk σ).set jj none = mk σ)
    (turn : ∀ H1 (i : Nat) c v d, Same H H1 → cs[i]? = some c → es[i]? = some d → Dat K H1 c v → RE K te ((mk σ).set jj (some v)) H1 d) : RC K (tComp (iList K tl) mk (gName jj) tTrue te) σ H es := fun H1 s Q q => by
  refine (h.mono s).use fun v4 H4 s4 q4 => ?_
  obtain ⟨l4, ys4, rfl, hy4, hd4⟩ := q4
  have ll := hd4.length
  refine ⟨l4, rfl, ⟨ys4, hy4.sqL⟩, ?_⟩
  refine comp_pure (K := K) (Q := Q) (n := ys4.length) (item := fun i => ys4.getD i .non) (fun i H' s hi => go_lst i H' (s.seq hy4.sqL) hi) (fun H' s => ⟨ys4, s.seq hy4.sqL, Nat.le_refl _⟩) h0 es (by omega) (by omega) (fun i d hi => ?_) (fun l ys H5 hl5 s5 => q l ys H5 (s4.free hl5) (s4.trans s5))
  have hi' : i < es.length := (List.getElem?_eq_some_iff.mp hi).1
  have hic : i < cs.length := by omega
  obtain ⟨vz, ez, hz⟩ := hd4.get (List.getElem?_eq_getElem hic)
  have q := turn H4 i cs[i] vz d (s.trans s4) (List.getElem?_eq_getElem hic) hi hz
  rw [List.getD_eq_getElem?_getD, ez]
  exact q
/-- list(a list) -/
theorem rc_listofL (h : RL K t σ H es) : RC K (tCB (fun xs H Q => ∃ p ys, xs = [.ref p] ∧ (SqL K H p ys ∨ SqT K H p ys) ∧ ∀ l, H l = none → Q (.ref l) (upd H l (.lst ys))) (tCons t tNil)) σ H es := fun H1 s Q q =>
  r_cb1 ((h.mono s).use fun v H' s' hd => by
    obtain ⟨p, ys, rfl, hy, hd⟩ := hd
    exact ⟨p, ys, rfl, .inl hy.sqL, fun l hl => q l ys _ (s'.free hl) (s'.trans (same_new hl _)) upd_same ((same_new hl _).dats hd)⟩)
/-- a list and another -/
theorem rc_catK (h1 : RL K ta σ H ds) (h2 : RL K tb σ H es) (hl : ds.length + es.length ≤ 1000) : RC K (tOp (rCatK K) ta tb) σ H (ds ++ es) := fun H1 s Q q =>
  h1 H1 s _ fun v H2 s2 q2 => h2 H2 (s.trans s2) _ fun w H3 s3 q3 => by
    obtain ⟨a, xs, rfl, ha, da⟩ := s3.ld q2
    obtain ⟨b, ys, rfl, hb, db⟩ := q3
    have l1 := da.length
    have l2 := db.length
    exact ⟨a, b, xs, ys, rfl, rfl, ha, hb, by omega, fun p hp => q p _ _ ((s2.trans s3).free hp) (s2.trans (s3.trans (same_new hp _))) upd_same ((same_new hp _).dats (Dats.append da db))⟩
/-- xs[:n] -/
theorem cut_to {vs : List V} {n : Nat} : cutV vs none (some (n : Int)) = vs.take n := by
  unfold cutV
  rw [HT.sIx_nat, HT.sIx_none]
  simp only [List.drop_zero, Nat.sub_zero]
  apply List.ext_getElem?
  intro i
  simp only [List.getElem?_take]
  by_cases h1 : i < n
  · rw [if_pos h1]
    by_cases h2 : i < min n vs.length
    · rw [if_pos h2]
    · rw [if_neg h2, List.getElem?_eq_none (by omega)]
  · rw [if_neg h1, if_neg (by omega)]
theorem rc_cutTo {n : Nat} (h : RL K t σ H ds) (h2 : RE K tb σ H (.int n)) : RC K (tSl (rSlL K) t tNoPart (tPart tb)) σ H (ds.take n) := fun H1 s Q q =>
  h H1 s _ fun v H2 s2 q2 => h2 H2 (s.trans s2) _ fun v4 H4 s4 q4 => ⟨n, q4.intE, by
    obtain ⟨a, vs, rfl, hq, hds⟩ := s4.ld q2
    refine ⟨a, vs, rfl, hq.sqL, fun p hp => ?_⟩
    rw [cut_to]
    exact q p _ _ ((s2.trans s4).free hp) (s2.trans (s4.trans (same_new hp _))) upd_same ((same_new hp _).dats (Dats.takeN hds))⟩
end
/-! ### xs[::-1] -/
section
variable {K : PySem.W.Frag} {σ : St} {H H' : Hp} {d d' : D} {ds es : List D} {t u ta tb te tl : TE}
/-- len(set(texts)) -/
theorem re_lenSet {zs : List Str} (h : RC K t σ H (zs.map D.str)) (hz : zs.length ≤ 100) : RE K (tCB (fun xs H Q => ∃ (p : Addr) (n : Nat), xs = [.ref p] ∧ H p = some (.ext (setN p n)) ∧ n ≤ 1000 ∧ Q (.int n) H)
    (tCons (tCB (fun xs H Q => ∃ (l : Addr) (zs : List Str), xs = [.ref l] ∧ SqL K H l (zs.map V.str) ∧ zs.length ≤ 100 ∧ ∀ p, H p = none → Q (.ref p) (upd H p (.ext (setN p (dedN zs))))) (tCons t tNil)) tNil)) σ H (.int (dedN zs)) := fun H1 s Q q =>
  r_cb1 (r_cb1 ((h.mono s).use fun l ys H2 _ s2 hy hd => by
    refine ⟨l, zs, rfl, by rw [← datSs hd]; exact SqL.of hy, hz, fun p hp => ⟨p, dedN zs, rfl, upd_same, ?_, q _ _ (s2.trans (same_new hp _)) (Dat.intI _)⟩⟩
    have := met_le (fun i => zs.getD i "") zs.length
    unfold dedN
    omega))
theorem ded_iff (zs : List Str) : ∀ i, i ≤ zs.length → ((∀ y, (met (fun i => zs.getD i "") i).any (· == y) = decide (y ∈ zs.take i)) ∧ ((met (fun i => zs.getD i "") i).length = i ↔ (zs.take i).Nodup))
  | 0, _ => ⟨fun y => by simp [met], by simp [met]⟩
  | i + 1, h => by
    obtain ⟨i1, i2⟩ := ded_iff zs i (by omega)
    have hle := met_le (fun i => zs.getD i "") i
    have hi : i < zs.length := h
    have et : zs.take (i + 1) = zs.take i ++ [zs[i]] := by rw [List.take_add_one, List.getElem?_eq_getElem hi]; rfl
    have eg : zs.getD i "" = zs[i] := by rw [List.getD_eq_getElem?_getD, List.getElem?_eq_getElem hi]; rfl
    refine ⟨fun y => ?_, ?_⟩
    · rw [met_succ, ded_any, i1, et]
      simp only [eg, List.mem_append, List.mem_singleton]
      by_cases h1 : y ∈ zs.take i <;> by_cases h2 : y = zs[i] <;> simp [h1, h2]
    · rw [met_succ, ded_len, i1, et]
      simp only [eg]
      rw [List.nodup_append]
      by_cases hm : zs[i] ∈ zs.take i
      · rw [if_pos (decide_eq_true hm)]
        constructor
        · intro z; omega
        · rintro ⟨_, _, z⟩
          exact absurd rfl (z _ hm _ (List.mem_singleton.mpr rfl))
      · rw [if_neg (by simpa using hm)]
        constructor
        · intro z
          refine ⟨i2.mp (by omega), by simp, ?_⟩
          rintro a ha b hb rfl
          rw [List.mem_singleton.mp hb] at ha
          exact hm ha
        · rintro ⟨z, _⟩
          have := i2.mpr z
          omega
theorem dedN_eq (zs : List Str) : dedN zs = zs.length ↔ zs.Nodup := by
  have h := (ded_iff zs zs.length (Nat.le_refl _)).2
  rw [List.take_length] at h
  exact h
end
/-! ### xs.index(y) of a list in a name -/
section
variable {X : Cx}
end
section
variable {K : PySem.W.Frag} {σ : St} {H : Hp} {te : TE}
end
/-- a comprehension over so many items, with a test that may change something -/
theorem comp_itemsF {J : It} {n : Nat} {item : Nat → V} {j : Nat} {tt : TT} {te : TE} {σ0 : St} {H1 : Hp} {Q : VK} (Ok : Hp → Prop)
    (go : ∀ i H', Ok H' → i < n → J.go i H' ∧ ∀ x H'', J.yld i H' x H'' → H'' = H' ∧ x = item i) (stop : ∀ H', Ok H' → J.stop n H') (h0 : σ0.set j none = σ0)
    (D : Addr) (Pn : Nat → Hp → Prop) (p0 : Pn 0 (upd H1 D (.lst []))) (ok : ∀ i H', i ≤ n → Pn i H' → Ok H')
    (turn : ∀ i H', i < n → Pn i H' → tt (σ0.set j (some (item i))) H' fun b H3 => if b = true then te (σ0.set j (some (item i))) H3 fun v H4 => ∃ ys, H4 D = some (.lst ys) ∧ ys.length < sizeLine ∧ (∃ z, σ0.set j (some (item i)) = σ0.set j z) ∧ Pn (i + 1) (upd H4 D (.lst (ys ++ [v]))) else (∃ z, σ0.set j (some (item i)) = σ0.set j z) ∧ Pn (i + 1) H3)
    (fin : ∀ H', Pn n H' → Q (.ref D) H') :
    ∃ W : Nat → Nat → St → Hp → Prop, (∃ m, W 0 m σ0 (upd H1 D (.lst []))) ∧ ∀ i m σ' H', W i m σ' H' →
      (J.stop i H' ∧ Q (.ref D) H') ∨
      (J.go i H' ∧ ∃ Nx : St → Hp → Prop, (∀ σ'' H'', Nx σ'' H'' → ∃ m', m' < m ∧ W (i + 1) m' σ'' H'') ∧ ∀ x H'', J.yld i H' x H'' → gName j x σ' H'' fun σ2 H2 => tt σ2 H2 fun b H3 =>
        if b = true then te σ2 H3 fun v H4 => ∃ ys, H4 D = some (.lst ys) ∧ ys.length < sizeLine ∧ Nx σ2 (upd H4 D (.lst (ys ++ [v]))) else Nx σ2 H3) := by
  refine ⟨fun i m σ' H' => m = n - i ∧ i ≤ n ∧ (∃ z, σ' = σ0.set j z) ∧ Pn i H', ⟨n, by omega, Nat.zero_le _, ⟨none, h0.symm⟩, p0⟩, ?_⟩
  rintro i m σ' H' ⟨rfl, hi, ⟨z, rfl⟩, p⟩
  have o := ok i H' hi p
  by_cases hlt : i < n
  · obtain ⟨g, y⟩ := go i H' o hlt
    refine .inr ⟨g, fun σ'' H'' => (∃ z, σ'' = σ0.set j z) ∧ Pn (i + 1) H'', fun σ'' H'' q => ⟨n - (i + 1), by omega, rfl, hlt, q.1, q.2⟩, fun x H'' yx => ?_⟩
    obtain ⟨e1, e2⟩ := y x H'' yx
    subst e1 e2
    simp only [gName, set_set_none]
    exact turn i _ hlt p
  · have e : i = n := by omega
    subst e
    exact .inl ⟨stop H' o, fin H' p⟩
/-! ### equality of data, by rows -/
/-- a comprehension over a new list, with a test that may change something -/
theorem rcomp_listF {K : PySem.W.Frag} {tl te : TE} {tt : TT} {mk : St → St} {j : Nat} {σ : St} {H : Hp} {Q : VK} (M : Addr → List V → Hp → Prop) (h : ∀ R : VK, (∀ r us H1, H1 r = some (.lst us) → M r us H1 → R (.ref r) H1) → tl σ H R) (h0 : (mk σ).set j none = mk σ)
    (body : ∀ r us H1 l, H1 r = some (.lst us) → M r us H1 → H1 l = none → ∃ Pn : Nat → Hp → Prop, Pn 0 (upd H1 l (.lst [])) ∧ (∀ i G, i ≤ us.length → Pn i G → SqL K G r us) ∧
      (∀ i G, i < us.length → Pn i G → tt ((mk σ).set j (some (us.getD i .non))) G fun b H3 => if b = true then te ((mk σ).set j (some (us.getD i .non))) H3 fun v H4 => ∃ ys, H4 l = some (.lst ys) ∧ ys.length < sizeLine ∧ (∃ z, (mk σ).set j (some (us.getD i .non)) = (mk σ).set j z) ∧ Pn (i + 1) (upd H4 l (.lst (ys ++ [v]))) else (∃ z, (mk σ).set j (some (us.getD i .non)) = (mk σ).set j z) ∧ Pn (i + 1) H3) ∧
      ∀ G, Pn us.length G → Q (.ref l) G) : tComp (iList K tl) mk (gName j) tt te σ H Q := by
  refine h _ fun r us H1 hr hM => ⟨r, rfl, ⟨us, SqL.of hr⟩, fun l hl => ?_⟩
  obtain ⟨Pn, b1, b2, b3, b4⟩ := body r us H1 l hr hM hl
  exact comp_itemsF (J := Itl K r) (n := us.length) (item := fun i => us.getD i .non) (fun G => SqL K G r us) (fun i G o hi => go_lst i G o hi) (fun G o => ⟨us, o, Nat.le_refl _⟩) h0 l Pn b1 b2 b3 b4
end L2
end
section
set_option Elab.async false
set_option linter.all false
set_option maxRecDepth 100000
set_option maxHeartbeats 4000000
/-! THE RUN OF THE TEXT AT ONCE, upon a tree of objects: no written states, no twins. -/
namespace LT
open PySem PySem.W PyProof.Rows
/-- so many steps upon a tree, by the library's quick words -/
noncomputable def ran (p : Program) (w : World) (n₀ : Nat) (ann : Option Value) : Nat → SharedT → Thread → Option SharedT
  | 0, _, _ => none
  | k + 1, s, t => bif through t then some s else bif Fast.tw6613529449190102663 n₀ ann t then
      (Fast.tw10156331382660048174 (Fast.tw11892475500146522536 Fast.tw14364793385576792824) p w s t).bind fun x => ran p w n₀ ann k x.1 x.2
    else none
theorem ran_top {p : Program} {w : World} {n₀ : Nat} {ann : Option Value} (k : Nat) : ∀ {s s' : SharedT} {t : Thread}, ran p w n₀ ann k s t = some s' → topRun treeTable p w n₀ ann k s.abs t = some s'.abs := by
  induction k with
  | zero => intro s s' t h; cases h
  | succ k ih =>
    intro s s' t h
    unfold ran at h
    rw [← Fast.te6613529449190102663, ← Fast.te10156331382660048174, ← Fast.te11892475500146522536, ← Fast.te14364793385576792824] at h
    unfold topRun
    cases c1 : through t
    · cases c2 : stepOk n₀ ann t
      · rw [c1, c2] at h; cases h
      · rw [c1, c2] at h
        obtain ⟨x, hx, hr⟩ := Option.bind_eq_some_iff.mp (show (stepT (denote treeTable) p w s t).bind _ = some s' from h)
        rw [stepT_spec (s' := x.1) (t' := x.2) hx]
        exact ih hr
    · rw [c1] at h
      cases h
      rfl
noncomputable def bootT (P : Params) : BT := ((boot_heap P).objs.toList.foldl (fun (x : BT × Nat) o => (x.1.ins x.2 o, x.2 + 1)) (BT.nil, 0)).1
theorem bootT_ok : ∀ P, absHeap (bootT P) 11 {} = boot_heap P := fun P => by kernel_rfl
noncomputable abbrev boot (P : Params) (os : OsState) : SharedT := ⟨bootT P, 11, {}, #[], boot_drawn, boot_toks, os⟩
theorem boot_abs (P : Params) (os : OsState) : (boot P os).abs = ⟨boot_heap P, #[], boot_drawn, boot_toks, os⟩ := by
  show (⟨absHeap (bootT P) 11 {}, #[], boot_drawn, boot_toks, os⟩ : Shared) = _
  rw [bootT_ok]
/-- what is looked at behind the run -/
noncomputable def seenT (p q : Program) (loose : List Str) (Xt : Shared → Bool) (P : Params) (s : Shared) :=
  (staticsOk (Fast.tw5923862056798008813 p.main.body) (boot_heap P) s.heap && namesBound p s.heap && gensDone s && laidKept (boot_heap P) s.heap, Fast.tw4187177175401517315 q loose (Fast.tw5923862056798008813 p.main.body) Xt true s)
theorem size_ok : ∀ P : Params, ((boot_heap P).isNs mainGlobals && (#[] : Array GenState).size == 0, (boot_heap P).objs.size, (boot_heap P).nsMap mainGlobals "__annotations__") = (true, 11, some (.ref 6)) := fun P => by kernel_rfl
theorem left {p q : Program} {loose : List Str} {Xt : Shared → Bool} {α : Type} {Yf : Shared → α} {Ya : World → α} {N : Nat} (e : opening p = plainProg p.main.scope.names) (hN : Nat.ble 600 N = true) (f : ∀ s, fenceModules? p s = some s)
    (h : ∀ (w : World) (os : OsState), (ran p w 11 (some (.ref 6)) N (boot w.params os) (topStub p)).map (fun s => (seenT p q loose Xt w.params s.abs, Yf s.abs)) = some ((true, openGood q loose), Ya w)) : LeftO p q loose Xt Yf Ya N := fun w => by
  obtain ⟨⟨h0, gs, d, k, os⟩, e, e'⟩ := Option.map_eq_some_iff.mp (boot_open e hN f w)
  obtain ⟨rfl, rfl, rfl, rfl⟩ : h0 = boot_heap w.params ∧ gs = Array.mk [] ∧ d = boot_drawn ∧ k = boot_toks := by simpa using e'
  obtain ⟨s1, hr, hs⟩ := Option.map_eq_some_iff.mp (h w os)
  have r := ran_top N hr
  rw [boot_abs] at r
  obtain ⟨hs, hy⟩ := Prod.mk.inj hs
  unfold seenT at hs
  rw [← Fast.te4187177175401517315, ← Fast.te5923862056798008813] at hs
  obtain ⟨hl, hg⟩ := Prod.mk.inj (show (staticsOk (importedModules p.main.body) (boot_heap w.params) s1.abs.heap && namesBound p s1.abs.heap && gensDone s1.abs && laidKept (boot_heap w.params) s1.abs.heap, openSeen q loose (importedModules p.main.body) Xt true s1.abs) = (true, openGood q loose) from hs)
  obtain ⟨z1, z2, z3⟩ : _ ∧ _ ∧ _ := by simpa only [Prod.mk.injEq] using size_ok w.params
  have t : topFrom treeTable p w N ⟨boot_heap w.params, Array.mk [], boot_drawn, boot_toks, os⟩ = some s1.abs := by
    unfold topFrom
    dsimp only
    rw [z1, z2, z3, r]
    show (match staticsOk (importedModules p.main.body) (boot_heap w.params) s1.abs.heap && namesBound p s1.abs.heap && gensDone s1.abs && laidKept (boot_heap w.params) s1.abs.heap with | true => _ | false => _) = _
    rw [hl]
  unfold openEnds
  rw [e]
  show (topFrom treeTable p w N _).map _ = _
  rw [t]
  exact congrArg some (Prod.ext hg hy)
end LT
end
section
set_option maxRecDepth 100000
namespace L2
open PySem PySem.Spec PyProof.Rows

/-! ### exceptions: how one lies behind a call -/
section
variable {P : Program} {w : World} {H H' : Hp} {h h1 h2 : Heap} {a b T : Addr} {o : HO} {fs : List Addr}
theorem ObjOk.has (x : ObjOk P w H h a o) : ∃ u, h.get? a = some u := by
  cases o with
  | lst xs => obtain ⟨_, _, _, _, e⟩ := x; exact ⟨_, e⟩
  | tup xs => obtain ⟨_, _, _, ob, e, _⟩ := x; exact ⟨ob, e⟩
  | dK kvs => obtain ⟨_, _, _, _, o, _, _, e, _⟩ := x; exact ⟨_, e⟩
  | dT kvs => obtain ⟨_, _, _, _, o, _, _, e, _⟩ := x; exact ⟨_, e⟩
  | set S n => obtain ⟨o, _, _, _, e, _⟩ := x; exact ⟨_, e⟩
  | ins C dx fs => obtain ⟨_, _, _, e, _⟩ := x; exact ⟨_, e⟩
  | own y => exact x
  | xd fs => obtain ⟨_, ⟨_, _, _, e, _⟩, _⟩ := x; exact ⟨_, e⟩
  | rng lo hi => obtain ⟨_, _, _, e⟩ := x; exact ⟨_, e⟩
  | frz ob u => obtain ⟨e, _⟩ := x; exact ⟨_, e⟩
  | tbl ps => exact ⟨_, (show h.get? a = some _ from x)⟩
  | met f y => exact ⟨_, (show h.get? a = some _ from x)⟩
  | ext φ => obtain ⟨_, e, _⟩ := x; exact e
theorem HOk.empty (x : HOk P w H h) (e : h.get? a = none) : H a = none := by
  cases q : H a with
  | none => rfl
  | some u =>
    obtain ⟨v, r⟩ := (x a u q).has
    rw [e] at r; cases r

/-- an exception on its way: its object e, its traceback at T -/
def Trc (h : Heap) (e T : Addr) (cls a0 : Value) : Prop :=
  ∃ oe vs oT ts, h.get? e = some oe ∧ (oe.cls = cls ∧ vs[0]? = some a0) ∧ oe.data = .fields vs ∧ vs[1]? = some (.ref T) ∧ T ≠ e ∧ h.get? T = some oT ∧ oT.data = .fields ts ∧ ts[3]? = some .none

/-- how an exception lies behind a call: it is new, all the rest is as behind a call that answers -/
def CX1 (P : Program) (w : World) : CXT := fun outer H s E e s' =>
  ∃ a T cls a0 H', e = .ref a ∧ s'.os = s.os ∧ AllBare s'.gens ∧ Un (frs outer) [] H H' s.heap s'.heap ∧ HOk P w H' s'.heap ∧
    (s.heap.get? a = none ∧ s.heap.get? T = none ∧ H' a = none ∧ H' T = none) ∧ Trc s'.heap a T cls a0 ∧ E cls none H'

theorem un_on (U : Un fs [] H H' h h1) (ha : h.get? a = none) (hT : h.get? T = none) (k : ∀ b o, h1.get? b = some o → b ≠ a → b ≠ T → b ∉ fs → h2.get? b = some o)
    (sl : ∀ b o, h1.get? b = some o → b ∈ fs → ∃ sl, h2.get? b = some { o with slots := sl }) : Un fs [] H H' h h2 := by
  have na : ∀ b o, h.get? b = some o → b ≠ a := fun b o q z => by rw [z, ha] at q; cases q
  have nT : ∀ b o, h.get? b = some o → b ≠ T := fun b o q z => by rw [z, hT] at q; cases q
  refine ⟨fun b o q n hb hx => k b o (U.keep b o q n hb hx) (na b o q) (nT b o q) hb, fun b o q n hb hx => ?_, U.free, fun b o q hx => ?_, U.tups, U.frzs, U.tbls⟩
  · obtain ⟨s1, e1⟩ := U.slot b o q n hb hx
    obtain ⟨s2, e2⟩ := sl b _ e1 hb
    exact ⟨s2, e2⟩
  · obtain ⟨o1, e1⟩ := U.there b o q hx
    by_cases hb : b ∈ fs
    · obtain ⟨s2, e2⟩ := sl b _ e1 hb
      exact ⟨_, e2⟩
    · exact ⟨o1, k b o1 e1 (na b o q) (nT b o q) hb⟩
theorem hok_on (O : HOk P w H h1) (ha : H a = none) (hT : H T = none) (hf : ∀ b ∈ fs, H b = none) (k : ∀ b o, h1.get? b = some o → b ≠ a → b ≠ T → b ∉ fs → h2.get? b = some o) : HOk P w H h2 := fun c u e =>
  (O c u e).stay (fun b v hb q => by
    have hn : H b ≠ none := by
      rcases hb with z | z
      · rw [z, e]; exact fun y => nomatch y
      · rw [z]; exact fun y => nomatch y
    exact k b v q (fun z => hn (by rw [z]; exact ha)) (fun z => hn (by rw [z]; exact hT)) fun z => hn (hf b z)) (fun _ q => q) fun _ _ q => q
theorem fly_of {base : Heap} {l : List Env} {cls a0 : Value} (F : h.FunFrames base l) (t : Trc h a T cls a0) : Heap.FlyingW (PySem.W.hideAll h (a :: T :: frs l)) l a cls a0 h := by
  obtain ⟨oe, vs, oT, ts, he, hc, hd, hv, hne, hT, hdT, h3⟩ := t
  exact ⟨fun b o q => PySem.W.of_hideAll _ q, PySem.W.hideAll_none _ (.head _), PySem.W.funFrames_hide F fun env hm b hb => .tail _ (.tail _ (List.mem_filterMap.mpr ⟨env, hm, hb⟩)),
    oe, vs, T, oT, ts, he, hc, hd, hv, PySem.W.hideAll_none _ (.tail _ (.head _)), hne, hT, hdT, h3⟩
theorem fly_back {base : Heap} {l l' : List Env} {cls a0 : Value} (F : h.FunFrames base l) (x : Heap.FlyingW (PySem.W.hideAll h (a :: T :: frs l)) l' a cls a0 h2) (U : h.UpToSlots h2) :
    ∃ T2, Trc h2 a T2 cls a0 ∧ (T2 = T ∨ h.get? T2 = none) ∧ (∀ b o, h.get? b = some o → b ≠ a → b ≠ T → b ∉ frs l → h2.get? b = some o) ∧ (∀ b o, h.get? b = some o → b ∈ frs l → ∃ sl, h2.get? b = some { o with slots := sl }) := by
  obtain ⟨f1, f2, f3, oe, vs, T2, oT, ts, he, hc, hd, hv, hn, hne, hT, hdT, h3⟩ := x
  have sl : ∀ b o, h.get? b = some o → b ∈ frs l → ∃ sl, h2.get? b = some { o with slots := sl } := fun b o q hb => by
    obtain ⟨_, o', ho', hnf⟩ := F.mem hb
    rw [q] at ho'; cases ho'
    exact U b o q hnf
  refine ⟨T2, ⟨oe, vs, oT, ts, he, hc, hd, hv, hne, hT, hdT, h3⟩, ?_, fun b o q n1 n2 n3 => f1 b o (PySem.W.hideAll_get _ q fun z => ?_), sl⟩
  · cases q : h.get? T2 with
    | none => exact .inr rfl
    | some o =>
      refine .inl ?_
      by_cases m : T2 ∈ a :: T :: frs l
      · rcases List.mem_cons.mp m with z | m
        · exact absurd z hne
        · rcases List.mem_cons.mp m with z | m
          · exact z
          · obtain ⟨_, o', ho', hnf⟩ := F.mem m
            rw [q] at ho'; cases ho'
            obtain ⟨s2, e2⟩ := sl T2 o q m
            rw [hT] at e2; cases e2
            exact absurd hdT (hnf ts)
      · rw [PySem.W.hideAll_get _ q m] at hn; cases hn
  · rcases List.mem_cons.mp z with z | z
    · exact n1 z
    · rcases List.mem_cons.mp z with z | z
      · exact n2 z
      · exact n3 z
end

section
variable {X : Cx} {pins : List (Addr × Obj)} {σ : St} {H : Hp} {s s' : Shared} {E : XK} {e : Value}
/-- behind a call that ends with an exception: the body's frame, the way on -/
theorem CX1.behind (I : Inv X pins σ H s) (x : CX1 X.prog X.w X.stack H s E e s') : ∃ a T cls a0 H', e = .ref a ∧ E cls none H' ∧ s.heap.get? a = none ∧ H' a = none ∧ Inv X pins σ H' s' ∧
    Heap.FlyingW (PySem.W.hideAll s'.heap (a :: T :: frs X.stack)) X.stack a cls a0 s'.heap ∧
    ∀ h2 l', Heap.FlyingW (PySem.W.hideAll s'.heap (a :: T :: frs X.stack)) l' a cls a0 h2 → s'.heap.UpToSlots h2 →
      ∃ T2, Inv X pins σ H' { s' with heap := h2 } ∧ Trc h2 a T2 cls a0 ∧ s.heap.get? T2 = none ∧ H' T2 = none ∧ Un (frs X.stack) [] H H' s.heap h2 := by
  obtain ⟨a, T, cls, a0, H', he, os, bare, un, hok, ⟨sa, sT, na, nT⟩, tr, q⟩ := x
  have J : Inv X pins σ H' s' := I.call' (ch := []) os un hok bare (fun b z => absurd z (by simp))
  refine ⟨a, T, cls, a0, H', he, q, sa, na, J, fly_of J.stack tr, fun h2 l' fl up => ?_⟩
  obtain ⟨T2, t2, hT2, k2, sl2⟩ := fly_back J.stack fl up
  have nT2 : H' T2 = none := by
    rcases hT2 with z | z
    · rw [z]; exact nT
    · exact hok.empty z
  have sT2 : s.heap.get? T2 = none := by
    rcases hT2 with z | z
    · rw [z]; exact sT
    · cases q : s.heap.get? T2 with
      | none => rfl
      | some o =>
        obtain ⟨o', r⟩ := un.there T2 o q (by simp)
        rw [z] at r; cases r
  exact ⟨T2, I.call' (s' := { s' with heap := h2 }) (ch := []) os (un_on un sa sT k2 sl2) (hok_on hok na nT J.stkFree k2) bare (fun b z => absurd z (by simp)), t2, sT2, nT2, un_on un sa sT k2 sl2⟩
end

/-! ### raise -/
/-- an exception as it is made: no traceback yet -/
def Fre (h : Heap) (e : Addr) (cls a0 : Value) : Prop := ∃ oe vs, h.get? e = some oe ∧ (oe.cls = cls ∧ vs[0]? = some a0) ∧ oe.data = .fields vs ∧ vs[1]? = some .none
def CXn (P : Program) (w : World) : CXT := fun outer H s E e s' =>
  ∃ a cls a0 H', e = .ref a ∧ s'.os = s.os ∧ AllBare s'.gens ∧ Un (frs outer) [] H H' s.heap s'.heap ∧ HOk P w H' s'.heap ∧
    (s.heap.get? a = none ∧ H' a = none) ∧ Fre s'.heap a cls a0 ∧ E cls none H'
theorem throw1 {P : Program} {w : World} {K : PySem.W.Frag} {mg : Str → Option Value} {base : Heap} {N : List Str} {qual : Str} {scope : Scope} {f : Addr} {cd : Value} {A : Around} {outer : List Env} {s : Shared} {H : Hp} {E : XK} :
    Passes (CXn P w) (cxOf (CX1 P w) P w K mg base N qual scope f cd A outer s H E) E := by
  intro pins σ H1 s1 e s' I x
  obtain ⟨a, cls, a0, H', rfl, os, bare, un, hok, ⟨sa, na⟩, ⟨oe, vs, he, ⟨hc, h0⟩, hd, hv⟩, q⟩ := x
  have J : Inv (cxOf (CX1 P w) P w K mg base N qual scope f cd A outer s H E) pins σ H' s' := I.call' (ch := []) os un hok bare (fun b z => absurd z (by simp))
  subst hc
  refine wpAny_leaving_firstW (base := PySem.W.hideAll s'.heap (a :: a :: frs (envOfC qual scope s.heap.objs.size f cd :: outer))) (L := s.heap.objs.size) (a0 := a0) I.ok.frames
    (PySem.W.funFrames_hide J.stack fun env hm b hb => .tail _ (.tail _ (List.mem_filterMap.mpr ⟨env, hm, hb⟩))) rfl he (fun b o q => PySem.W.of_hideAll _ q) (PySem.W.hideAll_none _ (.head _)) hd hv h0 fun h2 L2 => ?_
  obtain ⟨k1, k2, k3, k4⟩ := L2
  obtain ⟨T2, t2, hT2, kk, sl2⟩ := fly_back (T := a) J.stack (show Heap.FlyingW _ _ a oe.cls a0 h2 from ⟨k1, PySem.W.hideAll_none _ (.head _), k2, k3⟩) k4
  have neT : T2 ≠ a := by obtain ⟨_, _, _, _, _, _, _, _, z, _⟩ := t2; exact z
  have nT : s'.heap.get? T2 = none := hT2.resolve_left neT
  have sT : s1.heap.get? T2 = none := by
    cases q : s1.heap.get? T2 with
    | none => rfl
    | some o =>
      obtain ⟨o', r⟩ := un.there T2 o q (by simp)
      rw [nT] at r; cases r
  have up0 : ∀ b, s1.heap.get? b = none → s.heap.get? b = none := fun b z => by
    cases q : s.heap.get? b with
    | none => rfl
    | some o =>
      obtain ⟨o', r⟩ := I.base.there b o q (by show b ∉ ([] : List Addr); simp)
      rw [z] at r; cases r
  have J2 : Inv (cxOf (CX1 P w) P w K mg base N qual scope f cd A outer s H E) pins σ H' { s' with heap := h2 } :=
    I.call' (s' := { s' with heap := h2 }) (ch := []) os (un_on un sa sa kk sl2) (hok_on hok na na J.stkFree kk) bare (fun b z => absurd z (by simp))
  exact ⟨a, T2, oe.cls, a0, H', rfl, J2.os, J2.bare, J2.base, J2.hok, ⟨up0 a sa, up0 T2 sT, na, hok.empty nT⟩, t2, q⟩

/-- an own exception class of the module, by the fragment: its bases' row, its maker, its own __init__ -/
def excAt (K : PySem.W.Frag) (C : Addr) (bmB : List Value) (newId : String) (ini : Option Value) : Bool := match K.lookup C with
  | some ⟨.type "type", _, .cls cd, slots⟩ => (match cd.mro, slots.toList with
    | .ref C' :: bm, [_, _, _, _, some (.builtin n), _] => C' == C && n == newId && !cd.hasDel && PySem.W.tailIn K bmB bm && PySem.W.nsOkIn K cd.ns && PySem.W.nsIn K cd.ns "__init__" == some ini
    | _, _ => false)
  | _ => false

theorem ns_some_of {K : PySem.W.Frag} {h : Heap} {N : Addr} {mg : Str → Option Value} {n : Str} {v : Value} (X : K.In h) (G : h.Ns N mg) (e : PySem.W.nsIn K N n = some (some v)) : mg n = some v := by
  obtain ⟨o, es, ep, ho, hd, _, hf⟩ := G
  unfold PySem.W.nsIn at e
  split at e
  · rename_i c d es' n' sl q
    have := X _ _ q
    rw [ho] at this
    cases this
    cases hd
    split at e
    · rename_i en he
      rw [← hf]
      unfold nsFind findBy
      rw [← Array.find?_toList, he]
      cases e
      rfl
    · split at e <;> cases e
  · cases e
theorem exc_of {K : PySem.W.Frag} {h : Heap} {C : Addr} {bmB : List Value} {newId : String} {ini : Option Value} (X : K.In h) (q : excAt K C bmB newId ini = true) :
    ∃ bm N nm qn bs hd sn sub ab col dd k0 k1 k2 k3 k5 mN, h.get? C = some (excClassObj nm qn C N bs bm hd sn sub ab col dd k0 k1 k2 k3 k5 newId) ∧ h.Ns N mN ∧ mN "__init__" = ini ∧ OwnTail h bmB bm := by
  unfold excAt at q
  split at q
  · rename_i dd cd sl ho
    split at q
    · rename_i C' bm k0 k1 k2 k3 n k5 hm hs
      rw [Bool.and_eq_true, Bool.and_eq_true, Bool.and_eq_true, Bool.and_eq_true, Bool.and_eq_true] at q
      obtain ⟨⟨⟨⟨⟨e1, e2⟩, hdel⟩, ht⟩, hok⟩, hni⟩ := q
      obtain rfl := beq_iff_eq.mp e1
      obtain rfl := beq_iff_eq.mp e2
      have hni := beq_iff_eq.mp hni
      obtain ⟨cnm, cbs, mro, ns, cqn, chd, csn, csub, cab, ccol, del⟩ := cd
      have hsl : sl.toList.toArray = [k0, k1, k2, k3, some (.builtin n), k5].toArray := by rw [hs]
      rw [Array.toArray_toList] at hsl
      subst hsl
      have hm : mro = .ref C' :: bm := hm
      have hde : del = false := by
        have z : (!del) = true := hdel
        cases del with
        | true => cases z
        | false => rfl
      clear hdel
      subst hm hde
      have hN : h.Ns ns (h.nsMap ns) := .of_isNs (PySem.W.isNs_of_in X hok)
      refine ⟨bm, ns, cnm, cqn, cbs, chd, csn, csub, cab, ccol, dd, k0, k1, k2, k3, k5, _, X _ _ ho, hN, ?_, PySem.W.tail_of_in X ht⟩
      cases ini with
      | none => exact PySem.W.ns_none_of X hN hni
      | some v => exact ns_some_of X hN hni
    · cases q
  · cases q

/-! ### a call whose wish for an exception knows the names' values -/
def PassesS (CX : CXT) (X : Cx) (E : St → XK) : Prop := ∀ (pins : List (Addr × Obj)) (σ : St) (H : Hp) (s : Shared) (e : Value) (s' : Shared), Inv X pins σ H s → CX X.stack H s (E σ) e s' → X.xe e s'
section
variable {X : Cx} {CX : CXT} {k : Nat} {f C : Addr} {fd : FuncData} {ps : List Str} {sp : Sp} {dvs : List V} {ds : List Value} {E : St → XK} {x m : Str} {p pos apos : Pos} {e o : Expr} {es : List Expr} {ta : TE} {t : TA}
theorem run_fnS {pins : List (Addr × Obj)} {σ : St} {H : Hp} {s : Shared} {Q : VK} {us : List Value} {vs : List V} (F : FnOk X.prog X.w X.K X.mg X.base CX k f fd ps sp) (hr : Room k X.A) (hb : Binds X.K fd ps ds) (hd : Vals dvs ds) (hx : PassesS CX X E)
    (I : Inv X pins σ H s) (r : Vals vs us) (h : sp (vs ++ dvs) H Q (E σ)) : wpAny (model X.prog X.w) X.A (call (.ref f) us) (EP X pins σ Q) X.xe s := by
  have r2 : Vals (vs ++ dvs) (us ++ ds) := r.append hd
  have hl : (us ++ ds).length = ps.length := by rw [← r2.length]; exact F.len _ _ _ _ h
  refine wpAny_call (codeAny_mono (F.run X.A X.stack s H ⟨us, []⟩ (us ++ ds) (vs ++ dvs) Q (E σ) hr I.env0 (hb s us I.kIn hl) r2 h) fun r s' hq => ?_)
  cases r with
  | error e => exact hx pins σ H s e s' I hq
  | ok fl =>
    cases fl with
    | ret u => exact I.after hq
    | next => exact False.elim hq
    | brk => exact False.elim hq
    | cont => exact False.elim hq
theorem pe_callS (F : FnOk X.prog X.w X.K X.mg X.base CX k f fd ps sp) (hr : Room k X.A) (hg : Gl X x) (hm : X.mg x = some (.ref f)) (hk : PySem.W.keepIn X.K (.ref f) = true) (hb : Binds X.K fd ps ds) (hd : Vals dvs ds) (hx : PassesS CX X E)
    (ha : PA X (e :: es) t) (hdb : (x == ("__debug__" : Str)) = false := by decide) (he : starEach (e :: es) X.env = (false, eval e X.env) :: starEach es X.env := by rfl) (hpl : (backTo pos (starEach es X.env)).any (·.1) = false := by rfl) :
    PE X (.Call (.Name x p) (e :: es) [] pos) (fun σ => tCall sp dvs (E σ) t σ) := by
  intro pins s σ H Q I h
  refine wpAny_Call_Name_kw (ld_glob I hg hm ?_ hdb)
  refine PySem.W.callWith_K (h₀ := X.base) I.ok.mod.kin hk (thn (ha pos pins s σ H _ I h) fun us s1 ⟨vs, H1, I1, r, q⟩ => ⟨I1.kIn, ?_⟩) he hpl
  exact run_fnS F hr hb hd hx I1 r q
end

/-! ### try .. except C -/
/-- the context of a handler's body -/
def Cx.hand (X : Cx) (e : Value) : Cx := { X with A := X.A.mark (some e), calm := false, xe := fun _ _ => False }
theorem Cx.Ok.hand {X : Cx} {e : Value} (o : X.Ok) : (X.hand e).Ok :=
  ⟨o.mod, o.kind, o.glob, o.blt, o.above, o.inj, o.has, o.cab, (fun z => nomatch z), o.frames, o.stk, o.exf, o.bs, o.bsz, o.noex, o.exfs, o.funs, o.frf⟩
section
variable {X : Cx} {pins pins' : List (Addr × Obj)} {σ : St} {H : Hp} {s : Shared} {xe : Value → Shared → Prop} {e : Value}
theorem Inv.hand (I : Inv X pins σ H s) : Inv (X.hand e) pins σ H s := ⟨I.ok.hand, I.os, I.bare, I.base, I.loc, I.cell, I.free, I.freeC, I.pin, I.hok, I.len⟩
theorem Inv.unhand (o : X.Ok) (I : Inv (X.hand e) pins σ H s) : Inv X pins σ H s := ⟨o, I.os, I.bare, I.base, I.loc, I.cell, I.free, I.freeC, I.pin, I.hok, I.len⟩
theorem Inv.inTry (I : Inv X pins σ H s) : Inv { X with pn := X.pn ++ pins, xe := xe } [] σ H s :=
  ⟨⟨I.ok.mod, I.ok.kind, I.ok.glob, I.ok.blt, I.ok.above, I.ok.inj, I.ok.has, I.ok.cab, I.ok.hd, I.ok.frames, I.ok.stk, I.ok.exf, I.ok.bs, I.ok.bsz, I.ok.noex, I.ok.exfs, I.ok.funs, I.ok.frf⟩, I.os, I.bare, I.base, I.loc, I.cell, I.free, I.freeC,
    fun p hp => I.pin p (by simpa using hp), I.hok, I.len⟩
theorem Inv.outTry (o : X.Ok) (I : Inv { X with pn := X.pn ++ pins, xe := xe } pins' σ H s) : Inv X pins σ H s :=
  ⟨o, I.os, I.bare, I.base, I.loc, I.cell, I.free, I.freeC, fun p hp => I.pin p (List.mem_append_left _ hp), I.hok, I.len⟩
end
theorem ps_try1 {X : Cx} {body : List Stmt} {t : (St → XK) → TS} {th : TS} {x : Str} {C : Value} {np hpos pos : Pos} {b₀ : Stmt} {suite : List Stmt}
    (hb : ∀ (pn : List (Addr × Obj)) (xe : Value → Shared → Prop) (E : St → XK), PassesS (CX1 X.prog X.w) { X with pn := pn, xe := xe } E → PSs { X with pn := pn, xe := xe } body (t E))
    (hg : Gl X x) (hm : X.mg x = some C) (hh : ∀ e : Value, PSs (X.hand e) (b₀ :: suite) th)
    (hst : X.stack = X.env :: X.outer := by rfl) (hfr : X.env.frame = some X.env.locals := by rfl) (hd : (x == ("__debug__" : Str)) = false := by decide) :
    PS X (.Try body [.ExceptHandler (some (.Name x np)) none (b₀ :: suite) hpos] [] [] pos) (fun D σ H => t (fun σ' cls _ H' => PySem.W.exmOne X.K cls C = some true ∧ th D σ' H') D σ H) := by
  intro pins s σ H D I h
  refine wpAny_Try_except (wpAny_mono (hb (X.pn ++ pins) (fun e s₁ => wpAny (model X.prog X.w) X.A (noteFrame e X.env) (fun _ s₂ => wpAny (model X.prog X.w) X.A (setFlight e none) (fun _ s₃ =>
    wpAny (model X.prog X.w) X.A (handleBy e X.env [.ExceptHandler (some (.Name x np)) none (b₀ :: suite) hpos]) (SP X pins D) X.xe s₃) X.xe s₂) X.xe s₁) _ ?_ [] s σ H D I.inTry h) (fun f s1 hf => ?_) fun e s1 z => z)
  · intro pins' σ' H1 s1 e s2 I1 x1
    obtain ⟨a, T, cls, a0, H', rfl, ⟨hx, q⟩, sa, na, J, fl, back⟩ := CX1.behind I1 x1
    have ok := I.ok
    have fr : X.A.frames = some (X.env :: X.outer) := by rw [← hst]; exact ok.frames
    refine wpAny_looks_onW fr hfr (by rw [← hst]; exact fl) fun h4 held up4 => wpAny_landsW held fun h5 fl5 up5 => ?_
    obtain ⟨T5, J5, t5, sT5, nT5, _⟩ := back h5 _ fl5 (up4.trans up5)
    have I5 : Inv X pins σ' H' { s2 with heap := h5 } := J5.outTry ok
    have LT : PySem.W.Looks (model X.prog X.w) h5 (typeOf (.ref a)) cls := by
      obtain ⟨oe, vs, oT, ts, he, ⟨hc, _⟩, _⟩ := t5
      rw [← hc]
      exact (PySem.W.Looks.ld he).andThen .now
    refine wpAny_handleBy_cons (codeAny_handlers_test (ld_glob (X := X.hand (.ref a)) I5.hand hg hm ?_ hd)) (by intro q; cases q)
    refine (PySem.W.exm_one I5.kIn LT hx).here ?_
    refine codeAny_handlers_suite (lands_againW fl5 fun h6 fl6 up6 => ?_)
    obtain ⟨T6, J6, _, _, _, _⟩ := back h6 _ fl6 ((up4.trans up5).trans up6)
    refine wpAny_mono (hh (.ref a) pins _ σ' H' D (J6.outTry ok).hand q) (fun f s3 hs => ?_) (fun _ _ z => z.elim)
    cases f with
    | next => obtain ⟨σ3, H3, I3, q3⟩ := hs; exact ⟨σ3, H3, I3.unhand ok, q3⟩
    | brk => obtain ⟨σ3, H3, I3, q3⟩ := hs; exact ⟨σ3, H3, I3.unhand ok, q3⟩
    | cont => obtain ⟨σ3, H3, I3, q3⟩ := hs; exact ⟨σ3, H3, I3.unhand ok, q3⟩
    | ret u => obtain ⟨v, σ3, H3, I3, r3, q3⟩ := hs; exact ⟨v, σ3, H3, I3.unhand ok, r3, q3⟩
  · cases f with
    | next => obtain ⟨σ3, H3, I3, q3⟩ := hf; exact pss_nil pins s1 σ3 H3 D (I3.outTry I.ok) q3
    | brk => obtain ⟨σ3, H3, I3, q3⟩ := hf; exact ⟨σ3, H3, I3.outTry I.ok, q3⟩
    | cont => obtain ⟨σ3, H3, I3, q3⟩ := hf; exact ⟨σ3, H3, I3.outTry I.ok, q3⟩
    | ret u => obtain ⟨v, σ3, H3, I3, r3, q3⟩ := hf; exact ⟨v, σ3, H3, I3.outTry I.ok, r3, q3⟩
end L2
end
section
set_option maxRecDepth 100000
namespace L2
open PySem PySem.Spec PySem.Calls PyProof.Rows PySem.W PySem.Builtin PySem.Builtin.ObjectAttr PySem.Builtin.Getset_descriptor

/-! ### isinstance of an exception -/
section
variable {prog : Program} {w : World} {A : Around} {E : Value → Shared → Prop} {s : Shared} {K : Frag} {x D : Addr} {ox : Obj} {od : Option Obj} {name : Str}
end

/-! ### try .. except C as n -/
section
variable {X : Cx} {pins : List (Addr × Obj)} {σ : St} {H H' : Hp} {s s2 : Shared} {a : Addr} {o : HO}
theorem HOk.track {P : Program} {w : World} {h : Heap} (hok : HOk P w H h) (na : H a = none) (new : ObjOk P w (upd H a o) h a o) : HOk P w (upd H a o) h := fun b u e => by
  by_cases hb : b = a
  · subst hb
    rw [upd_same] at e; cases e
    exact new
  · rw [upd_ne hb] at e
    exact (hok b u e).stay (fun _ _ _ q => q) (fun c q => by rw [upd_ne (ne_of_none q na)]; exact q) fun c xs q => by rw [upd_ne (ne_of_none q na)]; exact q
theorem Inv.track (I : Inv X pins σ H s) (J : Inv X pins σ H' s2) (un : Un (frs X.stack) [] H H' s.heap s2.heap) (sa : s.heap.get? a = none) (na : H' a = none) (new : ObjOk X.prog X.w (upd H' a o) s2.heap a o) : Inv X pins σ (upd H' a o) s2 := by
  have nb : ∀ b u, s.heap.get? b = some u → b ≠ a := fun b u q z => by rw [z, sa] at q; cases q
  refine I.call' (ch := []) (J.os.trans I.os.symm) ⟨un.keep, un.slot, fun b u q n hx => by rw [upd_ne (nb b u q)]; exact un.free b u q n hx, un.there, fun b xs q => ?_, fun b u xs q => ?_, fun b ps q => ?_⟩ (J.hok.track na new) J.bare (fun b z => absurd z (by simp))
  · have z := un.tups b xs q
    rw [upd_ne (ne_of_none z na)]; exact z
  · have z := un.frzs b u xs q
    rw [upd_ne (ne_of_none z na)]; exact z
  · obtain ⟨m, z⟩ := un.tbls b ps q
    exact ⟨m, by rw [upd_ne (ne_of_none z na)]; exact z⟩
end
end L2
end
section
set_option maxRecDepth 100000
namespace L2
open PySem PySem.Spec PySem.Calls PyProof.Rows
section
variable {P : Program} {w : World} {K : PySem.W.Frag} {mg : Str → Option Value} {base : Heap}
/-- THE RULE for a def that may raise -/
theorem Fun.ok1 {x qual : Str} {st : Stmt} {f : Addr} {fd : FuncData} {N ps : List Str} {k : Nat} {sp : Sp} (F : Fun K x qual st f fd) (S : FnScope N ps (defScope st)) (len : ∀ vs H Q E, sp vs H Q E → vs.length = ps.length)
    (hbody : ∀ (cdv : Value) (A : Around) (outer : List Env) (s : Shared) (H : Hp) (vs : List V) (Q : VK) (E : XK), Room k (A.deeper (envOfC qual (defScope st) s.heap.objs.size f cdv)) → sp vs H Q E →
      ∃ t, PSs (cxOf (CX1 P w) P w K mg base N qual (defScope st) f cdv A outer s H E) (defBody st) t ∧ t { nx := fun _ H' => Q .non H', rt := Q } (start N vs) H) : FnOk P w K mg base (CX1 P w) (k + 1) f fd ps sp := by
  obtain ⟨oc, od, kV, doc, pm, an, cdv, ct, osl, rfl, lk, hcd⟩ := F.ex
  exact fn_of lk hcd S len fun A outer s H vs Q E hr hsp => hbody cdv A outer s H vs Q E hr hsp

/-! ### a def that a handler calls: an exception is being handled -/
end
section
variable {X : Cx} {k : Nat} {f : Addr} {fd : FuncData} {ps : List Str} {sp : Sp} {dvs : List V} {ds : List Value} {E : XK} {x : Str} {p pos : Pos} {e : Expr} {es : List Expr} {t : TA}
end

/-! ### f'text {int}' : some text -/
end L2
end
section
set_option maxRecDepth 100000
namespace L2
open PySem PySem.Spec PySem.Calls PyProof.Rows
/-! ### lists of truth values: xs.count(True), xs.index(True) -/
section
variable {X : Cx}
end

/-! ### isinstance(e, C) of an exception e, C an own class (.ref) or a built-in type (.ty) -/
end L2
end
section
set_option maxRecDepth 100000
namespace L2
open PySem PySem.Spec PySem.Calls PyProof.Rows
/-! ### defs with defaults that may raise; keyword calls -/
section
variable {P : Program} {w : World} {K : PySem.W.Frag} {mg : Str → Option Value} {base : Heap}
end
section
variable {X : Cx} {CX : CXT} {k : Nat} {f C : Addr} {fd : FuncData} {ps ks : List Str} {sp : Sp} {E : St → XK} {x m : Str} {p pos apos kpos : Pos} {e o : Expr} {es : List Expr} {kws : List Keyword} {te ta : TE} {t tk : TA} {nm : Option Str}
  {g : List Value → List Value → List Value} {gV : List V → List V → List V}
end
/-! ### a def upon data that answers with data or raises -/
def spE (K : PySem.W.Frag) (R : List D → D → Prop) (B : List D → Addr → Prop) : Sp := fun vs H Q E =>
  ∃ ds, Dats K H ds vs ∧ ((∃ d, R ds d ∧ ∀ v H', Same H H' → Dat K H' d v → Q v H') ∨ ∃ C, B ds C ∧ ∀ H', Same H H' → E (.ref C) none H')
section
variable {K : PySem.W.Frag} {σ : St} {H : Hp} {tA tK : TA} {ds es fs : List D} {d e : D} {dvs : List V} {R : List D → D → Prop} {B : List D → Addr → Prop} {E : XK} {Q : VK} {C : Addr} {gV : List V → List V → List V} {ta tb : TE}
theorem re_callE (h : RA K tA σ H ds) (r : R ds d) : RE K (tCall (spE K R B) [] E tA) σ H d := fun H1 s Q q =>
  h H1 s _ fun vs H2 s2 q2 => ⟨ds, by rw [List.append_nil]; exact q2, .inl ⟨d, r, fun v H3 s3 q3 => q _ _ (s2.trans s3) q3⟩⟩
theorem rx_callE (h : RA K tA σ H ds) (r : B ds C) (q : ∀ H', Same H H' → E (.ref C) none H') : tCall (spE K R B) [] E tA σ H Q :=
  h.use fun vs H2 s2 q2 => ⟨ds, by rw [List.append_nil]; exact q2, .inr ⟨C, r, fun H3 s3 => q _ (s2.trans s3)⟩⟩
end
/-! ### a tuple of one, times an int -/
section
variable {X : Cx}
theorem noFill_tuple_mul : fillsNumberSlot (.type "tuple") "mul" = pure false :=
  PySem.fillsNumberSlot_seq (id := "tuple.__mul__") (r := some (.builtin "tuple.__rmul__")) PySem.F.slot_tuple_mul.lookup (by decide +kernel) PySem.F.slot_tuple_rmul.lookup (by decide +kernel)
theorem repeat_tuple : seqRepeat? (.type "tuple") = pure (some (.builtin "tuple.__mul__")) := by
  unfold seqRepeat?
  rw [PySem.seqSlot_of (T := "tuple") (name := "__mul__") (id := "tuple.__mul__") PySem.F.slot_tuple_mul.lookup (by decide +kernel), PySem.seqSlot_of (T := "tuple") (name := "__rmul__") (id := "tuple.__rmul__") PySem.F.slot_tuple_rmul.lookup (by decide +kernel)]
  rfl
theorem int_rmul_tuple (a : Int) (t : Tok) (l : Addr) (items : Array Value) (n : Nat) (dd : Option Addr) (sl : Array (Option Value)) :
    Meets (Builtin.«int.__rmul__» ⟨[.int a t, .ref l], []⟩) (fun _ R s => s.heap.get? l = some { cls := .type "tuple", dict := dd, data := .seq items n, slots := sl } ∧ R (.ok (.ret Value.notImplemented)) s) :=
  .of_wp fun _ _ _ _ s q => by
    obtain ⟨h0, g0, d0, t0, o0⟩ := s
    obtain ⟨at_l, q⟩ := q
    wp_walk
    exact ⟨_, rfl, q⟩
end
end L2
end
section
set_option maxRecDepth 100000
namespace L2
open PySem PySem.Spec PySem.Calls PyProof.Rows PySem.W PySem.Builtin PySem.Builtin.ObjectAttr
/-! ### an own exception with an own __init__: how it is made -/
abbrev argT (us : List Value) : Obj := { cls := .type "tuple", data := .seq us.toArray }
abbrev bareE (C t : Addr) : Obj := { cls := .ref C, data := .fields #[.ref t, .none, .none, .none, .bool false, .none] }
abbrev laidE (h : Heap) (C : Addr) (us : List Value) : Heap := (h.push (argT us)).push (bareE C h.objs.size)
theorem laidE_keeps {h : Heap} {C : Addr} {us : List Value} (b : Addr) (o : Obj) (q : h.get? b = some o) : (laidE h C us).get? b = some o := by
  have q1 := Heap.get?_push_of_some (argT us) q
  exact Heap.get?_push_of_some _ q1
theorem laidE_exc {h : Heap} {C : Addr} {us : List Value} : (laidE h C us).get? (h.objs.size + 1) = some (bareE C h.objs.size) := by heap_get
theorem laidE_new {h : Heap} : h.get? (h.objs.size + 1) = none := Heap.get?_none_of_le (by omega)
/-- what the fragment says of the class -/
structure IniK (K : Frag) (C fI : Addr) : Prop where
  at_ : excAt K C [.type "ValueError", .type "Exception", .type "BaseException", .type "object"] "ValueError.__new__" (some (.ref fI)) = true
  ini : findIn K (.ref C) "__init__" = some (some (.ref fI))
  fn : typeIn K (.ref fI) = some (.type "function")
  kp : keepIn K (.ref C) = true
section
variable {prog : Program} {w : World} {A : Around} {E : Value → Shared → Prop} {K : Frag} {C fI : Addr} {us : List Value}
theorem make_excI {s : Shared} {Q : Value → Shared → Prop} (X : K.In s.heap) (kc : IniK K C fI) (hl : us.length ≤ sizeLine)
    (h : wpAny (model prog w) (A.under (.builtin "type.__call__" ⟨.ref C :: us, []⟩)) (call (.ref fI) (.ref (s.heap.objs.size + 1) :: us)) (fun r s' => r = .none ∧ Q (.ref (s.heap.objs.size + 1)) s') E { s with heap := laidE s.heap C us }) :
    wpAny (model prog w) A (call (.ref C) us) Q E s := by
  obtain ⟨bm, N, nm, qn, bs, hdd, sn, sub, ab, col, dd, k0, k1, k2, k3, k5, mN, hC, _, _, T⟩ := exc_of X kc.at_
  have V := PySem.F.excBase_ValueError
  have isT : s.TypeIs (.ref C) "type" := ⟨_, hC, rfl⟩
  have l1 := tc_lookup
  have l2 := tc_bind (.ref C)
  have hC2 := laidE_keeps (us := us) (C := C) C _ hC
  have X2 : K.In (laidE s.heap C us) := X.keeps laidE_keeps
  have self1 : (Value.ref C :: bm).contains (.ref C) = true := by simp
  obtain ⟨h0, g0, d0, t0, o0⟩ := s
  refine wpAny_call (codeAny_of_tree ?_)
  show wpAny _ _ (callAny (.ref C) _) _ _ _
  repeat' (first | assumption | (with_reducible refine wpAny_loadPart_at hC ?_) | wp_step)
  refine ⟨rfl, codeAny_call_builtin_at (Code.quiet_builtin _ (by decide +kernel)) entry_typeCall (wpAny_check_type_call_sub hC ?_)⟩
  repeat (first | (with_reducible refine wpAny_madeBy_exc hC ?_) | (with_reducible refine wpAny_isSubtype_exc hC ?_) | (with_reducible refine wpAny_loadPart_at hC ?_) | wp_step)
  refine codeAny_call_builtin_code (Code.quiet_builtin _ V.quiet) (wpAny_check_new_subU V (by decide) T hC (codeAny_exc_new_subU V (by decide) V T hC ?_ hl))
  show wpAny _ _ _ _ _ _
  unfold isInstance
  repeat (first | (with_reducible refine wpAny_madeBy_exc laidE_exc ?_) | (with_reducible refine wpAny_isSubtype_exc laidE_exc ?_) | (with_reducible refine wpAny_loadPart_at laidE_exc ?_) | wp_step)
  refine wpAny_isSubtype_exc hC2 ?_
  rw [self1]
  refine wpAny_bind (wpAny_holding (special_fn (s := ⟨laidE h0 C us, g0, d0, t0, o0⟩) X2 (od := none) ⟨laidE_exc, rfl, rfl, trivial⟩ kc.ini kc.fn (wpAny_mono h (fun r s' ⟨er, q⟩ => ?_) fun _ _ z => z)))
  subst er
  exact wpAny_pure q
end

/-! ### a field of an exception that has no dict yet -/
abbrev withD (h : Heap) (x : Addr) : Heap := (h.push { cls := .type "dict", data := .dict #[] }).update x fun o => { cls := o.cls, dict := some h.objs.size, data := o.data, slots := o.slots }
section
variable {h : Heap} {x b : Addr} {o : Obj} {vs : Array Value}
theorem withD_at (q : h.get? x = some o) (hd : o.data = .fields vs) : (withD h x).get? x = some { o with dict := some h.objs.size } := by
  have q1 : (h.push { cls := .type "dict", data := .dict #[] }).get? x = some o := Heap.get?_push_of_some _ q
  refine Heap.get?_update_self _ q1 ?_
  obtain ⟨c, d, dt, sl⟩ := o
  subst hd
  rfl
theorem withD_keeps (hb : b ≠ x) (q : h.get? b = some o) : (withD h x).get? b = some o := by
  rw [Heap.get?_update_ne _ _ _ _ hb]
  exact Heap.get?_push_of_some _ q
theorem withD_dict (q : h.get? x = some o) : (withD h x).Ns1 h.objs.size fun _ => none := by
  have lt : h.objs.size ≠ x := Ne.symm (Nat.ne_of_lt (Heap.lt_size q))
  have e : (withD h x).get? h.objs.size = some { cls := .type "dict", data := .dict #[] } := by
    rw [Heap.get?_update_ne _ _ _ _ lt]
    exact Heap.get?_push_at rfl rfl
  exact Heap.Ns1.of_empty ⟨_, #[], _, e, rfl, fun en hen => absurd hen (by simp), fun _ => rfl⟩
end
/-- the bases of the class, from the built-in one on -/
def overBase : List Value → Bool
  | .ref _ :: r => overBase r
  | l => l == [.type "ValueError", .type "Exception", .type "BaseException", .type "object"]
theorem refuse_over (self : Value) : ∀ {l : List Value}, overBase l = true → refuseLoop self "__setattr__" l = pure ()
  | [], e => by simp [overBase] at e
  | v :: r, e => by
    cases v with
    | ref c => rw [refuseLoop_ref]; exact refuse_over self (l := r) e
    | type n =>
      have e' := beq_iff_eq.mp (show (Value.type n :: r == [.type "ValueError", .type "Exception", .type "BaseException", .type "object"]) = true from e)
      rw [e']
      exact PySem.F.store_ValueError.passes self
    | _ => exact absurd (beq_iff_eq.mp (show (_ == ([.type "ValueError", .type "Exception", .type "BaseException", .type "object"] : List Value)) = true from e)) (by simp)
/-- what the fragment says of the class for a store -/
structure StoK (K : Frag) (C : Addr) (name : Str) : Prop where
  sa : findIn K (.ref C) "__setattr__" = some (some (.builtin "object.__setattr__"))
  ob : mroIn K C (.type "object") = some true
  over : (clsIn K C).any (fun cd => overBase cd.mro) = true
  no : findIn K (.ref C) name = some none
  hd : (clsIn K C).any (·.hasDict) = true
section
variable {prog : Program} {w : World} {A : Around} {E : Value → Shared → Prop} {s : Shared} {K : Frag} {x C : Addr} {ox : Obj} {name : Str} {v : Value} {vs : Array Value}
theorem looks_refuse {M : Model} (X : K.In s.heap) (ty : Looks M s.heap (typeOf (.ref x)) (.ref C)) (st : StoK K C name) : Looks M s.heap (refuseIfOverridden (.ref x) "__setattr__") () := by
  obtain ⟨cd, hc, hov⟩ := any_some st.over
  have row : Looks M s.heap (mroOf (.ref C)) cd.mro := (looks_clsIn X hc).andThen .now
  exact ty.andThen (row.andThen (Looks.of_pure (refuse_over (.ref x) hov)))
theorem setattr_exc {Q : Unit → Shared → Prop} (X : K.In s.heap) (st : StoK K C name) (hx : s.heap.get? x = some ox) (hc : ox.cls = .ref C) (hd : ox.dict = none) (hdt : ox.data = .fields vs)
    (h : ∀ h' tk, (∀ b o, b ≠ x → s.heap.get? b = some o → h'.get? b = some o) → h'.get? x = some { ox with dict := some s.heap.objs.size } → Q () { s with heap := h', toks := tk }) :
    wpAny (model prog w) A (setAttr (.ref x) name v) Q E s := by
  have inst : InstAt s.heap x ox C none := ⟨hx, hc, by unfold notCls; rw [hdt], by rw [hd]; trivial⟩
  have ty : Looks (model prog w) s.heap (typeOf (.ref x)) (.ref C) := inst.type
  have ok : Looks (model prog w) s.heap (isInstance (.ref x) (.type "object")) true := ty.andThen (looks_mroIn X st.ob)
  have SO := PySem.F.store_object
  refine set_plain X inst st.sa (codeAny_call_builtin SO.slot.plain SO.entry ?_)
  refine @check_slot (model prog w) _ _ { s with toks := s.toks + 1 } "object.__setattr__" "object" "__setattr__" (.ref x) [.str name s.toks, v] [] _ SO.kind SO.split ok (SO.args _ _ _) ?_
  rw [osa_eq]
  refine wpAny_bind ((looks_refuse (s := { s with toks := s.toks + 1 }) X ty st).here ?_)
  refine wpAny_bind (Looks.here (s := { s with toks := s.toks + 1 }) ty ?_)
  refine wpAny_bind (Looks.here (s := { s with toks := s.toks + 1 }) (looks_findIn X st.no) ?_)
  refine wpAny_bind (wpAny_pure ?_)
  obtain ⟨cd, hcd, has⟩ := any_some st.hd
  obtain ⟨oc, od, oda, osl⟩ := ox
  dsimp only at hc hd hdt
  subst hc hd hdt
  obtain ⟨h0, g0, d0, t0, o0⟩ := s
  show wpAny _ _ (storeInOwnDict (.ref x) (.ref C) (.str name t0) name v false) _ _ ⟨h0, g0, d0, t0 + 1, o0⟩
  have X' : K.In h0 := X
  refine wpAny_bind (wpAny_pure (wpAny_bind ?_))
  show wpAny _ _ (instanceDict x true) _ _ _
  refine wpAny_bind (wpAny_loadPart hx (wpAny_bind (Looks.here (s := ⟨h0, g0, d0, t0 + 1, o0⟩) (looks_clsIn X' hcd) ?_)))
  rw [has]
  dsimp only
  rw [if_neg (by simp)]
  refine wpAny_bind (wpAny_alloc' (wpAny_bind (wpAny_update' (Heap.get?_push_of_some _ hx) (wpAny_pure ?_))))
  show wpAny _ _ (storeInDict h0.objs.size (.str name t0) name v) _ _ ⟨withD h0 x, g0, d0, t0 + 1, o0⟩
  unfold storeInDict newKeyGuard
  refine wpAny_bind (wpAny_pure (wpAny_bind (wpAny_nsSet1 (withD_dict hx) fun h' ns' same => ?_)))
  obtain ⟨od', es, ep, hod, hes, few⟩ := ns'.count (Within.cons name v Within.nil)
  have few' : es.size ≤ 1 := few
  refine wpAny_bind (wpAny_lookBehind hod (by rw [hes]; exact pastItsLine_dict (by rw [sizeLine_eq]; omega)) (wpAny_pure (h h' _ (fun b ob hb q => ?_) ?_)))
  · exact (same.2 b (Nat.ne_of_lt (Heap.lt_size q))).trans (withD_keeps hb q)
  · exact (same.2 x (Nat.ne_of_lt (Heap.lt_size hx))).trans (withD_at hx rfl)
end
/-- an exception as it is made: without a dict; with one -/
def FreN (e C : Addr) (a0 : Value) : HO := .ext fun h => ∃ oe vs, h.get? e = some oe ∧ (oe.cls = .ref C ∧ vs[0]? = some a0) ∧ oe.data = .fields vs ∧ vs[1]? = some .none ∧ oe.dict = none
def FreO (e C : Addr) (a0 : Value) : HO := .ext fun h => ∃ oe vs, h.get? e = some oe ∧ (oe.cls = .ref C ∧ vs[0]? = some a0) ∧ oe.data = .fields vs ∧ vs[1]? = some .none
/-- self.f = x, self an exception as it is made -/
theorem ps_fldExc {X : Cx} {C : Addr} {f : Str} {o value : Expr} {ta tv : TE} {pos pos' : Pos} (st : StoK X.K C f) (ha : PE X o ta) (hv : PE X value tv) (hs : swapsWith value (some (.Attribute o f pos')) pos.line X.env = pure false := by rfl) :
    PS X (.Assign [.Attribute o f pos'] value pos) (fun D σ H => tv σ H fun _ H1 => ta σ H1 fun x H2 => ∃ e a0, x = .ref e ∧ H2 e = some (FreN e C a0) ∧ D.nx σ (upd H2 e (FreO e C a0))) := by
  intro pins s σ H D I h
  refine plainObj_wpAny_Assign_Attribute (thn (hv pins s σ H _ I h) fun u s1 ⟨y, H1, I1, ry, q⟩ => thn (ha pins s1 σ H1 _ I1 q) fun ov s2 ⟨x, H2, I2, rx, e, a0, ex, he, q2⟩ => ?_) hs
  subst ex
  obtain rfl : ov = Value.ref e := rx
  obtain ⟨⟨oe, vs, hoe, ⟨hcl, hv0⟩, hdt, hv1, hdn⟩, _, _⟩ := (show ObjOk X.prog X.w H2 s2.heap e (FreN e C a0) from I2.hok e _ he)
  refine setattr_exc I2.kIn st hoe hcl hdn hdt fun h' tk k hx' => ?_
  refine ⟨σ, _, I2.write (x := e) (e := e) (o := FreO e C a0) (t' := tk) (by rw [he]; trivial) (.inl rfl) k ⟨_, hx'⟩ ?_, q2⟩
  exact ⟨⟨_, vs, hx', ⟨hcl, hv0⟩, hdt, hv1⟩, ⟨_, hx'⟩, fun h1 h2 ⟨o1, v1, e1, c1⟩ k => ⟨o1, v1, k o1 e1, c1⟩⟩

/-- what __init__ of such a class promises -/
def spInit (C : Addr) : Sp := fun vs H Q _ => ∃ e a0 v, vs = [.ref e, v] ∧ H e = some (FreN e C a0) ∧ Q .non (upd H e (FreO e C a0))
section
variable {X : Cx} {pins : List (Addr × Obj)} {σ : St} {H : Hp} {s s' : Shared} {C fI e : Addr} {fd : FuncData} {k : Nat} {ps : List Str} {a0 : Value}
/-- behind __init__: the exception is no longer kept in mind -/
theorem after_init (I : Inv X pins σ H s) (hn : s.heap.get? e = none) (na : H e = none) {h1 : Heap} (k1 : ∀ b o, s.heap.get? b = some o → h1.get? b = some o)
    (un : Un (frs X.stack) [] (upd H e (FreN e C a0)) (upd (upd H e (FreN e C a0)) e (FreO e C a0)) h1 s'.heap) (hok : HOk X.prog X.w (upd (upd H e (FreN e C a0)) e (FreO e C a0)) s'.heap) :
    Un (frs X.stack) [] H H s.heap s'.heap ∧ HOk X.prog X.w H s'.heap ∧ ∃ oe vs, s'.heap.get? e = some oe ∧ (oe.cls = .ref C ∧ vs[0]? = some a0) ∧ oe.data = .fields vs ∧ vs[1]? = some .none := by
  have off : ∀ b o, s.heap.get? b = some o → b ≠ e := fun b o q z => by rw [z, hn] at q; cases q
  have offH : ∀ b u, H b = some u → b ≠ e := fun b u q z => by rw [z, na] at q; cases q
  have same : ∀ b, b ≠ e → upd (upd H e (FreN e C a0)) e (FreO e C a0) b = H b := fun b z => by rw [upd_ne z, upd_ne z]
  refine ⟨⟨fun b o q n hf hx => ?_, fun b o q n hf hx => ?_, fun _ _ _ n _ => n, fun b o q hx => un.there b o (k1 b o q) hx, fun _ _ q => q, fun _ _ _ q => q, fun b ps q => ⟨#[], by rw [Array.append_empty]; exact q⟩⟩, fun b u q => ?_, ?_⟩
  · exact un.keep b o (k1 b o q) (by rw [upd_ne (off b o q)]; exact n) hf hx
  · exact un.slot b o (k1 b o q) (by rw [upd_ne (off b o q)]; exact n) hf hx
  · refine (hok b u (by rw [same b (offH b u q)]; exact q)).stay (fun _ _ _ z => z) (fun c z => ?_) fun c xs z => ?_
    · have hc : c ≠ e := fun y => by rw [y, upd_same] at z; cases z
      rw [same c hc] at z; exact z
    · have hc : c ≠ e := fun y => by rw [y, upd_same] at z; cases z
      rw [same c hc] at z; exact z
  · obtain ⟨q, _, _⟩ := (show ObjOk X.prog X.w _ s'.heap e (FreO e C a0) from hok e _ upd_same)
    exact q
/-- C(v): a new exception, its state as __init__ leaves it -/
theorem run_excI {E : XK} {u : Value} {v : V} (kc : IniK X.K C fI) (FI : FnOk X.prog X.w X.K X.mg X.base CX0 k fI fd ps (spInit C)) (hb : Binds X.K fd ps []) (hr : Room (k + 1) X.A) (I : Inv X pins σ H s) (ru : RelV v u) (q : E (.ref C) none H) :
    wpAny (model X.prog X.w) X.A (call (.ref C) [u]) (fun r s' => ∃ e oe vs, r = .ref e ∧ s'.heap.get? e = some oe ∧ oe.cls = .ref C ∧ oe.data = .fields vs ∧ vs[1]? = some .none ∧ X.K.In s'.heap ∧ CXn X.prog X.w X.stack H s E (.ref e) s') X.xe s := by
  refine make_excI I.kIn kc (by rw [sizeLine_eq]; simp) ?_
  have I2 : Inv X pins σ H { s with heap := laidE s.heap C [u] } := I.kept (t' := s.toks) laidE_keeps
  have hn : s.heap.get? (s.heap.objs.size + 1) = none := laidE_new
  have na : H (s.heap.objs.size + 1) = none := I.hok.empty hn
  have he : (laidE s.heap C [u]).get? (s.heap.objs.size + 1) = some (bareE C s.heap.objs.size) := laidE_exc
  generalize s.heap.objs.size + 1 = e at hn na he ⊢
  have I3 : Inv X pins σ (upd H e (FreN e C (.ref s.heap.objs.size))) { s with heap := laidE s.heap C [u] } :=
    Inv.track I I2 (Un.kept laidE_keeps) hn na ⟨⟨_, _, he, ⟨rfl, rfl⟩, rfl, rfl, rfl⟩, ⟨_, he⟩, fun g1 g2 ⟨o1, v1, e1, c1⟩ kk => ⟨o1, v1, kk o1 e1, c1⟩⟩
  have hq : spInit C [.ref e, v] (upd H e (FreN e C (.ref s.heap.objs.size))) (fun w H2 => w = .non ∧ H2 = upd (upd H e (FreN e C (.ref s.heap.objs.size))) e (FreO e C (.ref s.heap.objs.size))) (fun _ _ _ => True) := ⟨e, _, v, rfl, upd_same, rfl, rfl⟩
  have hl : ([Value.ref e, u] ++ []).length = ps.length := FI.len _ _ _ _ hq
  refine wpAny_call (codeAny_mono (FI.run _ X.stack _ _ ⟨[.ref e, u], []⟩ [.ref e, u] _ _ (fun _ _ _ => True) (hr.make C [u] []) (I3.env0.make C [u] []) (hb _ [.ref e, u] I3.kIn hl) (show Vals [V.ref e, v] [Value.ref e, u] from .cons rfl (.cons ru .nil)) hq) fun r s' hq' => ?_)
  cases r with
  | error _ => exact False.elim hq'
  | ok fl =>
    cases fl with
    | ret uu =>
      obtain ⟨_, _, os', bare', un', hok', rv, rfl, rfl⟩ := hq'
      obtain ⟨un2, hok2, oe, ws, hoe, hcl, hdt, hv1⟩ := after_init I hn na laidE_keeps un' hok'
      have I4 : Inv X pins σ H s' := I.call' (ch := []) os' un2 hok2 bare' (fun b z => absurd z (by simp))
      exact ⟨rv, e, oe, ws, rfl, hoe, hcl.1, hdt, hv1, I4.kIn, e, .ref C, _, H, rfl, os', bare', un2, hok2, ⟨hn, na⟩, ⟨oe, ws, hoe, hcl, hdt, hv1⟩, q⟩
    | _ => exact False.elim hq'
end
/-- raise of a value that is an exception of an own class -/
theorem raise_own {M : Model} {A : Around} {E : Value → Shared → Prop} {s : Shared} {env : Env} {K : Frag} {C fI : Addr} {x : Sem Value} {Q : Flow → Shared → Prop} (kc : IniK K C fI) (hh : A.handled = none)
    (h : wpAny M A x (fun r s' => ∃ e oe vs, r = .ref e ∧ s'.heap.get? e = some oe ∧ oe.cls = .ref C ∧ oe.data = .fields vs ∧ vs[1]? = some .none ∧ K.In s'.heap ∧ E (.ref e) s') E s) : wpAny M A (raiseStmt env (some x) none) Q E s := by
  refine wpAny_bind (thn h fun r s1 ⟨e, oe, vs, er, he, hcl, hdt, hv1, X1, q⟩ => ?_)
  subst er
  obtain ⟨bm, N, nm, qn, bs, hdd, sn, sub, ab, col, dd, k0, k1, k2, k3, k5, mN, hC, _, _, T⟩ := exc_of X1 kc.at_
  have isB : (Value.ref C :: bm).contains (.type "BaseException") = true := by
    rw [List.contains_cons, T.hasType (X := "BaseException") (b := true) (by decide)]
    rfl
  obtain ⟨oc, od, odt, osl⟩ := oe
  obtain rfl : oc = .ref C := hcl
  obtain rfl : odt = .fields vs := hdt
  obtain ⟨h1, g1, d1, t1, o1⟩ := s1
  repeat (first | (with_reducible refine wpAny_loadPart_at he ?_) | (with_reducible refine wpAny_loadPart_at hC ?_) | (with_reducible refine wpAny_isSubtype_exc hC ?_; rw [isB]) | rw [hv1] | wp_step)
  exact wpAny_raiseNew_none hh q
/-- raise C(e), C an own exception whose __init__ keeps its one argument -/
theorem ps_raiseI {X : Cx} {C fI : Addr} {fd : FuncData} {k : Nat} {ps : List Str} {E : XK} {x : Str} {np cpos pos : Pos} {e₀ : Expr} {ta : TA} (kc : IniK X.K C fI)
    (FI : FnOk X.prog X.w X.K X.mg X.base CX0 k fI fd ps (spInit C)) (hb : Binds X.K fd ps []) (hr : Room (k + 1) X.A) (ht : Passes (CXn X.prog X.w) X E) (hg : Gl X x) (hm : X.mg x = some (.ref C)) (ha : PA X [e₀] ta) (hcalm : X.calm = true := by rfl)
    (he : starEach [e₀] X.env = (false, eval e₀ X.env) :: starEach [] X.env := by rfl) (hpl : (backTo cpos (starEach [] X.env)).any (·.1) = false := by rfl) (hd : (x == ("__debug__" : Str)) = false := by decide) :
    PS X (.Raise (some (.Call (.Name x np) [e₀] [] cpos)) none pos) (fun _ σ H => ta σ H fun vs H1 => (∃ v, vs = [v]) ∧ E (.ref C) none H1) := by
  intro pins s σ H D I h
  rw [arm_exec_Raise]
  refine wpAny_bind (wpAny_standAt (raise_own (K := X.K) kc (I.ok.hd hcalm) ?_))
  refine wpAny_bind (wpAny_Call_Name_kw (ld_glob I hg hm ?_ hd))
  refine PySem.W.callWith_K (h₀ := X.base) I.ok.mod.kin kc.kp (thn (ha cpos pins s σ H _ I h) fun us s1 ⟨vs, H1, I1, r, ⟨v, hv⟩, q⟩ => ⟨I1.kIn, ?_⟩) he hpl
  subst hv
  obtain ⟨u, rfl, ru⟩ := vals1 r
  refine thn (run_excI (E := E) kc FI hb hr I1 ru q) fun r s2 ⟨e, oe, ws, er, h1, h2, h3, h4, h5, h6⟩ => wpAny_bind (wpAny_standAt (wpAny_pure ?_))
  exact ⟨e, oe, ws, er, h1, h2, h3, h4, h5, ht pins σ H1 s1 _ _ I1 h6⟩
end L2
end
section
set_option maxRecDepth 100000
namespace L2
open PySem PySem.Spec PySem.Calls PyProof.Rows
/-! ### enumerate of a tuple -/
/-- a tuple's iterator, as it is laid -/
abbrev TIter (h : Heap) (it t : Addr) (i : Nat) : Prop := h.get? it = some { cls := .type "tuple_iterator", dict := none, data := .fields #[.ref t, rawInt i], slots := #[] }
section
variable {prog : Program} {w : World} {A : Around} {E : Value → Shared → Prop} {s : Shared} {it t : Addr} {i : Nat} {items : Array Value}
theorem tnext_item {x : Value} {Q : Value → Shared → Prop} (a1 : TIter s.heap it t i) (a2 : s.heap.IsTuple t items) (hx : items[i]? = some x)
    (q : ∀ h', TIter h' it t (i + 1) → Heap.SameBut it s.heap h' → Q x { s with heap := h' }) : wpAny (model prog w) A (Builtin.SmallTypes.nextOf (.ref it)) Q E s := by
  have ty : s.TypeIs (.ref it) "tuple_iterator" := ⟨_, a1, rfl⟩
  obtain ⟨⟨c2, d2, dt2, s2⟩, a2, hc, n, hd⟩ := a2
  obtain rfl : c2 = .type "tuple" := hc
  obtain rfl : dt2 = .seq items n := hd
  unfold Builtin.SmallTypes.nextOf
  refine wpAny_bind (wpAny_callSpecial?_slot (name := Str.ofString "__next__") ty PySem.F.slot_tuple_iterator_next (wpAny_call_entry PySem.F.slot_tuple_iterator_next ty PySem.F.entry_tuple_iterator_next ?_ (PySem.F.args_tuple_iterator_next_1 _)))
  obtain ⟨h0, g0, d0, t0, o0⟩ := s
  unfold TIter rawInt at a1
  wp_walk
  rw [Int.toNat_natCast, hx]
  refine wpAny_bind (wpAny_setField_rec a1 (by simp) fun h' b1 b2 => wpAny_pure ⟨x, rfl, wpAny_pure (q h' ?_ b2)⟩)
  show h'.get? it = some _
  have e : ((i + 1 : Nat) : Int) = (i : Int) + 1 := by omega
  rw [e]
  exact b1
theorem tnext_done {Q : Value → Shared → Prop} (hh : A.handled = none) (a1 : TIter s.heap it t i) (a2 : s.heap.IsTuple t items) (hx : items[i]? = none)
    (q : ∀ h' e, Heap.ExtBut it s.heap h' → (∃ o, h'.get? e = some o ∧ o.cls = .type "StopIteration") → E (.ref e) { s with heap := h' }) : wpAny (model prog w) A (Builtin.SmallTypes.nextOf (.ref it)) Q E s := by
  have ty : s.TypeIs (.ref it) "tuple_iterator" := ⟨_, a1, rfl⟩
  obtain ⟨⟨c2, d2, dt2, s2⟩, a2, hc, n, hd⟩ := a2
  obtain rfl : c2 = .type "tuple" := hc
  obtain rfl : dt2 = .seq items n := hd
  unfold Builtin.SmallTypes.nextOf
  refine wpAny_bind (wpAny_callSpecial?_slot (name := Str.ofString "__next__") ty PySem.F.slot_tuple_iterator_next (wpAny_call_entry PySem.F.slot_tuple_iterator_next ty PySem.F.entry_tuple_iterator_next ?_ (PySem.F.args_tuple_iterator_next_1 _)))
  obtain ⟨h0, g0, d0, t0, o0⟩ := s
  unfold TIter rawInt at a1
  wp_walk
  rw [Int.toNat_natCast, hx]
  refine wpAny_bind (wpAny_rule (wpAny_bind (wpAny_setField_rec a1 (by simp) fun h' b1 b2 => ?_)))
  unfold Builtin.SmallTypes.stopIteration
  wp_walk
  exact wpAny_raiseNew_none hh (q _ _ ((b2.extBut.push _).push _) ⟨_, Heap.get?_push_size _ rfl, rfl⟩)
theorem drawT (hh : A.handled = none) (ne : t ≠ it) : Draws prog w A it [it, t] items.size (fun i x => items[i]? = some x) (fun i h => TIter h it t i ∧ h.IsTuple t items) where
  live := fun _ _ st => ⟨_, st.1⟩
  frame := fun i h h' st k => ⟨k it (by simp) _ st.1, let ⟨o, e, r⟩ := st.2; ⟨o, k t (by simp) o e, r⟩⟩
  item := fun i s Q E hi st q => tnext_item st.1 st.2 (Array.getElem?_eq_getElem hi) fun h' a b => q _ h' s.toks (Array.getElem?_eq_getElem hi) ⟨a, st.2.extBut b.extBut ne⟩ b
  done := fun s Q E st q => tnext_done hh st.1 st.2 (Array.getElem?_eq_none (Nat.le_refl _)) q
end
abbrev tIterO (t : Addr) : Obj := { cls := .type "tuple_iterator", data := .fields #[.ref t, .int 0 0] }
abbrev enumO (it : Addr) : Obj := { cls := .type "enumerate", data := .fields #[.none, .bool false, .ref it, rawInt 0, .none, .none] }
theorem enum_newT (t : Addr) (items : Array Value) (n : Nat) (d2 : Option Addr) (s2 : Array (Option Value)) :
    Meets (Builtin.«enumerate.__new__» ⟨[.type "enumerate", .ref t], []⟩) (fun _ R s => s.heap.get? t = some { cls := .type "tuple", dict := d2, data := .seq items n, slots := s2 } ∧
      R (.ok (.ret (.ref (s.heap.push (tIterO t)).objs.size))) { s with heap := (s.heap.push (tIterO t)).push (enumO s.heap.objs.size) }) :=
  .of_wp fun _ _ _ _ s q => by
    obtain ⟨h0, g0, d0, t0, o0⟩ := s
    obtain ⟨a1, q⟩ := q
    have isT : Heap.IsTuple (Shared.heap ⟨h0, g0, d0, t0, o0⟩) t items := ⟨_, a1, rfl, n, rfl⟩
    have self1 := sub_enumerate
    wp_walk
    refine wpAny_stack_any fun rows => ?_
    refine wpAny_pure ?_
    split
    · rename_i cl _ _ _ _ _
      cases (cl == Value.type "enumerate") <;> (wp_walk using wpAny_pyIter_tuple isT; exact ⟨_, rfl, q⟩)
    · wp_walk using wpAny_pyIter_tuple isT
      exact ⟨_, rfl, q⟩

theorem call_enumT {prog : Program} {w : World} {A : Around} {E : Value → Shared → Prop} {s : Shared} {t : Addr} {items : Array Value} {Q : Value → Shared → Prop} (a1 : s.heap.IsTuple t items)
    (q : Q (.ref (s.heap.objs.size + 1)) { s with heap := (s.heap.push (tIterO t)).push (enumO s.heap.objs.size) }) : wpAny (model prog w) A (call (.type "enumerate") [.ref t]) Q E s := by
  obtain ⟨⟨c2, d2, dt2, s2⟩, a1, hc, n, hd⟩ := a1
  obtain rfl : c2 = .type "tuple" := hc
  obtain rfl : dt2 = .seq items n := hd
  have sz : (s.heap.push (tIterO t)).objs.size = s.heap.objs.size + 1 := Heap.size_push _ _
  refine callType_new PySem.F.called_enumerate (by decide) (PySem.F.typeCall_enumerate_1 _) (PySem.F.newCall_enumerate_1 _) (fun o => PySem.F.args_object_init_2 o _) PySem.F.entry_enumerate_new (enum_newT t items n d2 s2) ⟨a1, ?_⟩
  show _ ∧ _
  rw [sz]
  refine ⟨⟨enumO s.heap.objs.size, ?_, rfl⟩, q⟩
  exact Heap.get?_push_at sz.symm rfl
/-- some records of ours have turned -/
theorem Inv.turnedL {X : Cx} {pins : List (Addr × Obj)} {σ : St} {H : Hp} {s : Shared} {h' : Heap} {t' : Nat} {its : List Addr} (I : Inv X pins σ H s) (k : ∀ b o, b ∉ its → s.heap.get? b = some o → h'.get? b = some o)
    (ok : ∀ b ∈ its, H b = none ∧ b ≠ X.env.locals ∧ (b ∈ X.ex ∨ X.s₀.heap.objs.size ≤ b) ∧ (∀ x c, X.env.cells.lookup x = some c → c ≠ b) ∧ ∀ p ∈ X.pn ++ pins, p.1 ≠ b) : Inv X pins σ H { s with heap := h', toks := t' } := by
  have out : ∀ b u, H b = some u → b ∉ its := fun b u e z => by rw [(ok b z).1] at e; cases e
  refine I.step (g' := s.gens) (d' := s.drawn) (ch := its) (fun b hb => ⟨(ok b hb).2.2.1, (ok b hb).2.1, (ok b hb).2.2.2⟩) (fun b o _ _ hc e _ => k b o hc e) (fun b o _ _ hc e _ => ⟨o.slots, k b o hc e⟩) (fun _ _ _ _ n => n)
    (fun b o hc e => ⟨o, k b o hc e⟩) (fun _ _ e => e) (fun _ _ _ e => e) (fun b ps e => ⟨#[], by rw [Array.append_empty]; exact e⟩) (fun m hm => ?_) (fun b u e => ?_) I.bare
  · obtain ⟨o, es, ep, ho, r⟩ := hm
    exact ⟨o, es, ep, k _ o (fun z => (ok _ z).2.1 rfl) ho, r⟩
  · refine (I.hok b u e).stay (fun c v hc q => k c v ?_ q) (fun _ q => q) fun _ _ q => q
    rcases hc with z | z
    · rw [z]; exact out b u e
    · exact out c _ z
/-- a tuple's items with their places -/
def Ite (K : PySem.W.Frag) (a : Addr) (xs : List V) : It := ⟨fun i H => i < xs.length ∧ SqT K H a xs, fun i H x H' => ∃ p y, H p = none ∧ x = .ref p ∧ xs[i]? = some y ∧ H' = upd H p (.tup [.int i, y]), fun i H => i = xs.length ∧ SqT K H a xs⟩
theorem turn_enum {P : Program} {w : World} {K : PySem.W.Frag} {elts : List Expr} {c1} {ps : Pos} (a e it : Addr) (xs : List V) (ne : e ≠ it) : Turn P w K (.Tuple elts c1 ps) (Ite K a xs) [e, it] e (fun i h => a ≠ it ∧ a ≠ e ∧ ∃ old, IsEnum h e it i old ∧ TIter h it a i) where
  mem := by simp
  obj := fun i h st b hb => by
    obtain ⟨_, _, old, q1, q2⟩ := st
    rcases List.mem_cons.mp hb with z | z
    · subst z; exact ⟨_, q1, fun v z => by cases z⟩
    · have z : b = it := by simpa using z
      subst z; exact ⟨_, q2, fun v z => by cases z⟩
  keep := fun i h h' ⟨n1, n2, old, q1, q2⟩ k => ⟨n1, n2, old, k e (by simp) _ q1, k it (by simp) _ q2⟩
  item := by
    intro X hP hw hK hc i pins s σ H E I hf st hg
    subst hP hw hK
    obtain ⟨hi, hq⟩ := hg
    obtain ⟨nai, nae, old, q1, q2⟩ := st
    obtain ⟨its, rv, p, hz⟩ := I.tuple hq
    have hx : xs[i]? = some xs[i] := List.getElem?_eq_getElem hi
    obtain ⟨u, hu, ru⟩ := rv.get hx
    have isT : s.heap.IsTuple a its.toArray := p
    have lr := rv.length
    refine wpAny_pyNext_enum_itemD (drawT (A := X.A.in1) (I.ok.hd hc) nai) q1 ⟨q2, isT⟩ (by rw [List.size_toArray]; omega) ne (by simp [ne, Ne.symm nae]) fun y h' tk hy out st' tup sz kk => ⟨_, rfl, ?_⟩
    have ey : y = u := by
      have h1 : its[i]? = some y := by simpa using hy
      rw [hu] at h1
      exact (Option.some.inj h1).symm
    subst ey
    refine wpAny_letOwnedTupleGo_enum (s := { s with heap := h', toks := tk + 1 }) out fun h2 e2 same => ?_
    have le : e < s.heap.objs.size := Heap.lt_size q1
    have li : it < s.heap.objs.size := Heap.lt_size q2
    have tup2 : h2.get? s.heap.objs.size = some { cls := .type "tuple", data := .seq #[.int i tk, y] } := (same.2 _ (Nat.ne_of_gt le)).trans tup
    have I1 : Inv X pins σ (upd H s.heap.objs.size (.tup [.int i, xs[i]])) { s with heap := s.heap.push { cls := .type "tuple", data := .seq #[.int i tk, y] }, toks := s.toks } :=
      I.laid (o := .tup [.int i, xs[i]]) (fun b ob q => Heap.get?_push_of_some _ q) (Nat.le_refl _) ⟨by rw [sizeLine_eq]; simp, [.int i tk, y], .cons ⟨_, rfl⟩ (.cons ru .nil), IsTup.new _ _⟩
    have frees : ∀ b, b < s.heap.objs.size → upd H s.heap.objs.size (.tup [.int i, xs[i]]) b = H b := fun b hb => upd_ne (Nat.ne_of_lt hb)
    have I2 : Inv X pins σ (upd H s.heap.objs.size (.tup [.int i, xs[i]])) { s with heap := h2, toks := tk + 1 } := by
      refine Inv.turnedL (s := { s with heap := s.heap.push { cls := .type "tuple", data := .seq #[.int i tk, y] }, toks := s.toks }) (h' := h2) (its := [e, it]) (t' := tk + 1) I1 (fun b o hb q => ?_) (fun b hb => ?_)
      · have h1 : b ≠ e := fun z => hb (by simp [z])
        have h3 : b ≠ it := fun z => hb (by simp [z])
        by_cases hbs : b = s.heap.objs.size
        · subst hbs
          have q' : (s.heap.push { cls := .type "tuple", data := .seq #[.int i tk, y] }).get? s.heap.objs.size = some o := q
          rw [Heap.get?_push_at rfl rfl] at q'
          cases q'
          exact tup2
        · have q' : s.heap.get? b = some o := by
            have lt : b < s.heap.objs.size := by
              have l1 : b < (s.heap.push { cls := .type "tuple", data := .seq #[.int i tk, y] }).objs.size := Heap.lt_size q
              rw [Heap.size_push] at l1
              exact Nat.lt_of_le_of_ne (Nat.le_of_lt_succ l1) hbs
            exact (Heap.get?_push_ne _ _ _ hbs).symm.trans q
          exact (same.2 b h1).trans (kk b o h1 h3 q')
      · have lb : b < s.heap.objs.size := by
          rcases List.mem_cons.mp hb with z | z
          · rw [z]; exact le
          · rw [show b = it by simpa using z]; exact li
        obtain ⟨f0, f1, f2, f3, f4, f5⟩ := hf b hb
        exact ⟨by rw [frees b lb]; exact f0, f1, f3, f4, f5⟩
    refine ⟨.ref s.heap.objs.size, _, I2, rfl, ⟨_, _, I.hok.fresh (Nat.le_refl _), rfl, hx, rfl⟩, ⟨nai, nae, y, ?_, ?_⟩, fun b hb => ?_⟩
    · have ec : ((i + 1 : Nat) : Int) = (i : Int) + 1 := by omega
      rw [ec]; exact e2
    · exact (same.2 it (Ne.symm ne)).trans st'.1
    · have lb : b < s.heap.objs.size := by
        rcases List.mem_cons.mp hb with z | z
        · rw [z]; exact le
        · rw [show b = it by simpa using z]; exact li
      rw [frees b lb]; exact (hf b hb).1
  done := by
    intro X hP hw hK hc i pins s σ H E I hf st hg
    subst hP hw hK
    obtain ⟨hi, hq⟩ := hg
    obtain ⟨nai, nae, old, q1, q2⟩ := st
    obtain ⟨its, rv, p, hz⟩ := I.tuple hq
    have lr := rv.length
    have isT : s.heap.IsTuple a its.toArray := p
    obtain ⟨f0, f1, f2, f3, f4, f5⟩ := hf it (by simp)
    refine wpAny_pyNext_enum_endD (drawT (A := X.A.in1) (I.ok.hd hc) nai) q1 (by rw [List.size_toArray, ← lr, ← hi]; exact ⟨q2, isT⟩) fun h' eb => ⟨rfl, ?_⟩
    exact I.turned (t' := s.toks) (fun b o hb q => eb b o hb q) f0 f1 f3 f4 f5
  self := fun A i s Q E ⟨_, _, _, q1, _⟩ q => wpAny_pyIter_enum q1 q
def iEnum (K : PySem.W.Frag) (ta : TA) : TI := fun σ H R => ta σ H fun vs H1 => ∃ a xs, vs = [.ref a] ∧ SqT K H1 a xs ∧ R (Ite K a xs) H1
theorem pi_enum {X : Cx} {a : Expr} {ta : TA} {p pos ps : Pos} {elts : List Expr} {c1} (hg : Gl X "enumerate") (hm : X.mg "enumerate" = none) (ha : PA X [a] ta) (hs : starEach [a] X.env = [(false, eval a X.env)] := by rfl) : PI X (.Tuple elts c1 ps) (.Call (.Name "enumerate" p) [a] [] pos) (iEnum X.K ta) := by
  intro pins s σ H R I h
  refine Call_ (ld_blt I hg hm bo_enumerate (PyProof.Rows.callWith_type1 (thn (ha pos pins s σ H _ I h) fun us s1 ⟨vs, H1, I1, r1, q1⟩ => ?_) hs rfl))
  obtain ⟨t, xs, ev, hq, q⟩ := q1
  subst ev
  obtain ⟨u, rfl, ru⟩ := vals1 r1
  cases ru
  obtain ⟨its, rv, pt, hz⟩ := I1.tuple hq
  have lt : t < s1.heap.objs.size := pt.lt
  refine call_enumT pt ?_
  have sz : (s1.heap.push (tIterO t)).objs.size = s1.heap.objs.size + 1 := Heap.size_push _ _
  have q1 : IsEnum ((s1.heap.push (tIterO t)).push (enumO s1.heap.objs.size)) (s1.heap.objs.size + 1) s1.heap.objs.size ((0 : Nat) : Int) .none := Heap.get?_push_at sz.symm rfl
  have q2 : TIter ((s1.heap.push (tIterO t)).push (enumO s1.heap.objs.size)) s1.heap.objs.size t 0 := Heap.get?_push_of_some _ (Heap.get?_push_at rfl rfl)
  refine wpAny_pyIter_enum (s := { s1 with heap := (s1.heap.push (tIterO t)).push (enumO s1.heap.objs.size) }) q1 ?_
  refine ⟨s1.heap.objs.size + 1, [s1.heap.objs.size + 1, s1.heap.objs.size], _, _, H1, rfl, I1.kept (t' := s1.toks) (fun b o e => Heap.get?_push_of_some _ (Heap.get?_push_of_some _ e)), turn_enum t _ _ xs (Nat.ne_of_gt (Nat.lt_succ_self _)), ⟨Nat.ne_of_lt lt, Nat.ne_of_lt (Nat.lt_succ_of_lt lt), .none, q1, q2⟩, fun b hb => ?_, q⟩
  rcases List.mem_cons.mp hb with z | z
  · subst z; exact I1.fpOk (Nat.le_succ _) (I1.hok.fresh (Nat.le_succ _))
  · have z : b = s1.heap.objs.size := by simpa using z
    subst z; exact I1.fpOk (Nat.le_refl _) (I1.hok.fresh (Nat.le_refl _))
end L2
end
section
set_option Elab.async false
set_option linter.all false
set_option maxRecDepth 100000
set_option maxHeartbeats 4000000
namespace My
open PySem L2 PyProof.Rows
def top (i : Nat) : Stmt := PySem.Challenge.pw_piecelay_k09_pieces.main.body.getD i (.Pass ⟨0, 0, 0, 0⟩)
abbrev TL : List (Str × KTD.Dat) := [("num", .flat (.int 9999)), ("arg", .flat (.int 3))]
abbrev TB : List (Str × KTD.Dat) := [("add", .flat (.int 2)), ("sub", .flat (.int 2)), ("mul", .flat (.int 2)), ("less", .flat (.int 2)), ("pick", .flat (.int 3))]
abbrev TM : List (Str × KTD.Dat) := [("hole", .flat (.int 2)), ("gap", .flat (.int 3)), ("slot", .flat (.int 2))]
abbrev TF : List (Str × KTD.Dat) := [("low", .flat (.str "gap")), ("high", .flat (.str "gap")), ("arg", .flat (.str "slot"))]
abbrev BAS : List D := [.tup [.str "one", .tup [.str "gap", .int 0, .int 99], .tup [.int 1, .tup [.str "low", .int 0]]], .tup [.str "two", .tup [.str "gap", .int 0, .int 9999], .tup [.int 2, .tup [.str "low", .int 0], .tup [.str "high", .int 0]]], .tup [.str "slot", .tup [.str "slot", .int 0], .tup [.int 3, .tup [.str "arg", .int 0]]], .tup [.str "add", .tup [.str "add", .tup [.str "hole", .int 0], .tup [.str "hole", .int 1]], .tup [.int 4]], .tup [.str "sub", .tup [.str "sub", .tup [.str "hole", .int 0], .tup [.str "hole", .int 1]], .tup [.int 5]], .tup [.str "mul", .tup [.str "mul", .tup [.str "hole", .int 0], .tup [.str "hole", .int 1]], .tup [.int 6]], .tup [.str "less", .tup [.str "less", .tup [.str "hole", .int 0], .tup [.str "hole", .int 1]], .tup [.int 7]], .tup [.str "more", .tup [.str "add", .tup [.str "hole", .int 0], .tup [.str "gap", .int 0, .int 99]], .tup [.int 12, .tup [.str "low", .int 0]]]]
abbrev INS : List D := [.tup [.str "end", .int 0], .tup [.str "put", .int 1], .tup [.str "far", .int 2], .tup [.str "load", .int 1], .tup [.str "add", .int 0], .tup [.str "sub", .int 0], .tup [.str "mul", .int 0], .tup [.str "less", .int 0], .tup [.str "skip", .int 1], .tup [.str "jump", .int 2], .tup [.str "zero", .int 1], .tup [.str "none", .int 2], .tup [.str "more", .int 1], .tup [.str "twice", .int 0], .tup [.str "about", .int 0], .tup [.str "call", .int 2], .tup [.str "back", .int 0]]
abbrev STR : List D := [.str "put", .str "far", .str "load", .str "add", .str "sub", .str "mul", .str "less", .str "more", .str "twice", .str "about"]
abbrev s_is_whole : Stmt := top 5
theorem sc_is_whole : FnScope ["thing", "low", "high"] ["thing", "low", "high"] (defScope s_is_whole) := ⟨rfl, rfl, rfl, by decide +kernel, rfl, by decide +kernel, by decide +kernel⟩
abbrev s_is_tagged : Stmt := top 6
theorem sc_is_tagged : FnScope ["thing"] ["thing"] (defScope s_is_tagged) := ⟨rfl, rfl, rfl, by decide +kernel, rfl, by decide +kernel, by decide +kernel⟩
abbrev s_is_node : Stmt := top 11
theorem sc_is_node : FnScope ["thing", "kind"] ["thing"] (defScope s_is_node) := ⟨rfl, rfl, rfl, by decide +kernel, rfl, by decide +kernel, by decide +kernel⟩
abbrev s_trees_within : Stmt := top 12
theorem sc_trees_within : FnScope ["tree"] ["tree"] (defScope s_trees_within) := ⟨rfl, rfl, rfl, by decide +kernel, rfl, by decide +kernel, by decide +kernel⟩
abbrev s_is_name : Stmt := top 7
theorem sc_is_name : FnScope ["thing"] ["thing"] (defScope s_is_name) := ⟨rfl, rfl, rfl, by decide +kernel, rfl, by decide +kernel, by decide +kernel⟩
abbrev s_instruction_at : Stmt := top 16
theorem sc_instruction_at : FnScope ["cells", "place", "name", "many", "behind"] ["cells", "place"] (defScope s_instruction_at) := ⟨rfl, rfl, rfl, by decide +kernel, rfl, by decide +kernel, by decide +kernel⟩
abbrev s_is_mark : Stmt := top 26
theorem sc_is_mark : FnScope ["thing"] ["thing"] (defScope s_is_mark) := ⟨rfl, rfl, rfl, by decide +kernel, rfl, by decide +kernel, by decide +kernel⟩
abbrev s_is_pattern_part : Stmt := top 27
theorem sc_is_pattern_part : FnScope ["thing", "deep"] ["thing", "deep"] (defScope s_is_pattern_part) := ⟨rfl, rfl, rfl, by decide +kernel, rfl, by decide +kernel, by decide +kernel⟩
abbrev s_marks_in : Stmt := top 28
theorem sc_marks_in : FnScope ["pattern", "kind", "marks", "within"] ["pattern", "kind"] (defScope s_marks_in) := ⟨rfl, rfl, rfl, by decide +kernel, rfl, by decide +kernel, by decide +kernel⟩
abbrev s_is_numbered : Stmt := top 29
theorem sc_is_numbered : FnScope ["pattern", "kind", "numbers"] ["pattern", "kind"] (defScope s_is_numbered) := ⟨rfl, rfl, rfl, by decide +kernel, rfl, by decide +kernel, by decide +kernel⟩
abbrev s_is_pattern : Stmt := top 30
theorem sc_is_pattern : FnScope ["thing"] ["thing"] (defScope s_is_pattern) := ⟨rfl, rfl, rfl, by decide +kernel, rfl, by decide +kernel, by decide +kernel⟩
abbrev s_is_filling : Stmt := top 31
theorem sc_is_filling : FnScope ["thing", "pattern"] ["thing", "pattern"] (defScope s_is_filling) := ⟨rfl, rfl, rfl, by decide +kernel, rfl, by decide +kernel, by decide +kernel⟩
abbrev s_is_cell : Stmt := top 32
theorem sc_is_cell : FnScope ["thing", "pattern"] ["thing", "pattern"] (defScope s_is_cell) := ⟨rfl, rfl, rfl, by decide +kernel, rfl, by decide +kernel, by decide +kernel⟩
abbrev s_are_instructions : Stmt := top 33
theorem sc_are_instructions : FnScope ["cells", "pattern", "place", "name", "behind"] ["cells", "pattern"] (defScope s_are_instructions) := ⟨rfl, rfl, rfl, by decide +kernel, rfl, by decide +kernel, by decide +kernel⟩
abbrev s_is_piece : Stmt := top 34
theorem sc_is_piece : FnScope ["thing", "name", "pattern", "cells"] ["thing"] (defScope s_is_piece) := ⟨rfl, rfl, rfl, by decide +kernel, rfl, by decide +kernel, by decide +kernel⟩
abbrev s_is_set : Stmt := top 35
theorem sc_is_set : FnScope ["thing"] ["thing"] (defScope s_is_set) := ⟨rfl, rfl, rfl, by decide +kernel, rfl, by decide +kernel, by decide +kernel⟩
abbrev s__law_draw : Stmt := top 37
theorem sc__law_draw : FnScope ["_law_script", "_law_town", "_law_many", "_law_one", "_law_at", "_law_mixed"] ["_law_script", "_law_town", "_law_many"] (defScope s__law_draw) := ⟨rfl, rfl, rfl, by decide +kernel, rfl, by decide +kernel, by decide +kernel⟩
abbrev s__law_pick : Stmt := top 38
theorem sc__law_pick : FnScope ["_law_script", "_law_town", "_law_some"] ["_law_script", "_law_town", "_law_some"] (defScope s__law_pick) := ⟨rfl, rfl, rfl, by decide +kernel, rfl, by decide +kernel, by decide +kernel⟩
abbrev s__law_pieces : Stmt := top 39
theorem sc__law_pieces : FnScope ["_law_hole", "_law_other", "_law_gap", "_law_made"] [] (defScope s__law_pieces) := ⟨rfl, rfl, rfl, by decide +kernel, rfl, by decide +kernel, by decide +kernel⟩
abbrev s__law_set : Stmt := top 40
theorem sc__law_set : FnScope ["_law_script", "_law_town", "_law_more"] ["_law_script", "_law_town"] (defScope s__law_set) := ⟨rfl, rfl, rfl, by decide +kernel, rfl, by decide +kernel, by decide +kernel⟩
abbrev s__law_no_piece : Stmt := top 41
theorem sc__law_no_piece : FnScope ["_law_script", "_law_town", "_law_hole", "_law_gap", "_law_slot", "_law_two", "_law_bad"] ["_law_script", "_law_town"] (defScope s__law_no_piece) := ⟨rfl, rfl, rfl, by decide +kernel, rfl, by decide +kernel, by decide +kernel⟩
abbrev s__law_basic : Stmt := top 42
theorem sc__law_basic : FnScope ["_law_hole", "_law_other", "_law_made", "_law_at", "_law_name"] [] (defScope s__law_basic) := ⟨rfl, rfl, rfl, by decide +kernel, rfl, by decide +kernel, by decide +kernel⟩
abbrev s_law : Stmt := top 43
theorem sc_law : FnScope ["_law_script", "_law_town", "_law_basic_here", "_law_some", "_law_bad", "_law_many", "_law_wrong"] ["_law_script"] (defScope s_law) := ⟨rfl, rfl, rfl, by decide +kernel, rfl, by decide +kernel, by decide +kernel⟩
def clsDef (s : Stmt) : Stmt := match s with
  | .ClassDef _ _ _ (d :: _) _ _ _ _ _ _ _ => d
  | _ => .Pass ⟨0, 0, 0, 0⟩
abbrev s_Fault__init : Stmt := clsDef (top 2)
theorem sc_Fault__init : FnScope ["self", "place"] ["self", "place"] (defScope s_Fault__init) := ⟨rfl, rfl, rfl, by decide +kernel, rfl, by decide +kernel, by decide +kernel⟩

structure Txt (P : Program) (w : World) (K : PySem.W.Frag) (mg : Str → Option Value) where
  a_is_whole : Addr
  d_is_whole : FuncData
  f_is_whole : Fun K "is_whole" "is_whole" s_is_whole a_is_whole d_is_whole
  m_is_whole : mg "is_whole" = some (.ref a_is_whole)
  a_is_tagged : Addr
  d_is_tagged : FuncData
  f_is_tagged : Fun K "is_tagged" "is_tagged" s_is_tagged a_is_tagged d_is_tagged
  m_is_tagged : mg "is_tagged" = some (.ref a_is_tagged)
  a_is_node : Addr
  d_is_node : FuncData
  f_is_node : Fun K "is_node" "is_node" s_is_node a_is_node d_is_node
  m_is_node : mg "is_node" = some (.ref a_is_node)
  a_trees_within : Addr
  d_trees_within : FuncData
  f_trees_within : Fun K "trees_within" "trees_within" s_trees_within a_trees_within d_trees_within
  m_trees_within : mg "trees_within" = some (.ref a_trees_within)
  a_is_name : Addr
  d_is_name : FuncData
  f_is_name : Fun K "is_name" "is_name" s_is_name a_is_name d_is_name
  m_is_name : mg "is_name" = some (.ref a_is_name)
  a_instruction_at : Addr
  d_instruction_at : FuncData
  f_instruction_at : Fun K "instruction_at" "instruction_at" s_instruction_at a_instruction_at d_instruction_at
  m_instruction_at : mg "instruction_at" = some (.ref a_instruction_at)
  a_is_mark : Addr
  d_is_mark : FuncData
  f_is_mark : Fun K "is_mark" "is_mark" s_is_mark a_is_mark d_is_mark
  m_is_mark : mg "is_mark" = some (.ref a_is_mark)
  a_is_pattern_part : Addr
  d_is_pattern_part : FuncData
  f_is_pattern_part : Fun K "is_pattern_part" "is_pattern_part" s_is_pattern_part a_is_pattern_part d_is_pattern_part
  m_is_pattern_part : mg "is_pattern_part" = some (.ref a_is_pattern_part)
  a_marks_in : Addr
  d_marks_in : FuncData
  f_marks_in : Fun K "marks_in" "marks_in" s_marks_in a_marks_in d_marks_in
  m_marks_in : mg "marks_in" = some (.ref a_marks_in)
  a_is_numbered : Addr
  d_is_numbered : FuncData
  f_is_numbered : Fun K "is_numbered" "is_numbered" s_is_numbered a_is_numbered d_is_numbered
  m_is_numbered : mg "is_numbered" = some (.ref a_is_numbered)
  a_is_pattern : Addr
  d_is_pattern : FuncData
  f_is_pattern : Fun K "is_pattern" "is_pattern" s_is_pattern a_is_pattern d_is_pattern
  m_is_pattern : mg "is_pattern" = some (.ref a_is_pattern)
  a_is_filling : Addr
  d_is_filling : FuncData
  f_is_filling : Fun K "is_filling" "is_filling" s_is_filling a_is_filling d_is_filling
  m_is_filling : mg "is_filling" = some (.ref a_is_filling)
  a_is_cell : Addr
  d_is_cell : FuncData
  f_is_cell : Fun K "is_cell" "is_cell" s_is_cell a_is_cell d_is_cell
  m_is_cell : mg "is_cell" = some (.ref a_is_cell)
  a_are_instructions : Addr
  d_are_instructions : FuncData
  f_are_instructions : Fun K "are_instructions" "are_instructions" s_are_instructions a_are_instructions d_are_instructions
  m_are_instructions : mg "are_instructions" = some (.ref a_are_instructions)
  a_is_piece : Addr
  d_is_piece : FuncData
  f_is_piece : Fun K "is_piece" "is_piece" s_is_piece a_is_piece d_is_piece
  m_is_piece : mg "is_piece" = some (.ref a_is_piece)
  a_is_set : Addr
  d_is_set : FuncData
  f_is_set : Fun K "is_set" "is_set" s_is_set a_is_set d_is_set
  m_is_set : mg "is_set" = some (.ref a_is_set)
  a__law_draw : Addr
  d__law_draw : FuncData
  f__law_draw : Fun K "_law_draw" "_law_draw" s__law_draw a__law_draw d__law_draw
  m__law_draw : mg "_law_draw" = some (.ref a__law_draw)
  a__law_pick : Addr
  d__law_pick : FuncData
  f__law_pick : Fun K "_law_pick" "_law_pick" s__law_pick a__law_pick d__law_pick
  m__law_pick : mg "_law_pick" = some (.ref a__law_pick)
  a__law_pieces : Addr
  d__law_pieces : FuncData
  f__law_pieces : Fun K "_law_pieces" "_law_pieces" s__law_pieces a__law_pieces d__law_pieces
  m__law_pieces : mg "_law_pieces" = some (.ref a__law_pieces)
  a__law_set : Addr
  d__law_set : FuncData
  f__law_set : Fun K "_law_set" "_law_set" s__law_set a__law_set d__law_set
  m__law_set : mg "_law_set" = some (.ref a__law_set)
  a__law_no_piece : Addr
  d__law_no_piece : FuncData
  f__law_no_piece : Fun K "_law_no_piece" "_law_no_piece" s__law_no_piece a__law_no_piece d__law_no_piece
  m__law_no_piece : mg "_law_no_piece" = some (.ref a__law_no_piece)
  a__law_basic : Addr
  d__law_basic : FuncData
  f__law_basic : Fun K "_law_basic" "_law_basic" s__law_basic a__law_basic d__law_basic
  m__law_basic : mg "_law_basic" = some (.ref a__law_basic)
  a_law : Addr
  d_law : FuncData
  f_law : Fun K "law" "law" s_law a_law d_law
  m_law : mg "law" = some (.ref a_law)
  t_LONGEST_NAME : Tok
  g_LONGEST_NAME : mg "LONGEST_NAME" = some (.int 8 t_LONGEST_NAME)
  t_MOST_CELL : Tok
  g_MOST_CELL : mg "MOST_CELL" = some (.int 99 t_MOST_CELL)
  t_MOST_PATTERN_DEEP : Tok
  g_MOST_PATTERN_DEEP : mg "MOST_PATTERN_DEEP" = some (.int 3 t_MOST_PATTERN_DEEP)
  t_MOST_GAP : Tok
  g_MOST_GAP : mg "MOST_GAP" = some (.int 9999 t_MOST_GAP)
  t_MOST_PIECE_CELLS : Tok
  g_MOST_PIECE_CELLS : mg "MOST_PIECE_CELLS" = some (.int 12 t_MOST_PIECE_CELLS)
  t_MOST_PIECES : Tok
  g_MOST_PIECES : mg "MOST_PIECES" = some (.int 16 t_MOST_PIECES)
  a_MOST_IN_LEAF : Addr
  g_MOST_IN_LEAF : mg "MOST_IN_LEAF" = some (.ref a_MOST_IN_LEAF)
  t_MOST_IN_LEAF : TabK K a_MOST_IN_LEAF TL
  a_TREES_IN_BRANCH : Addr
  g_TREES_IN_BRANCH : mg "TREES_IN_BRANCH" = some (.ref a_TREES_IN_BRANCH)
  t_TREES_IN_BRANCH : TabK K a_TREES_IN_BRANCH TB
  a_MARK_LENGTHS : Addr
  g_MARK_LENGTHS : mg "MARK_LENGTHS" = some (.ref a_MARK_LENGTHS)
  t_MARK_LENGTHS : TabK K a_MARK_LENGTHS TM
  a_FILLED_FROM : Addr
  g_FILLED_FROM : mg "FILLED_FROM" = some (.ref a_FILLED_FROM)
  t_FILLED_FROM : TabK K a_FILLED_FROM TF
  a_INSTRUCTIONS : Addr
  g_INSTRUCTIONS : mg "INSTRUCTIONS" = some (.ref a_INSTRUCTIONS)
  c_INSTRUCTIONS : datOk K (.tup INS) (.ref a_INSTRUCTIONS) = true
  a_STRAIGHT : Addr
  g_STRAIGHT : mg "STRAIGHT" = some (.ref a_STRAIGHT)
  c_STRAIGHT : datOk K (.tup STR) (.ref a_STRAIGHT) = true
  a_BASIC : Addr
  g_BASIC : mg "BASIC" = some (.ref a_BASIC)
  c_BASIC : lstKOk K BAS a_BASIC = true
  k_MARK_LENGTHS : KeysK P w K a_MARK_LENGTHS ["hole", "gap", "slot"]
  a_Fault : Addr
  g_Fault : mg "Fault" = some (.ref a_Fault)
  i_Fault : Addr
  di_Fault : FuncData
  fi_Fault : Fun K "__init__" "Fault.__init__" s_Fault__init i_Fault di_Fault
  c_Fault : IniK K a_Fault i_Fault
  so_Fault : StoK K a_Fault "place"
  e_Fault_Fault : PySem.W.exmOne K (.ref a_Fault) (.ref a_Fault) = some true
  n_len : mg "len" = none
  n_isinstance : mg "isinstance" = none
  n_int : mg "int" = none
  n_bool : mg "bool" = none
  n_str : mg "str" = none
  n_tuple : mg "tuple" = none
  n_list : mg "list" = none
  n_range : mg "range" = none
  n_all : mg "all" = none
  n_any : mg "any" = none
  n_set : mg "set" = none
  n_enumerate : mg "enumerate" = none
section
variable {P : Program} {w : World} {K : PySem.W.Frag} {mg : Str → Option Value} {base : Heap} {k : Nat}
theorem bi_Fault (T : Txt P w K mg) : Binds K T.di_Fault ["self", "place"] [] := T.fi_Fault.binds (ps := ["self", "place"]) fun _ _ _ _ _ _ us hl => match us, hl with | [_, _], _ => rfl
theorem ok_Fault__init (T : Txt P w K mg) : FnOk P w K mg base CX0 (k + 1) T.i_Fault T.di_Fault ["self", "place"] (spInit T.a_Fault) := by
  refine T.fi_Fault.ok sc_Fault__init (fun vs H Q E ⟨e, a0, v, h, _⟩ => by rw [h]; rfl) (fun cdv A outer s H vs Q E hr ⟨e, a0, v, h, h2, q⟩ => ?_)
  have nd := sc_Fault__init.nd
  refine ⟨_, (pss_one (ps_fldExc T.so_Fault (pv 0) (pv 1))), ?_⟩
  subst h
  exact ⟨_, rfl, _, rfl, e, a0, rfl, h2, q⟩
theorem b_is_whole (T : Txt P w K mg) : Binds K T.d_is_whole ["thing", "low", "high"] [] := T.f_is_whole.binds (ps := ["thing", "low", "high"]) fun _ _ _ _ _ _ us hl => match us, hl with | [_, _, _], _ => rfl
theorem b_is_tagged (T : Txt P w K mg) : Binds K T.d_is_tagged ["thing"] [] := T.f_is_tagged.binds (ps := ["thing"]) fun _ _ _ _ _ _ us hl => match us, hl with | [_], _ => rfl
theorem b_is_node (T : Txt P w K mg) : Binds K T.d_is_node ["thing"] [] := T.f_is_node.binds (ps := ["thing"]) fun _ _ _ _ _ _ us hl => match us, hl with | [_], _ => rfl
theorem b_trees_within (T : Txt P w K mg) : Binds K T.d_trees_within ["tree"] [] := T.f_trees_within.binds (ps := ["tree"]) fun _ _ _ _ _ _ us hl => match us, hl with | [_], _ => rfl
theorem b_is_name (T : Txt P w K mg) : Binds K T.d_is_name ["thing"] [] := T.f_is_name.binds (ps := ["thing"]) fun _ _ _ _ _ _ us hl => match us, hl with | [_], _ => rfl
theorem b_instruction_at (T : Txt P w K mg) : Binds K T.d_instruction_at ["cells", "place"] [] := T.f_instruction_at.binds (ps := ["cells", "place"]) fun _ _ _ _ _ _ us hl => match us, hl with | [_, _], _ => rfl
theorem b_is_mark (T : Txt P w K mg) : Binds K T.d_is_mark ["thing"] [] := T.f_is_mark.binds (ps := ["thing"]) fun _ _ _ _ _ _ us hl => match us, hl with | [_], _ => rfl
theorem b_is_pattern_part (T : Txt P w K mg) : Binds K T.d_is_pattern_part ["thing", "deep"] [] := T.f_is_pattern_part.binds (ps := ["thing", "deep"]) fun _ _ _ _ _ _ us hl => match us, hl with | [_, _], _ => rfl
theorem b_marks_in (T : Txt P w K mg) : Binds K T.d_marks_in ["pattern", "kind"] [] := T.f_marks_in.binds (ps := ["pattern", "kind"]) fun _ _ _ _ _ _ us hl => match us, hl with | [_, _], _ => rfl
theorem b_is_numbered (T : Txt P w K mg) : Binds K T.d_is_numbered ["pattern", "kind"] [] := T.f_is_numbered.binds (ps := ["pattern", "kind"]) fun _ _ _ _ _ _ us hl => match us, hl with | [_, _], _ => rfl
theorem b_is_pattern (T : Txt P w K mg) : Binds K T.d_is_pattern ["thing"] [] := T.f_is_pattern.binds (ps := ["thing"]) fun _ _ _ _ _ _ us hl => match us, hl with | [_], _ => rfl
theorem b_is_filling (T : Txt P w K mg) : Binds K T.d_is_filling ["thing", "pattern"] [] := T.f_is_filling.binds (ps := ["thing", "pattern"]) fun _ _ _ _ _ _ us hl => match us, hl with | [_, _], _ => rfl
theorem b_is_cell (T : Txt P w K mg) : Binds K T.d_is_cell ["thing", "pattern"] [] := T.f_is_cell.binds (ps := ["thing", "pattern"]) fun _ _ _ _ _ _ us hl => match us, hl with | [_, _], _ => rfl
theorem b_are_instructions (T : Txt P w K mg) : Binds K T.d_are_instructions ["cells", "pattern"] [] := T.f_are_instructions.binds (ps := ["cells", "pattern"]) fun _ _ _ _ _ _ us hl => match us, hl with | [_, _], _ => rfl
theorem b_is_piece (T : Txt P w K mg) : Binds K T.d_is_piece ["thing"] [] := T.f_is_piece.binds (ps := ["thing"]) fun _ _ _ _ _ _ us hl => match us, hl with | [_], _ => rfl
theorem b_is_set (T : Txt P w K mg) : Binds K T.d_is_set ["thing"] [] := T.f_is_set.binds (ps := ["thing"]) fun _ _ _ _ _ _ us hl => match us, hl with | [_], _ => rfl
theorem b__law_draw (T : Txt P w K mg) : Binds K T.d__law_draw ["_law_script", "_law_town", "_law_many"] [] := T.f__law_draw.binds (ps := ["_law_script", "_law_town", "_law_many"]) fun _ _ _ _ _ _ us hl => match us, hl with | [_, _, _], _ => rfl
theorem b__law_pick (T : Txt P w K mg) : Binds K T.d__law_pick ["_law_script", "_law_town", "_law_some"] [] := T.f__law_pick.binds (ps := ["_law_script", "_law_town", "_law_some"]) fun _ _ _ _ _ _ us hl => match us, hl with | [_, _, _], _ => rfl
theorem b__law_pieces (T : Txt P w K mg) : Binds K T.d__law_pieces [] [] := T.f__law_pieces.binds (ps := []) fun _ _ _ _ _ _ us hl => match us, hl with | [], _ => rfl
theorem b__law_set (T : Txt P w K mg) : Binds K T.d__law_set ["_law_script", "_law_town"] [] := T.f__law_set.binds (ps := ["_law_script", "_law_town"]) fun _ _ _ _ _ _ us hl => match us, hl with | [_, _], _ => rfl
theorem b__law_no_piece (T : Txt P w K mg) : Binds K T.d__law_no_piece ["_law_script", "_law_town"] [] := T.f__law_no_piece.binds (ps := ["_law_script", "_law_town"]) fun _ _ _ _ _ _ us hl => match us, hl with | [_, _], _ => rfl
theorem b__law_basic (T : Txt P w K mg) : Binds K T.d__law_basic [] [] := T.f__law_basic.binds (ps := []) fun _ _ _ _ _ _ us hl => match us, hl with | [], _ => rfl

def wholeD (d : D) (lo hi : Int) : Bool := match d with
  | .int i => decide (lo ≤ i) && decide (i ≤ hi)
  | _ => false
def Rwhole (ds : List D) (d : D) : Prop := ∃ x lo hi, ds = [x, .int lo, .int hi] ∧ d = .bl (wholeD x lo hi)
def taggedD : D → Bool
  | .tup (.str _ :: _) => true
  | _ => false
def Rtagged (ds : List D) (d : D) : Prop := ∃ x, ds = [x] ∧ d = .bl (taggedD x)
def valI (k : Str) (T : List (Str × KTD.Dat)) : Int := match KTD.datumAt k T with
  | some (.flat (.int i)) => i
  | _ => 0
def nodeD : D → Bool
  | .tup (.str k :: r) => if KTD.inKeys k TL = true then decide ((r.length : Int) + 1 = 2) && wholeD (r.getD 0 .non) 0 (valI k TL) else KTD.inKeys k TB && decide ((r.length : Int) + 1 = 1 + valI k TB)
  | _ => false
def Rnode (ds : List D) (d : D) : Prop := ∃ x, ds = [x] ∧ d = .bl (nodeD x)
def kidsD : D → List D
  | .tup (.str k :: r) => if KTD.inKeys k TB = true then r else []
  | _ => []
def Rwithin (ds : List D) (d : D) : Prop := ∃ k r, ds = [.tup (.str k :: r)] ∧ d = .tup (kidsD (.tup (.str k :: r)))
theorem tabI {T : List (Str × KTD.Dat)} {k : Str} (hT : ∀ p ∈ T, ∃ i, p.2 = .flat (.int i)) (h : KTD.inKeys k T = true) : KTD.datumAt k T = some (.flat (.int (valI k T))) := by
  unfold valI
  cases e : KTD.datumAt k T with
  | none => exact absurd e (KTD.at_of_mem h)
  | some d =>
    have all : ∀ (T : List (Str × KTD.Dat)), (∀ p ∈ T, ∃ i, p.2 = .flat (.int i)) → KTD.datumAt k T = some d → ∃ i, d = .flat (.int i) := by
      intro T
      induction T with
      | nil => intro _ e; simp [KTD.datumAt] at e
      | cons p r ih =>
        intro hp e
        obtain ⟨x, y⟩ := p
        have e' : (if decide (k = x) = true then some y else KTD.datumAt k r) = some d := e
        by_cases hx : k = x
        · rw [if_pos (decide_eq_true hx)] at e'
          cases e'
          exact hp _ List.mem_cons_self
        · rw [if_neg (by simp [hx])] at e'
          exact ih (fun p hp' => hp p (List.mem_cons_of_mem _ hp')) e'
    obtain ⟨i, rfl⟩ := all T hT e
    rfl
theorem TL_int : ∀ p ∈ TL, ∃ i, p.2 = .flat (.int i) := by
  intro p hp
  simp only [TL, List.mem_cons, List.not_mem_nil, or_false] at hp
  rcases hp with rfl | rfl <;> exact ⟨_, rfl⟩
theorem TB_int : ∀ p ∈ TB, ∃ i, p.2 = .flat (.int i) := by
  intro p hp
  simp only [TB, List.mem_cons, List.not_mem_nil, or_false] at hp
  rcases hp with rfl | rfl | rfl | rfl | rfl <;> exact ⟨_, rfl⟩
theorem ok_is_whole (T : Txt P w K mg)  : FnOk P w K mg base CX0 (k + 1) T.a_is_whole T.d_is_whole ["thing", "low", "high"] (spD K Rwhole) := by
  refine T.f_is_whole.ok sc_is_whole (fun vs H Q E h => ?_) (fun cdv A outer s H vs Q E hr h => ?_)
  · obtain ⟨ds, d, hd, ⟨x, lo, hi, rfl, rfl⟩, _⟩ := h; exact hd.length.symm
  have nd := sc_is_whole.nd
  obtain ⟨ds, d, hd, ⟨x, lo, hi, rfl, rfl⟩, post⟩ := h
  obtain ⟨v0, v1, v2, rfl, h0, h1, h2⟩ := dats3 hd
  have g1 := h1.intE
  have g2 := h2.intE
  subst g1 g2
  refine ⟨_, (pss_one (ps_ret (pe_and (pe_callB (call_isi hi_int) rfl T.n_isinstance bo_isinstance (pa_cons (pv 0) (pa_cons (pe_bltn (v := .ty "int") rfl T.n_int bo_int rfl) pa_nil))) (pe_and (pe_not (pe_callB (call_isi hi_bool) rfl T.n_isinstance bo_isinstance (pa_cons (pv 0) (pa_cons (pe_bltn (v := .ty "bool") rfl T.n_bool bo_bool rfl) pa_nil)))) (pe_one (pe_chain op_le op_le (pv 1) (pv 0) (pv 2))))))), ?_⟩
  refine rs_ret (K := K) (d := .bl (wholeD x lo hi)) ?_ post
  cases x with
  | int i => exact RE.as (re_and (re_isi (re_var h0)) fun _ => re_and (re_not (re_isi (re_var h0))) fun _ => re_chain (re_var h1) (re_var h0) fun _ => re_var h2) rfl
  | bl y => exact RE.as (re_and (c := false) (re_isi (re_var h0)) fun _ => RE.as (re_and (c := true) (re_not (re_isi (re_var h0))) fun z => nomatch z) rfl) rfl
  | non => exact RE.as (re_and (c := true) (re_isi (re_var h0)) fun z => nomatch z) rfl
  | str y => exact RE.as (re_and (c := true) (re_isi (re_var h0)) fun z => nomatch z) rfl
  | tup y => exact RE.as (re_and (c := true) (re_isi (re_var h0)) fun z => nomatch z) rfl
  | lst => exact RE.as (re_and (c := true) (re_isi (re_var h0)) fun z => nomatch z) rfl
theorem ok_is_tagged (T : Txt P w K mg)  : FnOk P w K mg base CX0 (k + 1) T.a_is_tagged T.d_is_tagged ["thing"] (spD K Rtagged) := by
  refine T.f_is_tagged.ok sc_is_tagged (fun vs H Q E h => ?_) (fun cdv A outer s H vs Q E hr h => ?_)
  · obtain ⟨ds, d, hd, ⟨x, rfl, rfl⟩, _⟩ := h; exact hd.length.symm
  have nd := sc_is_tagged.nd
  obtain ⟨ds, d, hd, ⟨x, rfl, rfl⟩, post⟩ := h
  obtain ⟨v0, rfl, h0⟩ := dats1 hd
  refine ⟨_, (pss_one (ps_ret (pe_and (pe_callB (call_isi hi_tuple) rfl T.n_isinstance bo_isinstance (pa_cons (pv 0) (pa_cons (pe_bltn (v := .ty "tuple") rfl T.n_tuple bo_tuple rfl) pa_nil))) (pe_and (pe_cmpR op_gt (pe_callB call_len_seq rfl T.n_len bo_len (pa_c (pv 0) pa_nil)) pe_int (nomark _)) (pe_one (pe_callB (call_isi hi_str) rfl T.n_isinstance bo_isinstance (pa_cons (pe_ix ix_tup (pv 0) pe_int (fun _ _ => rfl)) (pa_cons (pe_bltn (v := .ty "str") rfl T.n_str bo_str rfl) pa_nil)))))))), ?_⟩
  refine rs_ret (K := K) (d := .bl (taggedD x)) ?_ post
  cases x with
  | tup ds =>
    cases ds with
    | nil => exact RE.as (re_and (c := false) (re_isi (re_var h0)) fun _ => RE.as (re_and (c := true) (re_cmp (re_len (re_var h0)) re_int) fun z => nomatch z) rfl) rfl
    | cons y r =>
      have l : decide ((0 : Int) < (((y :: r).length : Nat) : Int)) = true := decide_eq_true (by rw [List.length_cons]; omega)
      refine RE.as (re_and (re_isi (re_var h0)) fun _ => re_and (RE.as (re_cmp (re_len (re_var h0)) re_int) (congrArg D.bl l)) fun _ => re_isi (re_ix (k := 0) (re_var h0) re_int (show (y :: r)[0]? = some y from rfl))) ?_
      cases y <;> rfl
  | int i => exact RE.as (re_and (c := true) (re_isi (re_var h0)) fun z => nomatch z) rfl
  | bl y => exact RE.as (re_and (c := true) (re_isi (re_var h0)) fun z => nomatch z) rfl
  | non => exact RE.as (re_and (c := true) (re_isi (re_var h0)) fun z => nomatch z) rfl
  | str y => exact RE.as (re_and (c := true) (re_isi (re_var h0)) fun z => nomatch z) rfl
  | lst => exact RE.as (re_and (c := true) (re_isi (re_var h0)) fun z => nomatch z) rfl
end
end My
end
section
set_option Elab.async false
set_option linter.all false
set_option maxRecDepth 100000
set_option maxHeartbeats 4000000
namespace My
open PySem L2 PyProof.Rows
section
variable {P : Program} {w : World} {K : PySem.W.Frag} {mg : Str → Option Value} {base : Heap} {k : Nat}
theorem ok_is_node (T : Txt P w K mg) (F_is_tagged : FnOk P w K mg base CX0 k T.a_is_tagged T.d_is_tagged ["thing"] (spD K Rtagged)) (F_is_whole : FnOk P w K mg base CX0 k T.a_is_whole T.d_is_whole ["thing", "low", "high"] (spD K Rwhole)) : FnOk P w K mg base CX0 (k + 1) T.a_is_node T.d_is_node ["thing"] (spD K Rnode) := by
  refine T.f_is_node.ok sc_is_node (fun vs H Q E h => ?_) (fun cdv A outer s H vs Q E hr h => ?_)
  · obtain ⟨ds, d, hd, ⟨x, rfl, rfl⟩, _⟩ := h; exact hd.length.symm
  have nd := sc_is_node.nd
  obtain ⟨ds, d, hd, ⟨x, rfl, rfl⟩, post⟩ := h
  obtain ⟨v0, rfl, h0⟩ := dats1 hd
  refine ⟨_, (pss_cons (ps_if (pt_not (pt_truth (pe_call F_is_tagged hr rfl T.m_is_tagged T.f_is_tagged.kp (b_is_tagged T) .nil pass0 (pa_c (pv 0) pa_nil)) (fun _ => rfl))) (pss_one (ps_ret pe_bl)) pss_nil)
  (pss_cons (ps_set (i := 1) nd rfl (Or.inl rfl) (pe_ix ix_tup (pv 0) pe_int (fun _ _ => rfl)))
  (pss_cons (ps_if (pt_cmpR op_inTab (pv 1) (pe_glob (v := .ref T.a_MOST_IN_LEAF) rfl T.g_MOST_IN_LEAF rfl) (by with_unfolding_all rfl)) (pss_one (ps_ret (pe_and (pe_cmpR op_eq (pe_callB call_len_seq rfl T.n_len bo_len (pa_c (pv 0) pa_nil)) pe_int (nomark _)) (pe_one (pe_call F_is_whole hr rfl T.m_is_whole T.f_is_whole.kp (b_is_whole T) .nil pass0 (pa_c (pe_ix ix_tup (pv 0) pe_int (fun _ _ => rfl)) (pa_c pe_int (pa_c (pe_ix ix_tab (pe_glob (v := .ref T.a_MOST_IN_LEAF) rfl T.g_MOST_IN_LEAF rfl) (pv 1) (fun _ _ => rfl)) pa_nil)))))))) pss_nil)
  (pss_one (ps_ret (pe_and (pe_cmpR op_inTab (pv 1) (pe_glob (v := .ref T.a_TREES_IN_BRANCH) rfl T.g_TREES_IN_BRANCH rfl) (by with_unfolding_all rfl)) (pe_one (pe_cmpR op_eq (pe_callB call_len_seq rfl T.n_len bo_len (pa_c (pv 0) pa_nil)) (pe_op op_add pe_int (pe_ix ix_tab (pe_glob (v := .ref T.a_TREES_IN_BRANCH) rfl T.g_TREES_IN_BRANCH rfl) (pv 1) (fun _ _ => rfl))) (nomark _))))))))), ?_⟩
  refine rs_ifr (K := K) (b := !taggedD x) (rt_not (rt_truth (re_call (ra_cons (re_var h0) ra_nil) ⟨x, rfl, rfl⟩))) (fun c H1 s1 => ?_) (fun c H1 s1 => ?_)
  · refine rs_ret (K := K) (d := .bl (nodeD x)) ?_ fun v H' s q => post v H' (s1.trans s) q
    have e : nodeD x = false := by
      unfold nodeD
      split
      · unfold taggedD at c; simp at c
      · rfl
    rw [e]
    exact re_bl
  · have h0' := s1.dat h0
    have c' : taggedD x = true := by simpa using c
    unfold taggedD at c'
    split at c'
    · rename_i kd r
      refine rs_setr (K := K) (d := .str kd) (re_ix (k := 0) (re_var h0') re_int rfl) fun v1 H2 s2 q2 => ?_
      have h2 := s2.dat h0'
      have ev := q2.strE
      subst ev
      refine rs_ifr (K := K) (b := KTD.inKeys kd TL) (rt_test (re_inTab (re_var q2) T.t_MOST_IN_LEAF)) (fun cL H3 s3 => ?_) (fun cL H3 s3 => ?_)
      · have h3 := s3.dat h2
        have e : nodeD (.tup (.str kd :: r)) = (decide ((r.length : Int) + 1 = 2) && wholeD (r.getD 0 .non) 0 (valI kd TL)) := by
          show (if KTD.inKeys kd TL = true then _ else _) = _
          rw [if_pos cL]
        refine rs_ret (K := K) (d := .bl (nodeD (.tup (.str kd :: r)))) ?_ fun v H' s q => post v H' (s1.trans (s2.trans (s3.trans s))) q
        rw [e]
        have el : ((((D.str kd) :: r).length : Nat) : Int) = (r.length : Int) + 1 := by rw [List.length_cons]; omega
        have b1 := re_eqI (K := K) (re_len (re_var (σ := (start ["thing", "kind"] [v0]).set 1 (some (.str kd))) (k := 0) h3)) (re_int (i := 2))
        rw [el] at b1
        refine re_and b1 fun hl => ?_
        have hl' : (r.length : Int) + 1 = 2 := of_decide_eq_true hl
        obtain ⟨y, er⟩ : ∃ y, r = [y] := by
          match r, hl' with
          | [], h => simp at h
          | [y], _ => exact ⟨y, rfl⟩
          | _ :: _ :: _, h => simp at h; omega
        subst er
        refine re_call (E := E0) (R := Rwhole) (ra_cons (re_ix (k := 1) (re_var h3) re_int rfl) (ra_cons re_int (ra_cons (re_ixTab (re_var (s3.dat q2)) T.t_MOST_IN_LEAF (by rfl) (tabI TL_int cL)) ra_nil))) ⟨y, 0, valI kd TL, rfl, rfl⟩
      · have h3 := s3.dat h2
        have e : nodeD (.tup (.str kd :: r)) = (KTD.inKeys kd TB && decide ((r.length : Int) + 1 = 1 + valI kd TB)) := by
          show (if KTD.inKeys kd TL = true then _ else _) = _
          rw [if_neg (by rw [cL]; exact Bool.false_ne_true)]
        refine rs_ret (K := K) (d := .bl (nodeD (.tup (.str kd :: r)))) ?_ fun v H' s q => post v H' (s1.trans (s2.trans (s3.trans s))) q
        rw [e]
        have el : ((((D.str kd) :: r).length : Nat) : Int) = (r.length : Int) + 1 := by rw [List.length_cons]; omega
        refine re_and (re_inTab (re_var (s3.dat q2)) T.t_TREES_IN_BRANCH) fun cB => ?_
        have b1 := re_eqI (K := K) (re_len (re_var (σ := (start ["thing", "kind"] [v0]).set 1 (some (.str kd))) (k := 0) h3)) (re_add (re_int (i := 1)) (re_ixTab (re_var (σ := (start ["thing", "kind"] [v0]).set 1 (some (.str kd))) (k := 1) (s3.dat q2)) T.t_TREES_IN_BRANCH (by rfl) (tabI TB_int cB)))
        rw [el] at b1
        exact b1
    · cases c'
theorem ok_trees_within (T : Txt P w K mg)  : FnOk P w K mg base CX0 (k + 1) T.a_trees_within T.d_trees_within ["tree"] (spD K Rwithin) := by
  refine T.f_trees_within.ok sc_trees_within (fun vs H Q E h => ?_) (fun cdv A outer s H vs Q E hr h => ?_)
  · obtain ⟨ds, d, hd, ⟨kd, r, rfl, rfl⟩, _⟩ := h; exact hd.length.symm
  have nd := sc_trees_within.nd
  obtain ⟨ds, d, hd, ⟨kd, r, rfl, rfl⟩, post⟩ := h
  obtain ⟨v0, rfl, h0⟩ := dats1 hd
  refine ⟨_, (pss_cons (ps_if (pt_cmpR op_inTab (pe_ix ix_tup (pv 0) pe_int (fun _ _ => rfl)) (pe_glob (v := .ref T.a_TREES_IN_BRANCH) rfl T.g_TREES_IN_BRANCH rfl) (by with_unfolding_all rfl)) (pss_one (ps_ret (pe_slice sl_tup (pv 0) (po_some pe_int) po_none))) pss_nil)
  (pss_one (ps_ret (pe_tup pa_nil)))), ?_⟩
  refine rs_ifr (K := K) (b := KTD.inKeys kd TB) (rt_test (re_inTab (re_ix (k := 0) (re_var h0) re_int rfl) T.t_TREES_IN_BRANCH)) (fun c H1 s1 => ?_) (fun c H1 s1 => ?_)
  · refine rs_ret (K := K) (d := .tup r) (re_slice1 (re_var (s1.dat h0))) fun v H' s q => post v H' (s1.trans s) ?_
    show Dat K H' (.tup (if KTD.inKeys kd TB = true then r else [])) v
    rw [if_pos c]
    exact q
  · refine rs_ret (K := K) (σ := start ["tree"] [v0]) (d := .tup []) (re_tup ra_nil) fun v H' s q => post v H' (s1.trans s) ?_
    show Dat K H' (.tup (if KTD.inKeys kd TB = true then r else [])) v
    rw [if_neg (by rw [c]; exact Bool.false_ne_true)]
    exact q

theorem pickI {ns : List Int} {k : Int} (h0 : 0 ≤ k) (h1 : k < (ns.length : Int)) : ∃ z, atI (ns.map V.int) k = some (.int z) := by
  have hk : k.toNat < ns.length := by omega
  refine ⟨ns[k.toNat], ?_⟩
  have e : k = ((k.toNat : Nat) : Int) := by omega
  have q : atI (ns.map V.int) ((k.toNat : Nat) : Int) = some (.int ns[k.toNat]) := atI_nat (by rw [List.getElem?_map, List.getElem?_eq_getElem hk] <;> rfl)
  rw [← e] at q
  exact q
theorem ok__law_draw (T : Txt P w K mg)  : FnOk P w K mg base CX0 (k + 1) T.a__law_draw T.d__law_draw ["_law_script", "_law_town", "_law_many"] (spDraw K) := by
  refine T.f__law_draw.ok sc__law_draw (fun vs H Q E h => ?_) (fun cdv A outer s H vs Q E hr h => ?_)
  · obtain ⟨a, t, ns, m, p, q, rest, rfl, _⟩ := h; rfl
  have nd := sc__law_draw.nd
  obtain ⟨a, t, ns, m, p, q, rest, rfl, hS, hT, hp, hm, hm2, post⟩ := h
  refine ⟨_, (pss_cons (ps_if (pt_cmpR op_gt (pe_ix ix_list (pv 1) pe_int (fun _ _ => rfl)) pe_int (nomark _)) (pss_cons (ps_set (i := 3) nd rfl (Or.inl rfl) (pe_op op_mod (pe_ix ix_list (pv 1) pe_int (fun _ _ => rfl)) (pv 2)))
  (pss_cons (ps_asg (pe_op op_fdiv (pe_ix ix_list (pv 1) pe_int (fun _ _ => rfl)) (pv 2)) (pg_sub (pv 1) pe_int set_list))
  (pss_one (ps_ret (pv 3))))) pss_nil)
  (pss_cons (ps_set (i := 4) nd rfl (Or.inl rfl) (pe_ix ix_list (pv 1) pe_int (fun _ _ => rfl)))
  (pss_cons (ps_augS (pv 1) pe_int get_list pe_int ip_add set_list)
  (pss_cons (ps_if (pt_cmpR (op_eqL hr) (pv 0) (pe_lst pa_nil) (nomark _)) (pss_one (ps_ret (pe_op op_mod (pv 4) (pv 2)))) pss_nil)
  (pss_cons (ps_if (PW.pt (pw_and (pt_cmpR op_lt (pv 4) (pe_callB call_len_seq rfl T.n_len bo_len (pa_c (pv 0) pa_nil)) (nomark _)) (pw_and1 (pt_cmpR op_ge (pe_ix ix_list (pv 0) (pv 4) (fun _ _ => rfl)) (pe_op op_pow pe_int pe_int) (nomark _))))) (pss_cons (ps_asg (pe_op op_mod (pe_op op_fdiv (pe_ix ix_list (pv 0) (pv 4) (fun _ _ => rfl)) (pv 2)) (pe_op op_mulB (pe_op op_pow pe_int pe_int) (pe_op op_pow pe_int pe_int))) (pg_sub (pv 1) pe_int set_list))
  (pss_one (ps_ret (pe_op op_mod (pe_ix ix_list (pv 0) (pv 4) (fun _ _ => rfl)) (pv 2))))) pss_nil)
  (pss_cons (ps_set (i := 5) nd rfl (Or.inl rfl) (pe_op op_mod (pe_op op_add (pe_op op_add (pe_op op_mul (pe_ix ix_list (pv 0) (pe_op op_mod (pv 4) (pe_callB call_len_seq rfl T.n_len bo_len (pa_c (pv 0) pa_nil))) (fun _ _ => rfl)) pe_int) (pe_op op_mul pe_int (pv 4))) pe_int) pe_int))
  (pss_one (ps_ret (pe_op op_mod (pe_op op_mod (pe_op op_mod (pe_op op_pow (pv 5) pe_int) pe_int) pe_int) (pv 2)))))))))), ?_⟩
  refine ⟨_, rfl, t, _, 1, _, rfl, rfl, SqL.of hT, at1, q, 0, rfl, rfl, _, rfl, ?_⟩
  refine ite2 (fun c => ?_) (fun c => ?_)
  · refine ⟨_, rfl, t, _, 1, _, rfl, rfl, SqL.of hT, at1, _, rfl, q, m, rfl, rfl, hm, ?_⟩
    refine ⟨_, rfl, t, _, 1, _, rfl, rfl, SqL.of hT, at1, _, rfl, q, m, rfl, rfl, ⟨hm, by omega⟩, ?_⟩
    refine ⟨_, rfl, t, _, 1, 1, rfl, rfl, hT, ix1, ?_⟩
    refine ⟨_, rfl, ?_⟩
    exact post (q % m) _ p (q / m) (But.upd (Same.refl H).but) upd_same hp (Int.emod_nonneg _ (by omega)) (Int.emod_lt_of_pos _ hm)
  refine ⟨_, rfl, t, _, 0, _, rfl, rfl, SqL.of hT, at0, ?_⟩
  refine ⟨_, rfl, t, _, 0, _, rfl, rfl, Int.le_refl 0, SqL.of hT, rfl, p, 1, rfl, rfl, t, _, 0, 0, rfl, rfl, hT, ix0, ?_⟩
  refine ⟨_, rfl, (by show 0 ≤ sizeLine; decide), fun l hl => ?_⟩
  have bt1 : But t H (upd H t (.lst ((V.int p :: .int q :: rest).set 0 (.int (p + 1))))) := But.upd (Same.refl H).but
  have hlt : l ≠ t := fun z => by rw [z, upd_same] at hl; cases hl
  have bt3 := bt1.trans (same_new hl (.lst [])).but
  have ht3 : upd (upd H t (.lst ((V.int p :: .int q :: rest).set 0 (.int (p + 1))))) l (.lst []) t = some (.lst (.int (p + 1) :: .int q :: rest)) := by
    rw [upd_ne (Ne.symm hlt)]; exact upd_same
  have hS3 := (hS.but bt3 hT).sqL
  have hlen : ((ns.map V.int).length : Int) = (ns.length : Int) := by rw [List.length_map]
  refine ⟨a, l, _, [], ns.map D.int, [], rfl, rfl, hS3, SqL.of upd_same, dats_ints ns, Dats.nil, noLs_ints ns, (by unfold noLs; rfl), (by rw [deepDs_ints]; decide), _, rfl, ?_⟩
  show (if eqDs (ns.map D.int) [] = true then _ else _)
  rw [eqDs_nil]
  refine ite2 (fun c0 => ?_) (fun c0 => ?_)
  · refine ⟨_, rfl, _, rfl, p, m, rfl, rfl, hm, ?_⟩
    exact post _ _ (p + 1) q bt3 ht3 (by omega) (Int.emod_nonneg _ (by omega)) (Int.emod_lt_of_pos _ hm)
  have hl0 : (0 : Int) < ((ns.map V.int).length : Int) := by
    rw [hlen]
    cases ns with
    | nil => exact absurd rfl c0
    | cons n ns => rw [List.length_cons]; omega
  refine ⟨_, rfl, _, rfl, a, _, rfl, .inl hS3, p, _, rfl, rfl, _, rfl, ?_⟩
  refine ite2 (fun c1 => ?_) (fun c1 => ?_)
  · have c1' : p < ((ns.map V.int).length : Int) := of_decide_eq_true c1
    obtain ⟨z, hz⟩ := pickI (ns := ns) hp (by rw [← hlen]; exact c1')
    refine ⟨_, rfl, _, rfl, a, _, p, _, rfl, rfl, hS3, hz, 10, 18, rfl, rfl, ⟨by decide, by decide, by decide⟩, z, _, rfl, rfl, _, rfl, ?_⟩
    refine ite2 (fun c2 => ?_) (fun c2 => ?_)
    · refine ⟨_, rfl, _, rfl, a, _, p, _, rfl, rfl, hS3, hz, _, rfl, z, m, rfl, rfl, ⟨hm, by omega⟩, 10, 60, rfl, rfl, ⟨by decide, by decide, by decide⟩, 10, 60, rfl, rfl, ⟨by decide, by decide, by decide⟩, _, _, rfl, rfl, IntMulOk.of_bits (by decide +kernel) (by decide +kernel), _, _, rfl, rfl, (by show (0 : Int) < 10 ^ (60 : Int).toNat * 10 ^ (60 : Int).toNat; decide +kernel), ?_⟩
      refine ⟨_, rfl, t, _, 1, 1, rfl, rfl, ht3, ix1, ?_⟩
      refine ⟨_, rfl, _, rfl, a, _, p, _, rfl, rfl, (hS.but bt3.upd hT).sqL, hz, _, rfl, z, m, rfl, rfl, hm, ?_⟩
      exact post _ _ (p + 1) _ bt3.upd upd_same (by omega) (Int.emod_nonneg _ (by omega)) (Int.emod_lt_of_pos _ hm)
    · refine ⟨_, rfl, _, rfl, _, rfl, a, _, rfl, .inl hS3, p, _, rfl, rfl, hl0, ?_⟩
      obtain ⟨z2, hz2⟩ := pickI (ns := ns) (Int.emod_nonneg p (by omega : ((ns.map V.int).length : Int) ≠ 0)) (by rw [← hlen]; exact Int.emod_lt_of_pos p hl0)
      refine ⟨a, _, _, _, rfl, rfl, hS3, hz2, z2, 1103515245, rfl, rfl, .inr ⟨by decide, by decide⟩, _, rfl, 7919, p, rfl, rfl, .inl ⟨by decide, by decide⟩, _, _, rfl, rfl, _, _, rfl, rfl, _, _, rfl, rfl, (by show (0 : Int) < 2147483647; decide), ?_⟩
      have m1 := Int.emod_nonneg (z2 * 1103515245 + 7919 * p + 12345) (by decide : (2147483647 : Int) ≠ 0)
      have m2 := Int.emod_lt_of_pos (z2 * 1103515245 + 7919 * p + 12345) (by decide : (0 : Int) < 2147483647)
      refine ⟨_, rfl, _, 5, rfl, rfl, ⟨by decide, by decide, by omega⟩, _, _, rfl, rfl, (by show (0 : Int) < 2147483647; decide), _, _, rfl, rfl, (by show (0 : Int) < 999983; decide), _, rfl, _, m, rfl, rfl, hm, ?_⟩
      exact post _ _ (p + 1) q bt3 ht3 (by omega) (Int.emod_nonneg _ (by omega)) (Int.emod_lt_of_pos _ hm)
  · refine ⟨_, rfl, _, rfl, _, rfl, a, _, rfl, .inl hS3, p, _, rfl, rfl, hl0, ?_⟩
    obtain ⟨z2, hz2⟩ := pickI (ns := ns) (Int.emod_nonneg p (by omega : ((ns.map V.int).length : Int) ≠ 0)) (by rw [← hlen]; exact Int.emod_lt_of_pos p hl0)
    refine ⟨a, _, _, _, rfl, rfl, hS3, hz2, z2, 1103515245, rfl, rfl, .inr ⟨by decide, by decide⟩, _, rfl, 7919, p, rfl, rfl, .inl ⟨by decide, by decide⟩, _, _, rfl, rfl, _, _, rfl, rfl, _, _, rfl, rfl, (by show (0 : Int) < 2147483647; decide), ?_⟩
    have m1 := Int.emod_nonneg (z2 * 1103515245 + 7919 * p + 12345) (by decide : (2147483647 : Int) ≠ 0)
    have m2 := Int.emod_lt_of_pos (z2 * 1103515245 + 7919 * p + 12345) (by decide : (0 : Int) < 2147483647)
    refine ⟨_, rfl, _, 5, rfl, rfl, ⟨by decide, by decide, by omega⟩, _, _, rfl, rfl, (by show (0 : Int) < 2147483647; decide), _, _, rfl, rfl, (by show (0 : Int) < 999983; decide), _, rfl, _, m, rfl, rfl, hm, ?_⟩
    exact post _ _ (p + 1) q bt3 ht3 (by omega) (Int.emod_nonneg _ (by omega)) (Int.emod_lt_of_pos _ hm)

def spPick (K : PySem.W.Frag) : Sp := fun vs H Q _ => ∃ (a t l : Addr) (ns : List Int) (xs : List V) (p q : Int) (rest : List V), vs = [.ref a, .ref t, .ref l] ∧ Scr K H a ns ∧ SqL K H l xs ∧ l ≠ t ∧ 0 < xs.length ∧ xs.length ≤ 1000000 ∧
  H t = some (.lst (.int p :: .int q :: rest)) ∧ 0 ≤ p ∧ ∀ (i : Nat) (x : V) (H' : Hp) (p' q' : Int), But t H H' → H' t = some (.lst (.int p' :: .int q' :: rest)) → 0 ≤ p' → xs[i]? = some x → Q x H'
theorem ok__law_pick (T : Txt P w K mg) (F__law_draw : FnOk P w K mg base CX0 k T.a__law_draw T.d__law_draw ["_law_script", "_law_town", "_law_many"] (spDraw K)) : FnOk P w K mg base CX0 (k + 1) T.a__law_pick T.d__law_pick ["_law_script", "_law_town", "_law_some"] (spPick K) := by
  refine T.f__law_pick.ok sc__law_pick (fun vs H Q E h => ?_) (fun cdv A outer s H vs Q E hr h => ?_)
  · obtain ⟨a, t, l, ns, xs, p, q, rest, rfl, _⟩ := h; rfl
  have nd := sc__law_pick.nd
  obtain ⟨a, t, l, ns, xs, p, q, rest, rfl, hS, hL, hlt, hx0, hx1, hT, hp, post⟩ := h
  refine ⟨_, (pss_one (ps_ret (pe_ix ix_list (pv 2) (pe_call F__law_draw hr rfl T.m__law_draw T.f__law_draw.kp (b__law_draw T) .nil pass0 (pa_c (pv 0) (pa_c (pv 1) (pa_c (pe_callB call_len_seq rfl T.n_len bo_len (pa_c (pv 2) pa_nil)) pa_nil)))) (fun _ _ => rfl)))), ?_⟩
  refine ⟨_, rfl, _, rfl, _, rfl, _, rfl, l, xs, rfl, .inl hL, a, t, ns, (xs.length : Int), p, q, rest, rfl, hS, hT, hp, by omega, by omega, fun r H1 p1 q1 b1 t1 g1 r0 r1 => ?_⟩
  have hr' : r.toNat < xs.length := by omega
  have er : r = ((r.toNat : Nat) : Int) := by omega
  have z : atI xs ((r.toNat : Nat) : Int) = some xs[r.toNat] := atI_nat (List.getElem?_eq_getElem hr')
  rw [← er] at z
  exact ⟨l, xs, r, xs[r.toNat], rfl, rfl, b1.sqL hlt hL, z, post r.toNat _ H1 p1 q1 b1 t1 g1 (List.getElem?_eq_getElem hr')⟩
end
end My
end
section
set_option Elab.async false
set_option linter.all false
set_option maxRecDepth 100000
set_option maxHeartbeats 4000000
namespace My
open PySem L2 PyProof.Rows
/-! ### trees -/
theorem nodeD_br {k : Str} {r : List D} (h : KTD.inKeys k TL = false) : nodeD (.tup (.str k :: r)) = (KTD.inKeys k TB && decide ((r.length : Int) + 1 = 1 + valI k TB)) := by
  unfold nodeD
  dsimp only
  rw [if_neg (by rw [h]; exact Bool.false_ne_true)]
theorem kidsD_out {k : Str} {r : List D} (h : KTD.inKeys k TB = false) : kidsD (.tup (.str k :: r)) = [] := by
  unfold kidsD
  dsimp only
  rw [if_neg (by rw [h]; exact Bool.false_ne_true)]
/-! ### is_tree as a loop: the top of the pile first -/
/-! ### things that are none -/
end My
end
section
set_option Elab.async false
set_option linter.all false
set_option maxRecDepth 100000
set_option maxHeartbeats 4000000
namespace My
open PySem L2 PyProof.Rows
section
variable {P : Program} {w : World} {K : PySem.W.Frag} {mg : Str → Option Value} {base : Heap} {k : Nat}

theorem valI_TB (k : Str) : valI k TB ≤ 3 := by
  unfold valI
  split
  · rename_i i e
    simp only [TB, KTD.datumAt] at e
    repeat' split at e
    all_goals first
      | (cases e; decide)
      | cases e
  · decide
theorem kids_few {d : D} (h : nodeD d = true) : (kidsD d).length ≤ 3 := by
  unfold nodeD at h
  split at h
  · rename_i k r
    unfold kidsD
    dsimp only
    split
    · rename_i hb
      split at h
      · rw [Bool.and_eq_true] at h
        have z := of_decide_eq_true h.1
        omega
      · rw [Bool.and_eq_true] at h
        have z := of_decide_eq_true h.2
        have z2 := valI_TB k
        omega
    · exact Nat.zero_le _
  · cases h
theorem node_tag {d : D} (h : nodeD d = true) : ∃ k r, d = .tup (.str k :: r) := by
  unfold nodeD at h
  split at h
  · exact ⟨_, _, rfl⟩
  · cases h
end
end My
end
section
set_option Elab.async false
set_option linter.all false
set_option maxRecDepth 100000
set_option maxHeartbeats 4000000
namespace My
open PySem L2 PyProof.Rows
section
variable {P : Program} {w : World} {K : PySem.W.Frag} {mg : Str → Option Value} {base : Heap} {k : Nat}

theorem bnot_t {b : Bool} (h : (!b) = true) : b = false := by cases b with | true => cases h | false => rfl
theorem bnot_f {b : Bool} (h : (!b) = false) : b = true := by cases b with | true => rfl | false => cases h
def sgn (c : Nat) : Bool := (!decide (([c] : List Nat) < ("a" : Str).cps.toList)) && !decide (("z" : Str).cps.toList < ([c] : List Nat))
def nameD : D → Bool
  | .str x => (decide (1 ≤ (x.length : Int)) && decide ((x.length : Int) ≤ 8)) && (x.cps.toList.map sgn).all id
  | _ => false
/-- texts are not too long -/
def okStr : D → Prop
  | .str x => x.length ≤ sizeLine
  | _ => True
def Rname (ds : List D) (d : D) : Prop := ∃ x, ds = [x] ∧ okStr x ∧ d = .bl (nameD x)
theorem isi_str_no {x : D} (h : ∀ y, x ≠ .str y) : isiD x "str" = false := by
  cases x with
  | str y => exact absurd rfl (h y)
  | _ => rfl
theorem nameD_no {x : D} (h : ∀ y, x ≠ .str y) : nameD x = false := by
  cases x with
  | str y => exact absurd rfl (h y)
  | _ => rfl
theorem ok_is_name (T : Txt P w K mg)  : FnOk P w K mg base CX0 (k + 1) T.a_is_name T.d_is_name ["thing"] (spD K Rname) := by
  refine T.f_is_name.ok sc_is_name (fun vs H Q E h => ?_) (fun cdv A outer s H vs Q E hr h => ?_)
  · obtain ⟨ds, d, hd, ⟨x, rfl, _⟩, _⟩ := h; exact hd.length.symm
  have nd := sc_is_name.nd
  obtain ⟨ds, d, hd, ⟨x, rfl, hx, rfl⟩, post⟩ := h
  obtain ⟨v0, rfl, h0⟩ := dats1 hd
  refine ⟨_, (pss_cons (ps_if (PW.pt (pw_or (pt_not (pt_truth (pe_callB (call_isi hi_str) rfl T.n_isinstance bo_isinstance (pa_cons (pv 0) (pa_cons (pe_bltn (v := .ty "str") rfl T.n_str bo_str rfl) pa_nil))) (fun _ => rfl))) (pw_or1 (pt_not (pt_chain op_le op_le pe_int (pe_callB call_len_str rfl T.n_len bo_len (pa_c (pv 0) pa_nil)) (pe_glob (v := .int 8) rfl T.g_LONGEST_NAME ⟨_, rfl⟩)))))) (pss_one (ps_ret pe_bl)) pss_nil)
  (pss_one (ps_ret (pe_callB (call_all rfl) rfl T.n_all bo_all (pa_c (pe_comp (own := ["sign"]) (fr := []) (N' := ["sign"]) (pi_str (pv 0)) rfl (by show blkChk ["thing"] (fun x => (defScope s_is_name).names.lookup x) _ _ _ _ = true; decide +kernel) rfl (fun _ _ _ _ _ => (pg_name (i := 0) (by show List.Nodup [("sign" : Str)]; decide +kernel) rfl (Or.inl rfl))) (fun _ _ _ _ _ => pifs_nil) (fun _ _ _ _ _ => (pe_chain op_leS op_leS pe_str (pv 0) pe_str))) pa_nil))))), ?_⟩
  by_cases hs : ∃ y, x = .str y
  · obtain ⟨y, rfl⟩ := hs
    have hx : y.length ≤ sizeLine := hx
    refine rs_ifr (K := K) (b := !(decide (1 ≤ (y.length : Int)) && decide ((y.length : Int) ≤ 8))) ?_ (fun c H1 s1 => ?_) (fun c H1 s1 => ?_)
    · exact RT.as (rt_or (rt_not (rt_truth (re_isi (re_var h0)))) fun _ => rt_not (rt_test (re_chain (p := fun i j => decide (i ≤ j)) (r := fun i j => decide (i ≤ j)) re_int (re_lenS (re_var h0) hx) fun _ => re_int))) rfl
    · refine rs_ret (K := K) (d := .bl (nameD (.str y))) ?_ fun v H' s q => post v H' (s1.trans s) q
      have e : nameD (.str y) = false := by
        show (_ && _) = false
        have c' := bnot_t c
        rw [c', Bool.false_and]
      rw [e]
      exact re_bl
    · have c' := bnot_f c
      have hy : y.cps.size ≤ 8 := by
        rw [Bool.and_eq_true] at c'
        have := of_decide_eq_true c'.2
        have e : y.length = y.cps.size := rfl
        omega
      refine rs_ret (K := K) (d := .bl (nameD (.str y))) ?_ fun v H' s q => post v H' (s1.trans s) q
      have e : nameD (.str y) = (y.cps.toList.map sgn).all id := by
        show (_ && _) = _
        rw [c', Bool.true_and]
      rw [e]
      refine re_allC (bs := y.cps.toList.map sgn) (rc_str (re_var (s1.dat h0)) (by omega) _ (by simp) rfl (fun H2 i c d s2 hc hd2 => ?_))
      rw [List.getElem?_map, List.getElem?_map] at hd2
      have hc' : y.cps.toList[i]? = some c := by simpa using hc
      rw [hc'] at hd2
      cases hd2
      refine RE.as (re_chainS (p := fun i j => !decide (j.cps.toList < i.cps.toList)) (q' := fun i j => !decide (j.cps.toList < i.cps.toList)) re_str (re_var (Dat.strI _)) fun _ => re_str) rfl
  · have hs' : ∀ y, x ≠ .str y := fun y e => hs ⟨y, e⟩
    refine rs_ifr (K := K) (b := true) ?_ (fun c H1 s1 => ?_) (fun c => nomatch c)
    · exact RT.as (rt_or (b := true) (c := true) (RT.as (rt_not (rt_truth (re_isi (re_var h0)))) (by rw [isi_str_no hs']; rfl)) fun c => nomatch c) rfl
    · refine rs_ret (K := K) (d := .bl (nameD x)) ?_ fun v H' s q => post v H' (s1.trans s) q
      rw [nameD_no hs']
      exact re_bl

theorem TM_int : ∀ p ∈ TM, ∃ i, p.2 = .flat (.int i) := by
  intro p hp
  simp only [TM, List.mem_cons, List.not_mem_nil, or_false] at hp
  rcases hp with rfl | rfl | rfl <;> exact ⟨_, rfl⟩
def markD : D → Bool
  | .tup (.str k :: r) => decide ((r.length : Int) + 1 = tabD k TM 0) && (wholeD (r.getD 0 .non) 0 1 && (!decide (k = "gap") || wholeD (r.getD 1 .non) 0 9999))
  | _ => false
theorem markD_eq (k : Str) (r : List D) : markD (.tup (.str k :: r)) = (decide ((r.length : Int) + 1 = tabD k TM 0) && (wholeD (r.getD 0 .non) 0 1 && (!decide (k = "gap") || wholeD (r.getD 1 .non) 0 9999))) := rfl
def Rmark (ds : List D) (d : D) : Prop := ∃ x, ds = [x] ∧ d = .bl (markD x)
theorem mark_len (k : Str) : tabD k TM 0 = 0 ∨ tabD k TM 0 = 2 ∨ (k = "gap" ∧ tabD k TM 0 = 3) := by
  unfold tabD
  by_cases h1 : k = "hole"
  · subst h1; exact .inr (.inl rfl)
  by_cases h2 : k = "gap"
  · subst h2; exact .inr (.inr ⟨rfl, rfl⟩)
  by_cases h3 : k = "slot"
  · subst h3; exact .inr (.inl rfl)
  have e : KTD.datumAt k TM = none := by simp [TM, KTD.datumAt, h1, h2, h3]
  rw [e]
  exact .inl rfl
theorem tag_no {x : D} (h : taggedD x = false) : markD x = false := by
  unfold taggedD at h
  unfold markD
  split at h
  · cases h
  · rename_i hn
    first
      | rfl
      | (split
         · rename_i k r; exact absurd rfl (hn k r)
         · rfl)
theorem ok_is_mark (T : Txt P w K mg) (F_is_tagged : FnOk P w K mg base CX0 k T.a_is_tagged T.d_is_tagged ["thing"] (spD K Rtagged)) (F_is_whole : FnOk P w K mg base CX0 k T.a_is_whole T.d_is_whole ["thing", "low", "high"] (spD K Rwhole)) : FnOk P w K mg base CX0 (k + 1) T.a_is_mark T.d_is_mark ["thing"] (spD K Rmark) := by
  refine T.f_is_mark.ok sc_is_mark (fun vs H Q E h => ?_) (fun cdv A outer s H vs Q E hr h => ?_)
  · obtain ⟨ds, d, hd, ⟨x, rfl, rfl⟩, _⟩ := h; exact hd.length.symm
  have nd := sc_is_mark.nd
  obtain ⟨ds, d, hd, ⟨x, rfl, rfl⟩, post⟩ := h
  obtain ⟨v0, rfl, h0⟩ := dats1 hd
  refine ⟨_, (pss_cons (ps_if (PW.pt (pw_or (pt_not (pt_truth (pe_call F_is_tagged hr rfl T.m_is_tagged T.f_is_tagged.kp (b_is_tagged T) .nil pass0 (pa_c (pv 0) pa_nil)) (fun _ => rfl))) (pw_or1 (pt_cmpR op_ne (pe_callB call_len_seq rfl T.n_len bo_len (pa_c (pv 0) pa_nil)) (pe_tabget (pe_glob (v := .ref T.a_MARK_LENGTHS) rfl T.g_MARK_LENGTHS rfl) (pe_ix ix_tup (pv 0) pe_int (fun _ _ => rfl)) pe_int ⟨rfl, rfl, rfl, rfl⟩) (nomark _))))) (pss_one (ps_ret pe_bl)) pss_nil)
  (pss_cons (ps_if (pt_not (pt_truth (pe_call F_is_whole hr rfl T.m_is_whole T.f_is_whole.kp (b_is_whole T) .nil pass0 (pa_c (pe_ix ix_tup (pv 0) pe_int (fun _ _ => rfl)) (pa_c pe_int (pa_c pe_int pa_nil)))) (fun _ => rfl))) (pss_one (ps_ret pe_bl)) pss_nil)
  (pss_one (ps_ret (pe_or (pe_cmpR op_ne (pe_ix ix_tup (pv 0) pe_int (fun _ _ => rfl)) pe_str (nomark _)) (pe_one (pe_call F_is_whole hr rfl T.m_is_whole T.f_is_whole.kp (b_is_whole T) .nil pass0 (pa_c (pe_ix ix_tup (pv 0) pe_int (fun _ _ => rfl)) (pa_c pe_int (pa_c (pe_glob (v := .int 9999) rfl T.g_MOST_GAP ⟨_, rfl⟩) pa_nil)))))))))), ?_⟩
  cases ht : taggedD x with
  | false =>
    refine rs_ifr (K := K) (b := true) ?_ (fun c H1 s1 => ?_) (fun c => nomatch c)
    · exact RT.as (rt_or (b := true) (c := true) (RT.as (rt_not (rt_truth (re_call (ra_cons (re_var h0) ra_nil) ⟨x, rfl, rfl⟩))) (by rw [ht]; rfl)) fun c => nomatch c) rfl
    · refine rs_ret (K := K) (d := .bl (markD x)) ?_ fun v H' s q => post v H' (s1.trans s) q
      rw [tag_no ht]
      exact re_bl
  | true =>
    have ht' := ht
    unfold taggedD at ht'
    split at ht'
    · rename_i kd r
      have el : ((((D.str kd) :: r).length : Nat) : Int) = (r.length : Int) + 1 := by rw [List.length_cons]; omega
      refine rs_ifr (K := K) (b := !decide ((r.length : Int) + 1 = tabD kd TM 0)) ?_ (fun c H1 s1 => ?_) (fun c H1 s1 => ?_)
      · have b1 := re_neI (K := K) (re_len (re_var (σ := start ["thing"] [v0]) (k := 0) h0)) (re_tabget (i := 0) T.t_MARK_LENGTHS (re_ix (k := 0) (re_var (σ := start ["thing"] [v0]) (k := 0) h0) re_int rfl) re_int TM_int)
        rw [el] at b1
        exact RT.as (rt_or (b := false) (RT.as (rt_not (rt_truth (re_call (ra_cons (re_var h0) ra_nil) ⟨_, rfl, rfl⟩))) (by rw [ht]; rfl)) fun _ => rt_test b1) (Bool.false_or _)
      · refine rs_ret (K := K) (d := .bl (markD (.tup (.str kd :: r)))) ?_ fun v H' s q => post v H' (s1.trans s) q
        have e : markD (.tup (.str kd :: r)) = false := by
          rw [markD_eq]
          rw [show decide ((r.length : Int) + 1 = tabD kd TM 0) = false from bnot_t c, Bool.false_and]
        rw [e]
        exact re_bl
      · have c' : decide ((r.length : Int) + 1 = tabD kd TM 0) = true := bnot_f c
        have hl := of_decide_eq_true c'
        have h1 := s1.dat h0
        obtain ⟨y, r', er⟩ : ∃ y r', r = y :: r' := by
          cases r with
          | nil => rcases mark_len kd with h | h | ⟨_, h⟩ <;> (rw [h] at hl; simp at hl)
          | cons y r' => exact ⟨y, r', rfl⟩
        subst er
        refine rs_ifr (K := K) (b := !wholeD y 0 1) (rt_not (rt_truth (re_call (R := Rwhole) (ra_cons (re_ix (k := 1) (re_var h1) re_int rfl) (ra_cons re_int (ra_cons re_int ra_nil))) ⟨y, 0, 1, rfl, rfl⟩))) (fun c2 H2 s2 => ?_) (fun c2 H2 s2 => ?_)
        · refine rs_ret (K := K) (d := .bl (markD (.tup (.str kd :: y :: r')))) ?_ fun v H' s q => post v H' (s1.trans (s2.trans s)) q
          have e : markD (.tup (.str kd :: y :: r')) = false := by
            rw [markD_eq, c', Bool.true_and]
            show (wholeD y 0 1 && _) = false
            rw [show wholeD y 0 1 = false from bnot_t c2, Bool.false_and]
          rw [e]
          exact re_bl
        · refine rs_ret (K := K) (d := .bl (markD (.tup (.str kd :: y :: r')))) ?_ fun v H' s q => post v H' (s1.trans (s2.trans s)) q
          have h2 := s2.dat h1
          have e : markD (.tup (.str kd :: y :: r')) = (!decide (kd = "gap") || wholeD (r'.getD 0 .non) 0 9999) := by
            rw [markD_eq, c', Bool.true_and]
            show (wholeD y 0 1 && (!decide (kd = "gap") || wholeD (r'.getD 0 .non) 0 9999)) = _
            rw [show wholeD y 0 1 = true from bnot_f c2, Bool.true_and]
          rw [e]
          refine re_or (re_neS (re_ix (k := 0) (re_var h2) re_int rfl) re_str) fun c3 => ?_
          have hk : kd = "gap" := by simpa using c3
          obtain ⟨z, er⟩ : ∃ z, r' = [z] := by
            rcases mark_len kd with h | h | ⟨_, h⟩
            · rw [h] at hl; simp at hl; omega
            · rw [hk] at h; exact absurd h (by decide +kernel)
            · rw [h] at hl
              match r', hl with
              | [z], _ => exact ⟨z, rfl⟩
              | [], h => simp at h
              | _ :: _ :: _, h => simp at h; omega
          subst er
          exact re_call (E := E0) (R := Rwhole) (ra_cons (re_ix (k := 2) (re_var h2) re_int rfl) (ra_cons re_int (ra_cons re_int ra_nil))) ⟨z, 0, 9999, rfl, rfl⟩
    · cases ht'
end
end My
end
section
set_option Elab.async false
set_option linter.all false
set_option maxRecDepth 100000
set_option maxHeartbeats 4000000
namespace My
open PySem L2 PyProof.Rows
section
variable {P : Program} {w : World} {K : PySem.W.Frag} {mg : Str → Option Value} {base : Heap} {k : Nat}

def argPick : D → Bool
  | .tup (.str k :: _) => decide (k ∈ (["arg", "pick"] : List Str))
  | _ => false
def ppD : Nat → D → Bool
  | 0, _ => false
  | n + 1, d => markD d || (nodeD d && (!argPick d && ((kidsD d).map (ppD n)).all id))
def Rpp (n : Nat) (ds : List D) (d : D) : Prop := ∃ x, ds = [x, .int (4 - (n : Int))] ∧ d = .bl (ppD n x)
def Rprev : Nat → List D → D → Prop
  | 0 => fun _ _ => False
  | n + 1 => Rpp n
theorem ok_is_pattern_part (T : Txt P w K mg) {n : Nat} (F_is_mark : FnOk P w K mg base CX0 k T.a_is_mark T.d_is_mark ["thing"] (spD K Rmark)) (F_is_node : FnOk P w K mg base CX0 k T.a_is_node T.d_is_node ["thing"] (spD K Rnode)) (F_trees_within : FnOk P w K mg base CX0 k T.a_trees_within T.d_trees_within ["tree"] (spD K Rwithin)) (F_is_pattern_part : FnOk P w K mg base CX0 k T.a_is_pattern_part T.d_is_pattern_part ["thing", "deep"] (spD K (Rprev n))) : FnOk P w K mg base CX0 (k + 1) T.a_is_pattern_part T.d_is_pattern_part ["thing", "deep"] (spD K (Rpp n)) := by
  refine T.f_is_pattern_part.ok sc_is_pattern_part (fun vs H Q E h => ?_) (fun cdv A outer s H vs Q E hr h => ?_)
  · obtain ⟨ds, d, hd, ⟨x, rfl, rfl⟩, _⟩ := h; exact hd.length.symm
  have nd := sc_is_pattern_part.nd
  obtain ⟨ds, d, hd, ⟨x, rfl, rfl⟩, post⟩ := h
  obtain ⟨v0, v1, rfl, h0, h1⟩ := dats2 hd
  refine ⟨_, (pss_cons (ps_if (pt_cmpR op_gt (pv 1) (pe_glob (v := .int 3) rfl T.g_MOST_PATTERN_DEEP ⟨_, rfl⟩) (nomark _)) (pss_one (ps_ret pe_bl)) pss_nil)
  (pss_cons (ps_if (pt_truth (pe_call F_is_mark hr rfl T.m_is_mark T.f_is_mark.kp (b_is_mark T) .nil pass0 (pa_c (pv 0) pa_nil)) (fun _ => rfl)) (pss_one (ps_ret pe_bl)) pss_nil)
  (pss_cons (ps_if (PW.pt (pw_or (pt_not (pt_truth (pe_call F_is_node hr rfl T.m_is_node T.f_is_node.kp (b_is_node T) .nil pass0 (pa_c (pv 0) pa_nil)) (fun _ => rfl))) (pw_or1 (pt_cmpR op_in_seq (pe_ix ix_tup (pv 0) pe_int (fun _ _ => rfl)) (pe_tup (pa_c pe_str (pa_c pe_str pa_nil))) (by with_unfolding_all rfl))))) (pss_one (ps_ret pe_bl)) pss_nil)
  (pss_one (ps_ret (pe_callB (call_all rfl) rfl T.n_all bo_all (pa_c (pe_comp (own := ["within"]) (fr := [1]) (N' := ["within", "deep"]) (pi_tup (pe_call F_trees_within hr rfl T.m_trees_within T.f_trees_within.kp (b_trees_within T) .nil pass0 (pa_c (pv 0) pa_nil))) rfl (by show blkChk ["thing", "deep"] (fun x => (defScope s_is_pattern_part).names.lookup x) _ _ _ _ = true; decide +kernel) rfl (fun _ _ _ _ _ => (pg_name (i := 0) (by show List.Nodup [("within" : Str), ("deep" : Str)]; decide +kernel) rfl (Or.inl rfl))) (fun _ _ _ _ _ => pifs_nil) (fun _ _ _ _ _ => (pe_call F_is_pattern_part hr rfl T.m_is_pattern_part T.f_is_pattern_part.kp (b_is_pattern_part T) .nil pass0 (pa_c (pv 0) (pa_c (pe_op op_add (pv 1) pe_int) pa_nil))))) pa_nil))))))), ?_⟩
  cases n with
  | zero =>
    refine rs_ifr (K := K) (b := true) (RT.as (rt_test (re_cmp (p := fun i j => decide (j < i)) (re_var h1) re_int)) rfl) (fun c H1 s1 => ?_) (fun c => nomatch c)
    exact rs_ret (K := K) (d := .bl false) re_bl fun v H' s q => post v H' (s1.trans s) q
  | succ n =>
    refine rs_ifr (K := K) (b := false) (RT.as (rt_test (re_cmp (p := fun i j => decide (j < i)) (re_var h1) re_int)) (decide_eq_false (by omega))) (fun c => nomatch c) (fun c H1 s1 => ?_)
    have h0 := s1.dat h0
    have h1 := s1.dat h1
    refine rs_ifr (K := K) (b := markD x) (rt_truth (re_call (ra_cons (re_var h0) ra_nil) ⟨x, rfl, rfl⟩)) (fun c H2 s2 => ?_) (fun c H2 s2 => ?_)
    · refine rs_ret (K := K) (d := .bl true) re_bl fun v H' s q => post v H' (s1.trans (s2.trans s)) ?_
      have e : ppD (n + 1) x = true := by unfold ppD; rw [c]; rfl
      rw [e]
      exact q
    have h0 := s2.dat h0
    have h1 := s2.dat h1
    have e1 : ppD (n + 1) x = (nodeD x && (!argPick x && ((kidsD x).map (ppD n)).all id)) := by
      show (markD x || _) = _
      rw [c, Bool.false_or]
    cases hn : nodeD x with
    | false =>
      refine rs_ifr (K := K) (b := true) (RT.as (rt_or (b := true) (c := true) (RT.as (rt_not (rt_truth (re_call (ra_cons (re_var h0) ra_nil) ⟨x, rfl, rfl⟩))) (by rw [hn]; rfl)) fun c => nomatch c) rfl) (fun c H3 s3 => ?_) (fun c => nomatch c)
      refine rs_ret (K := K) (d := .bl false) re_bl fun v H' s q => post v H' (s1.trans (s2.trans (s3.trans s))) ?_
      rw [e1, hn]
      exact q
    | true =>
      obtain ⟨kd, r, ek⟩ := node_tag hn
      have few := kids_few hn
      have h0' : Dat K H2 (.tup (.str kd :: r)) v0 := by rw [← ek]; exact h0
      refine rs_ifr (K := K) (b := argPick x) (RT.as (rt_or (b := false) (RT.as (rt_not (rt_truth (re_call (ra_cons (re_var h0) ra_nil) ⟨x, rfl, rfl⟩))) (by rw [hn]; rfl)) fun _ => rt_test (re_inS (ys := ["arg", "pick"]) (re_ix (k := 0) (re_var h0') re_int rfl) (re_tup (ra_cons re_str (ra_cons re_str ra_nil))))) (by rw [ek]; exact Bool.false_or _)) (fun c3 H3 s3 => ?_) (fun c3 H3 s3 => ?_)
      · refine rs_ret (K := K) (d := .bl false) re_bl fun v H' s q => post v H' (s1.trans (s2.trans (s3.trans s))) ?_
        rw [e1, hn, c3]
        exact q
      · have h1 := s3.dat h1
        refine rs_ret (K := K) (d := .bl (((kidsD x).map (ppD n)).all id)) (re_allC (rc_tup (cs := kidsD x) (re_call (R := Rwithin) (ra_cons (re_var (s3.dat h0)) ra_nil) ⟨kd, r, by rw [ek], by rw [ek]⟩) (by omega) _ (by simp) rfl (fun H4 i z vz d s4 hz hi hvz => ?_))) fun v H' s q => post v H' (s1.trans (s2.trans (s3.trans s))) ?_
        · rw [List.getElem?_map, List.getElem?_map, hz] at hi
          cases hi
          exact re_call (E := E0) (R := Rpp n) (ra_cons (re_var hvz) (ra_cons (RE.as (re_add (re_var (s4.dat h1)) re_int) (congrArg D.int (by omega : (4 : Int) - ((n + 1 : Nat) : Int) + 1 = 4 - (n : Int)))) ra_nil)) ⟨z, rfl, rfl⟩
        · rw [e1, hn, c3]
          exact q

def headIs (k : Str) : D → Bool
  | .tup (.str h :: _) => decide (h = k)
  | _ => false
def marksD : Nat → Str → D → List D
  | 0, _, _ => []
  | n + 1, k, d => if headIs k d = true then [d] else (kidsD d).flatMap (marksD n k)
def Rmarks (n : Nat) (ds es : List D) : Prop := ∃ x k, ds = [x, .str k] ∧ n ≤ 3 ∧ ppD n x = true ∧ es = marksD n k x
theorem mark_tag {d : D} (h : markD d = true) : ∃ k r, d = .tup (.str k :: r) := by
  unfold markD at h
  split at h
  · exact ⟨_, _, rfl⟩
  · cases h
theorem mark_key {k : Str} {r : List D} (h : markD (.tup (.str k :: r)) = true) : k = "hole" ∨ k = "gap" ∨ k = "slot" := by
  rw [markD_eq, Bool.and_eq_true] at h
  have hl := of_decide_eq_true h.1
  unfold tabD at hl
  by_cases h1 : k = "hole"
  · exact .inl h1
  by_cases h2 : k = "gap"
  · exact .inr (.inl h2)
  by_cases h3 : k = "slot"
  · exact .inr (.inr h3)
  have e : KTD.datumAt k TM = none := by simp [TM, KTD.datumAt, h1, h2, h3]
  rw [e] at hl
  dsimp only at hl
  omega
theorem three_no {k : Str} (h : k = "hole" ∨ k = "gap" ∨ k = "slot") : KTD.inKeys k TB = false ∧ KTD.inKeys k TL = false := by
  rcases h with rfl | rfl | rfl <;> decide +kernel
theorem mark_kids {d : D} (h : markD d = true) : kidsD d = [] := by
  obtain ⟨k, r, rfl⟩ := mark_tag h
  exact kidsD_out (three_no (mark_key h)).1
theorem pp_tag {n : Nat} {d : D} (h : ppD n d = true) : ∃ k r, d = .tup (.str k :: r) := by
  cases n with
  | zero => cases h
  | succ n =>
    have h' : (markD d || (nodeD d && (!argPick d && ((kidsD d).map (ppD n)).all id))) = true := h
    rw [Bool.or_eq_true] at h'
    rcases h' with h' | h'
    · exact mark_tag h'
    · rw [Bool.and_eq_true] at h'
      exact node_tag h'.1
theorem pp_kids {n : Nat} {d : D} (h : ppD (n + 1) d = true) : (kidsD d).length ≤ 3 ∧ ∀ c ∈ kidsD d, ppD n c = true := by
  have h' : (markD d || (nodeD d && (!argPick d && ((kidsD d).map (ppD n)).all id))) = true := h
  rw [Bool.or_eq_true] at h'
  rcases h' with h' | h'
  · rw [mark_kids h']
    exact ⟨by simp, fun c hc => absurd hc (by simp)⟩
  · rw [Bool.and_eq_true, Bool.and_eq_true] at h'
    refine ⟨kids_few h'.1, fun c hc => ?_⟩
    have z := List.all_eq_true.mp h'.2.2 (ppD n c) (List.mem_map.mpr ⟨c, hc, rfl⟩)
    exact z
theorem flat_le {α β : Type} (f : α → List β) (m : Nat) : ∀ l : List α, (∀ x ∈ l, (f x).length ≤ m) → (l.flatMap f).length ≤ l.length * m
  | [], _ => by simp
  | x :: l, h => by
    have h1 := h x (by simp)
    have h2 := flat_le f m l fun y hy => h y (by simp [hy])
    rw [List.flatMap_cons, List.length_append, List.length_cons, Nat.succ_mul]
    omega
theorem marks_le (k : Str) : ∀ (n : Nat) (d : D), ppD n d = true → (marksD n k d).length ≤ 3 ^ n
  | 0, d, h => by cases h
  | n + 1, d, h => by
    unfold marksD
    split
    · have : 1 ≤ 3 ^ (n + 1) := Nat.one_le_iff_ne_zero.mpr (by simp)
      simpa using this
    · obtain ⟨h1, h2⟩ := pp_kids h
      have z := flat_le (marksD n k) (3 ^ n) (kidsD d) fun c hc => marks_le k n c (h2 c hc)
      have z2 : (kidsD d).length * 3 ^ n ≤ 3 * 3 ^ n := Nat.mul_le_mul_right _ h1
      rw [Nat.pow_succ, Nat.mul_comm (3 ^ n) 3]
      omega
theorem p3 {n : Nat} (h : n ≤ 3) : 3 ^ n ≤ 27 := by
  match n, h with
  | 0, _ => decide
  | 1, _ => decide
  | 2, _ => decide
  | 3, _ => decide
theorem ok_marks_in (T : Txt P w K mg) {n : Nat} (F_trees_within : FnOk P w K mg base CX0 k T.a_trees_within T.d_trees_within ["tree"] (spD K Rwithin)) (F_marks_in : FnOk P w K mg base CX0 k T.a_marks_in T.d_marks_in ["pattern", "kind"] (spDL K (Rmarks n))) : FnOk P w K mg base CX0 (k + 1) T.a_marks_in T.d_marks_in ["pattern", "kind"] (spDL K (Rmarks (n + 1))) := by
  refine T.f_marks_in.ok sc_marks_in (fun vs H Q E h => ?_) (fun cdv A outer s H vs Q E hr h => ?_)
  · obtain ⟨ds, es, hd, ⟨x, kk, rfl, _⟩, _⟩ := h; exact hd.length.symm
  have nd := sc_marks_in.nd
  obtain ⟨ds, es, hd, ⟨x, kk, rfl, hn3, hp, rfl⟩, post⟩ := h
  obtain ⟨v0, v1, rfl, h0, h1⟩ := dats2 hd
  refine ⟨_, (pss_cons (ps_if (pt_cmpR op_eq (pe_ix ix_tup (pv 0) pe_int (fun _ _ => rfl)) (pv 1) (nomark _)) (pss_one (ps_ret (pe_lst (pa_c (pv 0) pa_nil)))) pss_nil)
  (pss_cons (ps_set (i := 2) nd rfl (Or.inl rfl) (pe_lst pa_nil))
  (pss_cons (ps_for PassesOwn.never rfl (pi_tup (pe_call F_trees_within hr rfl T.m_trees_within T.f_trees_within.kp (b_trees_within T) .nil pass0 (pa_c (pv 0) pa_nil))) (pg_name (i := 3) nd rfl (Or.inl rfl)) (pss_one (ps_expr (pe_bm PySem.F.plainAttrs_list PySem.F.slot_list_extend PySem.F.type_list_extend mt_extend (pv 2) (pa_c (pe_call F_marks_in hr rfl T.m_marks_in T.f_marks_in.kp (b_marks_in T) .nil pass0 (pa_c (pv 3) (pa_c (pv 1) pa_nil))) pa_nil)))))
  (pss_one (ps_ret (pv 2)))))), ?_⟩
  obtain ⟨kd, r, ek⟩ := pp_tag hp
  have h0' : Dat K H (.tup (.str kd :: r)) v0 := by rw [← ek]; exact h0
  have eh : headIs kk x = decide (kd = kk) := by rw [ek]; rfl
  obtain ⟨few, kok⟩ := pp_kids hp
  have cap := marks_le kk (n + 1) x hp
  have cap3 := p3 hn3
  refine rs_ifr (K := K) (b := headIs kk x) (RT.as (rt_test (re_eqS (re_ix (k := 0) (re_var h0') re_int rfl) (re_var h1))) eh.symm) (fun c H1 s1 => ?_) (fun c H1 s1 => ?_)
  · refine rs_rt ((rc_lst (K := K) (es := [x]) (ra_cons (re_var (s1.dat h0)) ra_nil)).use fun l ys H2 hl s2 hy hd2 => ?_)
    refine post l ys H2 (s1.trans s2) hy (s1.free hl) ?_
    unfold marksD
    rw [if_pos c]
    exact hd2
  have em : marksD (n + 1) kk x = (kidsD x).flatMap (marksD n kk) := by
    show (if headIs kk x = true then _ else _) = _
    rw [if_neg (by rw [c]; exact Bool.false_ne_true)]
  rw [em] at cap post
  have h0 := s1.dat h0
  have h1 := s1.dat h1
  have hk1 := h1.strE
  refine rs_setC (K := K) (es := []) (rc_lst ra_nil) fun wl ys0 H2 hw s2 hy0 hd0 => ?_
  have hw0 : H wl = none := s1.free hw
  refine rs_seq (RE.use (re_call (R := Rwithin) (d := .tup (kidsD x)) (ra_cons (re_var (K := K) (k := 0) (s2.dat h0)) ra_nil) ⟨kd, r, by rw [ek], by rw [ek]⟩) fun v4 H4 s4 q4 => ?_)
  obtain ⟨a, vs, ea, hq, hds⟩ := q4.tupE
  subst ea
  have hl := hds.length
  refine ⟨a, rfl, ⟨vs, hq⟩, for_tup (xs := vs) (fun i σ G => ∃ (z : Option V) (ys : List V), σ = [some v0, some v1, some (.ref wl), z] ∧ Same H G ∧ SqT K G a vs ∧ Dats K G (kidsD x) vs ∧ G wl = some (.lst ys) ∧ Dats K G (((kidsD x).take i).flatMap (marksD n kk)) ys) ?_ (fun i σ G _ ⟨z, ys, _, _, p, _⟩ => p) ?_ ?_⟩
  · exact ⟨none, ys0, rfl, s1.trans (s2.trans s4), hq, hds, s4 _ _ hy0, s4.dats hd0⟩
  · rintro i vx σ G hi ⟨z, ys, rfl, sG, hqG, hdG, hwG, hyG⟩
    obtain ⟨dx, ex, hx⟩ := hdG.getV hi
    have hpx := kok dx (List.mem_of_getElem? ex)
    subst hk1
    refine ⟨_, rfl, .inl ⟨rfl, _, SqL.of hwG⟩, _, rfl, _, rfl, [dx, .str kk], _, (Dats.cons hx (Dats.cons (Dat.strI _) Dats.nil) : Dats K G [dx, .str kk] [vx, .str kk]), ⟨dx, kk, rfl, by omega, hpx, rfl⟩, fun r us H5 s5 hr5 _ hd5 => ?_⟩
    have hw5 := s5 _ _ hwG
    have b6 : But wl H5 (upd H5 wl (.lst (ys ++ us))) := But.upd (Same.refl H5).but
    have g6 : Grow K H5 (upd H5 wl (.lst (ys ++ us))) := b6.grow hw5 upd_same
    have et : ((kidsD x).take (i + 1)).flatMap (marksD n kk) = ((kidsD x).take i).flatMap (marksD n kk) ++ marksD n kk dx := by
      rw [List.take_add_one, ex]
      simp
    have lt : (((kidsD x).take (i + 1)).flatMap (marksD n kk)).length ≤ 27 := by
      have e2 : ((kidsD x).take (i + 1)).flatMap (marksD n kk) ++ ((kidsD x).drop (i + 1)).flatMap (marksD n kk) = (kidsD x).flatMap (marksD n kk) := by
        rw [← List.flatMap_append, List.take_append_drop]
      have := congrArg List.length e2
      rw [List.length_append] at this
      omega
    have ly := hyG.length
    have lu := hd5.length
    rw [et, List.length_append] at lt
    refine ⟨wl, r, ys, us, rfl, rfl, hw5, hr5, small (by omega), some vx, ys ++ us, rfl, fun b o hb => b6 b o (ne_of_none hb hw0) (s5 _ _ (sG _ _ hb)), g6.tup _ _ (s5.sqT hqG), Dats.mono g6 _ (s5.dats hdG), upd_same, ?_⟩
    rw [et]
    exact Dats.append (Dats.mono g6 _ (s5.dats hyG)) (Dats.mono g6 _ hd5)
  · rintro σ G ⟨z, ys, rfl, sG, hqG, hdG, hwG, hyG⟩
    refine ⟨_, rfl, post wl ys G sG hwG hw0 ?_⟩
    rw [← hl, List.take_length] at hyG
    exact hyG

def secD : D → D
  | .tup (_ :: y :: _) => y
  | _ => .non
theorem mark_shape {k : Str} {r : List D} (h : markD (.tup (.str k :: r)) = true) : ∃ i r', r = .int i :: r' := by
  rw [markD_eq, Bool.and_eq_true, Bool.and_eq_true] at h
  have hw := h.2.1
  cases r with
  | nil => cases hw
  | cons y r' =>
    have hw' : wholeD y 0 1 = true := hw
    cases y with
    | int i => exact ⟨i, r', rfl⟩
    | _ => cases hw'
theorem marks_shape {k : Str} (hk : k = "hole" ∨ k = "gap" ∨ k = "slot") : ∀ (n : Nat) (x m : D), ppD n x = true → m ∈ marksD n k x → ∃ i r, m = .tup (.str k :: .int i :: r)
  | 0, x, m, h, _ => by cases h
  | n + 1, x, m, h, hm => by
    unfold marksD at hm
    split at hm
    · rename_i hh
      have e : m = x := by simpa using hm
      subst e
      obtain ⟨k', r, rfl⟩ := pp_tag h
      have ek : k' = k := of_decide_eq_true hh
      subst ek
      have h' : (markD (.tup (.str k' :: r)) || (nodeD (.tup (.str k' :: r)) && _)) = true := h
      rw [Bool.or_eq_true] at h'
      rcases h' with h' | h'
      · obtain ⟨i, r', rfl⟩ := mark_shape h'
        exact ⟨i, r', rfl⟩
      · rw [Bool.and_eq_true] at h'
        have z := h'.1
        rw [nodeD_br (three_no hk).2, (three_no hk).1, Bool.false_and] at z
        cases z
    · obtain ⟨c, hc, hm'⟩ := List.mem_flatMap.mp hm
      exact marks_shape hk n c m ((pp_kids h).2 c hc) hm'
def numD (k : Str) (x : D) : Bool := eqDs ((marksD 3 k x).map secD) ((List.range (marksD 3 k x).length).map fun i : Nat => D.int i)
def Rnum (ds : List D) (d : D) : Prop := ∃ x k, ds = [x, .str k] ∧ ppD 3 x = true ∧ (k = "hole" ∨ k = "gap" ∨ k = "slot") ∧ d = .bl (numD k x)
theorem re_lenV {K : PySem.W.Frag} {σ : L2.St} {H : Hp} {k : Nat} {l : Addr} {ys : List V} (hl : H l = some (.lst ys)) (e : σ[k]? = some (some (.ref l)) := by rfl) : RE K (tCB (fun xs H Q => ∃ p ys, xs = [.ref p] ∧ (SqL K H p ys ∨ SqT K H p ys) ∧ Q (.int ys.length) H) (tCons (tVar k) tNil)) σ H (.int ys.length) := fun H1 s Q q =>
  ⟨.ref l, e, l, ys, rfl, .inl (SqL.of (s _ _ hl)), q _ _ (Same.refl _) (Dat.intI _)⟩
theorem noLs_int {l : List D} (h : ∀ d ∈ l, ∃ i, d = .int i) : noLs l = true ∧ deepDs l = 0 := by
  induction l with
  | nil => exact ⟨by unfold noLs; rfl, by unfold deepDs; rfl⟩
  | cons d l ih =>
    obtain ⟨i, rfl⟩ := h d (by simp)
    obtain ⟨h1, h2⟩ := ih fun d hd => h d (by simp [hd])
    refine ⟨?_, ?_⟩
    · unfold noLs; rw [h1]; unfold noL; rfl
    · unfold deepDs; rw [h2]; unfold deepD; rfl
theorem ok_is_numbered (T : Txt P w K mg) (F_marks_in : FnOk P w K mg base CX0 k T.a_marks_in T.d_marks_in ["pattern", "kind"] (spDL K (Rmarks 3))) : FnOk P w K mg base CX0 (k + 1) T.a_is_numbered T.d_is_numbered ["pattern", "kind"] (spD K Rnum) := by
  refine T.f_is_numbered.ok sc_is_numbered (fun vs H Q E h => ?_) (fun cdv A outer s H vs Q E hr h => ?_)
  · obtain ⟨ds, d, hd, ⟨x, kk, rfl, _⟩, _⟩ := h; exact hd.length.symm
  have nd := sc_is_numbered.nd
  obtain ⟨ds, d, hd, ⟨x, kk, rfl, hp, hk, rfl⟩, post⟩ := h
  obtain ⟨v0, v1, rfl, h0, h1⟩ := dats2 hd
  refine ⟨_, (pss_cons (ps_setComp (i := 2) (own := ["mark"]) (fr := []) (N' := ["mark"]) (pi_list (pe_call F_marks_in hr rfl T.m_marks_in T.f_marks_in.kp (b_marks_in T) .nil pass0 (pa_c (pv 0) (pa_c (pv 1) pa_nil)))) rfl (by show blkChk ["pattern", "kind", "numbers"] (fun x => (defScope s_is_numbered).names.lookup x) _ _ _ _ = true; decide +kernel) rfl (fun _ _ _ _ _ => (pg_name (i := 0) (by show List.Nodup [("mark" : Str)]; decide +kernel) rfl (Or.inl rfl))) (fun _ _ _ _ _ => pifs_nil) (fun _ _ _ _ _ => (pe_ix (r := rIxT K) ix_tup (pv 0) pe_int (fun _ _ => rfl))) nd rfl rfl rfl)
  (pss_one (ps_ret (pe_cmpR (op_eqL hr) (pv 2) (pe_callTy (call_list_rng rfl) rfl T.n_list bo_list (pa_c (pe_callTy call_rng rfl T.n_range bo_range (pa_c (pe_callB call_len_seq rfl T.n_len bo_len (pa_c (pv 2) pa_nil)) pa_nil)) pa_nil)) (nomark _))))), ?_⟩
  have cap := marks_le kk 3 x hp
  refine rs_setC (K := K) (es := (marksD 3 kk x).map secD) (rc_list (cs := marksD 3 kk x) (rc_call (R := Rmarks 3) (ra_cons (re_var h0) (ra_cons (re_var h1) ra_nil)) ⟨x, kk, rfl, by decide, hp, rfl⟩) (Nat.le_trans cap (by decide)) _ (by simp) rfl (fun H1 i c v d s1 hc hi hv => ?_)) fun l ys H2 hl s2 hy hd2 => ?_
  · rw [List.getElem?_map, hc] at hi
    cases hi
    obtain ⟨j, r, rfl⟩ := marks_shape hk 3 x c hp (List.mem_of_getElem? hc)
    exact re_ix (k := 1) (re_var hv) re_int rfl
  have ll := hd2.length
  rw [List.length_map] at ll
  refine ⟨_, rfl, (rc_listrange (K := K) (n := ys.length) (re_lenV (k := 2) hy) (by rw [← ll]; exact Nat.le_trans cap (by decide))).use fun l2 ys2 H3 hl2 s3 hy3 hd3 => ?_⟩
  have i1 : ∀ d ∈ (marksD 3 kk x).map secD, ∃ i, d = .int i := fun d hdm => by
    obtain ⟨m, hm, rfl⟩ := List.mem_map.mp hdm
    obtain ⟨j, r, rfl⟩ := marks_shape hk 3 x m hp hm
    exact ⟨j, rfl⟩
  have i2 : ∀ d ∈ (List.range ys.length).map (fun i : Nat => D.int i), ∃ i, d = .int i := fun d hdm => by
    obtain ⟨m, hm, rfl⟩ := List.mem_map.mp hdm
    exact ⟨_, rfl⟩
  refine ⟨l, l2, ys, ys2, _, _, rfl, rfl, SqL.of (s3 _ _ hy), SqL.of hy3, s3.dats hd2, hd3, (noLs_int i1).1, (noLs_int i2).1, by rw [(noLs_int i1).2]; decide, ?_⟩
  refine post _ _ (s2.trans s3) ?_
  unfold numD
  rw [ll]
  exact Dat.blI _

def patD (x : D) : Bool := ppD 3 x && (!headIs "hole" x && ((["hole", "gap", "slot"] : List Str).map fun k => numD k x).all id)
def Rpat (ds : List D) (d : D) : Prop := ∃ x, ds = [x] ∧ d = .bl (patD x)
theorem ok_is_pattern (T : Txt P w K mg) (F_is_pattern_part : FnOk P w K mg base CX0 k T.a_is_pattern_part T.d_is_pattern_part ["thing", "deep"] (spD K (Rpp 3))) (F_is_numbered : FnOk P w K mg base CX0 k T.a_is_numbered T.d_is_numbered ["pattern", "kind"] (spD K Rnum)) : FnOk P w K mg base CX0 (k + 1) T.a_is_pattern T.d_is_pattern ["thing"] (spD K Rpat) := by
  refine T.f_is_pattern.ok sc_is_pattern (fun vs H Q E h => ?_) (fun cdv A outer s H vs Q E hr h => ?_)
  · obtain ⟨ds, d, hd, ⟨x, rfl, rfl⟩, _⟩ := h; exact hd.length.symm
  have nd := sc_is_pattern.nd
  obtain ⟨ds, d, hd, ⟨x, rfl, rfl⟩, post⟩ := h
  obtain ⟨v0, rfl, h0⟩ := dats1 hd
  refine ⟨_, (pss_cons (ps_if (PW.pt (pw_or (pt_not (pt_truth (pe_call F_is_pattern_part hr rfl T.m_is_pattern_part T.f_is_pattern_part.kp (b_is_pattern_part T) .nil pass0 (pa_c (pv 0) (pa_c pe_int pa_nil))) (fun _ => rfl))) (pw_or1 (pt_cmpR op_eq (pe_ix ix_tup (pv 0) pe_int (fun _ _ => rfl)) pe_str (nomark _))))) (pss_one (ps_ret pe_bl)) pss_nil)
  (pss_one (ps_ret (pe_callB (call_all rfl) rfl T.n_all bo_all (pa_c (pe_comp (own := ["kind"]) (fr := [0]) (N' := ["kind", "thing"]) (pi_tab (pe_glob (v := .ref T.a_MARK_LENGTHS) rfl T.g_MARK_LENGTHS rfl)) rfl (by show blkChk ["thing"] (fun x => (defScope s_is_pattern).names.lookup x) _ _ _ _ = true; decide +kernel) rfl (fun _ _ _ _ _ => (pg_name (i := 0) (by show List.Nodup [("kind" : Str), ("thing" : Str)]; decide +kernel) rfl (Or.inl rfl))) (fun _ _ _ _ _ => pifs_nil) (fun _ _ _ _ _ => (pe_call F_is_numbered hr rfl T.m_is_numbered T.f_is_numbered.kp (b_is_numbered T) .nil pass0 (pa_c (pv 1) (pa_c (pv 0) pa_nil))))) pa_nil))))), ?_⟩
  cases hp : ppD 3 x with
  | false =>
    refine rs_ifr (K := K) (b := true) (RT.as (rt_or (b := true) (c := true) (RT.as (rt_not (rt_truth (re_call (R := Rpp 3) (ra_cons (re_var h0) (ra_cons re_int ra_nil)) ⟨x, rfl, rfl⟩))) (by rw [hp]; rfl)) fun c => nomatch c) rfl) (fun c H3 s3 => ?_) (fun c => nomatch c)
    refine rs_ret (K := K) (d := .bl false) re_bl fun v H' s q => post v H' (s3.trans s) ?_
    unfold patD
    rw [hp]
    exact q
  | true =>
    obtain ⟨kd, r, ek⟩ := pp_tag hp
    have h0' : Dat K H (.tup (.str kd :: r)) v0 := by rw [← ek]; exact h0
    refine rs_ifr (K := K) (b := headIs "hole" x) (RT.as (rt_or (b := false) (RT.as (rt_not (rt_truth (re_call (R := Rpp 3) (ra_cons (re_var h0) (ra_cons re_int ra_nil)) ⟨x, rfl, rfl⟩))) (by rw [hp]; rfl)) fun _ => rt_test (re_eqS (re_ix (k := 0) (re_var h0') re_int rfl) re_str)) (by rw [ek]; exact Bool.false_or _)) (fun c H1 s1 => ?_) (fun c H1 s1 => ?_)
    · refine rs_ret (K := K) (d := .bl false) re_bl fun v H' s q => post v H' (s1.trans s) ?_
      unfold patD
      rw [hp, c]
      exact q
    · refine rs_ret (K := K) (d := .bl (((["hole", "gap", "slot"] : List Str).map fun k => numD k x).all id)) (re_allC (rc_tab T.k_MARK_LENGTHS (by decide) _ rfl rfl (fun H2 i kk d s2 hk hi => ?_))) fun v H' s q => post v H' (s1.trans s) ?_
      · rw [List.getElem?_map, List.getElem?_map, hk] at hi
        cases hi
        refine re_call (E := E0) (R := Rnum) (ra_cons (re_var (s2.dat (s1.dat h0))) (ra_cons (re_var (Dat.strI kk)) ra_nil)) ⟨x, kk, rfl, hp, ?_, rfl⟩
        have := List.mem_of_getElem? hk
        simpa using this
      · unfold patD
        rw [hp, c]
        exact q

def strAt (k : Str) (T : List (Str × KTD.Dat)) : Str := match KTD.datumAt k T with | some (.flat (.str z)) => z | _ => ""
theorem TF_str {k : Str} (h : KTD.inKeys k TF = true) : KTD.datumAt k TF = some (.flat (.str (strAt k TF))) := by
  unfold strAt
  by_cases h1 : k = "low"
  · subst h1; rfl
  by_cases h2 : k = "high"
  · subst h2; rfl
  by_cases h3 : k = "arg"
  · subst h3; rfl
  have e : KTD.inKeys k TF = false := by simp [TF, KTD.inKeys, h1, h2, h3]
  rw [e] at h
  cases h
def fillD (p : D) : D → Bool
  | .tup (.str k :: r) => decide ((r.length : Int) + 1 = 2) && (KTD.inKeys k TF && wholeD (r.getD 0 .non) 0 (((marksD 3 (strAt k TF) p).length : Int) - 1))
  | _ => false
theorem fillD_eq (p : D) (k : Str) (r : List D) : fillD p (.tup (.str k :: r)) = (decide ((r.length : Int) + 1 = 2) && (KTD.inKeys k TF && wholeD (r.getD 0 .non) 0 (((marksD 3 (strAt k TF) p).length : Int) - 1))) := rfl
def Rfill (ds : List D) (d : D) : Prop := ∃ x p, ds = [x, p] ∧ ppD 3 p = true ∧ d = .bl (fillD p x)
theorem fill_no {p x : D} (h : taggedD x = false) : fillD p x = false := by
  unfold taggedD at h
  unfold fillD
  split at h
  · cases h
  · rename_i hn
    first
      | rfl
      | (split
         · rename_i k r; exact absurd rfl (hn k r)
         · rfl)
theorem ok_is_filling (T : Txt P w K mg) (F_is_tagged : FnOk P w K mg base CX0 k T.a_is_tagged T.d_is_tagged ["thing"] (spD K Rtagged)) (F_marks_in : FnOk P w K mg base CX0 k T.a_marks_in T.d_marks_in ["pattern", "kind"] (spDL K (Rmarks 3))) (F_is_whole : FnOk P w K mg base CX0 k T.a_is_whole T.d_is_whole ["thing", "low", "high"] (spD K Rwhole)) : FnOk P w K mg base CX0 (k + 1) T.a_is_filling T.d_is_filling ["thing", "pattern"] (spD K Rfill) := by
  refine T.f_is_filling.ok sc_is_filling (fun vs H Q E h => ?_) (fun cdv A outer s H vs Q E hr h => ?_)
  · obtain ⟨ds, d, hd, ⟨x, p, rfl, _⟩, _⟩ := h; exact hd.length.symm
  have nd := sc_is_filling.nd
  obtain ⟨ds, d, hd, ⟨x, p, rfl, hp, rfl⟩, post⟩ := h
  obtain ⟨v0, v1, rfl, h0, h1⟩ := dats2 hd
  refine ⟨_, (pss_cons (ps_if (PW.pt (pw_or (pt_not (pt_truth (pe_call F_is_tagged hr rfl T.m_is_tagged T.f_is_tagged.kp (b_is_tagged T) .nil pass0 (pa_c (pv 0) pa_nil)) (fun _ => rfl))) (pw_or (pt_cmpR op_ne (pe_callB call_len_seq rfl T.n_len bo_len (pa_c (pv 0) pa_nil)) pe_int (nomark _)) (pw_or1 (pt_cmpR op_notinTab (pe_ix ix_tup (pv 0) pe_int (fun _ _ => rfl)) (pe_glob (v := .ref T.a_FILLED_FROM) rfl T.g_FILLED_FROM rfl) (by with_unfolding_all rfl)))))) (pss_one (ps_ret pe_bl)) pss_nil)
  (pss_one (ps_ret (pe_call F_is_whole hr rfl T.m_is_whole T.f_is_whole.kp (b_is_whole T) .nil pass0 (pa_c (pe_ix ix_tup (pv 0) pe_int (fun _ _ => rfl)) (pa_c pe_int (pa_c (pe_op op_sub (pe_callB call_len_seq rfl T.n_len bo_len (pa_c (pe_call F_marks_in hr rfl T.m_marks_in T.f_marks_in.kp (b_marks_in T) .nil pass0 (pa_c (pv 1) (pa_c (pe_ix ix_tabS (pe_glob (v := .ref T.a_FILLED_FROM) rfl T.g_FILLED_FROM rfl) (pe_ix ix_tup (pv 0) pe_int (fun _ _ => rfl)) (fun _ _ => rfl)) pa_nil))) pa_nil)) pe_int) pa_nil))))))), ?_⟩
  cases ht : taggedD x with
  | false =>
    refine rs_ifr (K := K) (b := true) ?_ (fun c H1 s1 => ?_) (fun c => nomatch c)
    · exact RT.as (rt_or (b := true) (c := true) (RT.as (rt_not (rt_truth (re_call (ra_cons (re_var h0) ra_nil) ⟨x, rfl, rfl⟩))) (by rw [ht]; rfl)) fun c => nomatch c) rfl
    · refine rs_ret (K := K) (d := .bl (fillD p x)) ?_ fun v H' s q => post v H' (s1.trans s) q
      rw [fill_no ht]
      exact re_bl
  | true =>
    have ht' := ht
    unfold taggedD at ht'
    split at ht'
    · rename_i kd r
      have el : ((((D.str kd) :: r).length : Nat) : Int) = (r.length : Int) + 1 := by rw [List.length_cons]; omega
      have b1 := re_neI (K := K) (re_len (re_var (σ := start ["thing", "pattern"] [v0, v1]) (k := 0) h0)) (re_int (i := 2))
      rw [el] at b1
      refine rs_ifr (K := K) (b := !decide ((r.length : Int) + 1 = 2) || !KTD.inKeys kd TF) (RT.as (rt_or (b := false) (RT.as (rt_not (rt_truth (re_call (ra_cons (re_var h0) ra_nil) ⟨_, rfl, rfl⟩))) (by rw [ht]; rfl)) fun _ => rt_or (rt_test b1) fun _ => rt_test (re_notinTab (re_ix (k := 0) (re_var h0) re_int rfl) T.t_FILLED_FROM)) (Bool.false_or _)) (fun c H1 s1 => ?_) (fun c H1 s1 => ?_)
      · refine rs_ret (K := K) (d := .bl false) re_bl fun v H' s q => post v H' (s1.trans s) ?_
        have e : fillD p (.tup (.str kd :: r)) = false := by
          rw [fillD_eq]
          cases h2 : decide ((r.length : Int) + 1 = 2) with
          | false => rfl
          | true =>
            rw [h2] at c
            have h3 : KTD.inKeys kd TF = false := bnot_t c
            rw [h3]
            rfl
        rw [e]
        exact q
      · rw [Bool.or_eq_false_iff] at c
        have c1 := bnot_f c.1
        have c2 := bnot_f c.2
        obtain ⟨y, er⟩ : ∃ y, r = [y] := by
          match r, of_decide_eq_true c1 with
          | [], h => simp at h
          | [y], _ => exact ⟨y, rfl⟩
          | _ :: _ :: _, h => simp at h; omega
        subst er
        have h0 := s1.dat h0
        have h1 := s1.dat h1
        refine rs_ret (K := K) (d := .bl (wholeD y 0 (((marksD 3 (strAt kd TF) p).length : Int) - 1))) (re_call (R := Rwhole) (ra_cons (re_ix (k := 1) (re_var h0) re_int rfl) (ra_cons re_int (ra_cons (re_sub (re_lenC (rc_call (R := Rmarks 3) (ra_cons (re_var h1) (ra_cons (re_ixTabS (re_ix (k := 0) (re_var h0) re_int rfl) T.t_FILLED_FROM (by rfl) (TF_str c2)) ra_nil)) ⟨p, strAt kd TF, rfl, by decide, hp, rfl⟩)) re_int) ra_nil))) ⟨y, 0, _, rfl, rfl⟩) fun v H' s q => post v H' (s1.trans s) ?_
        rw [fillD_eq, c1, c2]
        exact q
    · cases ht'

def cellD (p x : D) : Bool := wholeD x 0 99 || fillD p x
def Rcell (ds : List D) (d : D) : Prop := ∃ x p, ds = [x, p] ∧ ppD 3 p = true ∧ d = .bl (cellD p x)
theorem ok_is_cell (T : Txt P w K mg) (F_is_whole : FnOk P w K mg base CX0 k T.a_is_whole T.d_is_whole ["thing", "low", "high"] (spD K Rwhole)) (F_is_filling : FnOk P w K mg base CX0 k T.a_is_filling T.d_is_filling ["thing", "pattern"] (spD K Rfill)) : FnOk P w K mg base CX0 (k + 1) T.a_is_cell T.d_is_cell ["thing", "pattern"] (spD K Rcell) := by
  refine T.f_is_cell.ok sc_is_cell (fun vs H Q E h => ?_) (fun cdv A outer s H vs Q E hr h => ?_)
  · obtain ⟨ds, d, hd, ⟨x, p, rfl, _⟩, _⟩ := h; exact hd.length.symm
  have nd := sc_is_cell.nd
  obtain ⟨ds, d, hd, ⟨x, p, rfl, hp, rfl⟩, post⟩ := h
  obtain ⟨v0, v1, rfl, h0, h1⟩ := dats2 hd
  refine ⟨_, (pss_one (ps_ret (pe_or (pe_call F_is_whole hr rfl T.m_is_whole T.f_is_whole.kp (b_is_whole T) .nil pass0 (pa_c (pv 0) (pa_c pe_int (pa_c (pe_glob (v := .int 99) rfl T.g_MOST_CELL ⟨_, rfl⟩) pa_nil)))) (pe_one (pe_call F_is_filling hr rfl T.m_is_filling T.f_is_filling.kp (b_is_filling T) .nil pass0 (pa_c (pv 0) (pa_c (pv 1) pa_nil))))))), ?_⟩
  exact rs_ret (K := K) (d := .bl (cellD p x)) (re_or (re_call (R := Rwhole) (ra_cons (re_var h0) (ra_cons re_int (ra_cons re_int ra_nil))) ⟨x, 0, 99, rfl, rfl⟩) fun _ => re_call (R := Rfill) (ra_cons (re_var h0) (ra_cons (re_var h1) ra_nil)) ⟨x, p, rfl, hp, rfl⟩) post
end
end My
end
section
set_option Elab.async false
set_option linter.all false
set_option maxRecDepth 100000
set_option maxHeartbeats 4000000
namespace My
open PySem L2 PyProof.Rows
section
variable {P : Program} {w : World} {K : PySem.W.Frag} {mg : Str → Option Value} {base : Heap} {k : Nat}

/-- an instruction's name and how many cells stand behind it -/
def insAt (c : Int) : Option (Str × Nat) := match INS[c.toNat]? with
  | some (.tup [.str nm, .int m]) => some (nm, m.toNat)
  | _ => none
theorem ins_at {c : Int} {nm : Str} {m : Nat} (h : insAt c = some (nm, m)) : INS[c.toNat]? = some (.tup [.str nm, .int (m : Int)]) ∧ c.toNat < 17 := by
  unfold insAt at h
  have hlt : c.toNat < 17 := by
    by_cases hc : c.toNat < 17
    · exact hc
    · rw [List.getElem?_eq_none (by show (17 : Nat) ≤ c.toNat; omega)] at h
      cases h
  refine ⟨?_, hlt⟩
  have all : ∀ i : Nat, i < 17 → ∀ nm m, (match INS[i]? with | some (.tup [.str nm, .int m]) => some (nm, m.toNat) | _ => none) = some (nm, m) → INS[i]? = some (.tup [.str nm, .int (m : Int)]) := by
    intro i hi nm m e
    match i, hi with
    | 0, _ => cases e; rfl
    | 1, _ => cases e; rfl
    | 2, _ => cases e; rfl
    | 3, _ => cases e; rfl
    | 4, _ => cases e; rfl
    | 5, _ => cases e; rfl
    | 6, _ => cases e; rfl
    | 7, _ => cases e; rfl
    | 8, _ => cases e; rfl
    | 9, _ => cases e; rfl
    | 10, _ => cases e; rfl
    | 11, _ => cases e; rfl
    | 12, _ => cases e; rfl
    | 13, _ => cases e; rfl
    | 14, _ => cases e; rfl
    | 15, _ => cases e; rfl
    | 16, _ => cases e; rfl
    | n + 17, h => omega
  exact all c.toNat hlt nm m h
def behD (cells : List D) (p m : Nat) : List D := (cells.drop (p + 1)).take m
def Rinst (ds : List D) (d : D) : Prop := ∃ (cells : List D) (p : Nat) (c : Int) (nm : Str) (m : Nat), ds = [.tup cells, .int p] ∧ cells[p]? = some (.int c) ∧ 0 ≤ c ∧ insAt c = some (nm, m) ∧ (behD cells p m).length = m ∧ d = .tup [.str nm, .tup (behD cells p m)]

theorem ins_all : ∀ i : Nat, i < 17 → ∃ nm m, INS[i]? = some (.tup [.str nm, .int m]) := by
  intro i hi
  match i, hi with
  | 0, _ => exact ⟨_, _, rfl⟩
  | 1, _ => exact ⟨_, _, rfl⟩
  | 2, _ => exact ⟨_, _, rfl⟩
  | 3, _ => exact ⟨_, _, rfl⟩
  | 4, _ => exact ⟨_, _, rfl⟩
  | 5, _ => exact ⟨_, _, rfl⟩
  | 6, _ => exact ⟨_, _, rfl⟩
  | 7, _ => exact ⟨_, _, rfl⟩
  | 8, _ => exact ⟨_, _, rfl⟩
  | 9, _ => exact ⟨_, _, rfl⟩
  | 10, _ => exact ⟨_, _, rfl⟩
  | 11, _ => exact ⟨_, _, rfl⟩
  | 12, _ => exact ⟨_, _, rfl⟩
  | 13, _ => exact ⟨_, _, rfl⟩
  | 14, _ => exact ⟨_, _, rfl⟩
  | 15, _ => exact ⟨_, _, rfl⟩
  | 16, _ => exact ⟨_, _, rfl⟩
  | n + 17, h => omega
theorem ins_none {c : Int} (c0 : 0 ≤ c) (h : insAt c = none) : 17 ≤ c := by
  by_cases hc : c.toNat < 17
  · obtain ⟨nm, m, e⟩ := ins_all c.toNat hc
    unfold insAt at h
    rw [e] at h
    cases h
  · omega
def Binst (N : Addr) (ds : List D) (C : Addr) : Prop := ∃ (cells : List D) (p : Nat) (c : Int), ds = [.tup cells, .int p] ∧ cells[p]? = some (.int c) ∧ 0 ≤ c ∧ (insAt c = none ∨ ∃ nm m, insAt c = some (nm, m) ∧ ¬ (behD cells p m).length = m) ∧ C = N
theorem beh_max {cells : List D} {p m : Nat} : (behD cells p m).length ≤ m := by
  unfold behD
  rw [List.length_take]
  omega
theorem ok_instruction_at (T : Txt P w K mg) (F_Fault__init : FnOk P w K mg base CX0 k T.i_Fault T.di_Fault ["self", "place"] (spInit T.a_Fault)) : FnOk P w K mg base (CX1 P w) (k + 1 + 1) T.a_instruction_at T.d_instruction_at ["cells", "place"] (spE K Rinst (Binst T.a_Fault)) := by
  refine T.f_instruction_at.ok1 sc_instruction_at (fun vs H Q E h => ?_) (fun cdv A outer s H vs Q E hr h => ?_)
  · obtain ⟨ds, hd, h⟩ := h; rcases h with ⟨d, ⟨cells, p, c, nm, m, rfl, _⟩, _⟩ | ⟨C, ⟨cells, p, c, rfl, _⟩, _⟩ <;> exact hd.length.symm
  have nd := sc_instruction_at.nd
  obtain ⟨ds, hd, h⟩ := h
  refine ⟨_, (pss_cons (ps_if (PW.pt (pw_or (pt_cmpR op_ge (pv 1) (pe_callB call_len_seq rfl T.n_len bo_len (pa_c (pv 0) pa_nil)) (nomark _)) (pw_or1 (pt_cmpR op_ge (pe_ix ix_tup (pv 0) (pv 1) (fun _ _ => rfl)) (pe_callB call_len_seq rfl T.n_len bo_len (pa_c (pe_glob (v := .ref T.a_INSTRUCTIONS) rfl T.g_INSTRUCTIONS rfl) pa_nil)) (nomark _))))) (pss_one (ps_raiseI T.c_Fault F_Fault__init (bi_Fault T) hr throw1 rfl T.g_Fault (pa_c (pv 1) pa_nil))) pss_nil)
  (pss_cons (ps_asg (pe_ix ix_tup (pe_glob (v := .ref T.a_INSTRUCTIONS) rfl T.g_INSTRUCTIONS rfl) (pe_ix ix_tup (pv 0) (pv 1) (fun _ _ => rfl)) (fun _ _ => rfl)) (pg_tup rfl (pgs_cons (pg_name (i := 2) nd rfl (Or.inl rfl)) (pgs_cons (pg_name (i := 3) nd rfl (Or.inl rfl)) pgs_nil))))
  (pss_cons (ps_set (i := 4) nd rfl (Or.inl rfl) (pe_callTy call_tuple_of rfl T.n_tuple bo_tuple (pa_c (pe_slice sl_tup (pv 0) (po_some (pe_op op_add (pv 1) pe_int)) (po_some (pe_op op_add (pe_op op_add (pv 1) pe_int) (pv 3)))) pa_nil)))
  (pss_cons (ps_if (pt_cmpR op_lt (pe_callB call_len_seq rfl T.n_len bo_len (pa_c (pv 4) pa_nil)) (pv 3) (nomark _)) (pss_one (ps_raiseI T.c_Fault F_Fault__init (bi_Fault T) hr throw1 rfl T.g_Fault (pa_c (pv 1) pa_nil))) pss_nil)
  (pss_one (ps_ret (pe_tup (pa_c (pv 2) (pa_c (pv 4) pa_nil))))))))), ?_⟩
  rcases h with ⟨d, ⟨cells, p, c, nm, m, rfl, hc, c0, hi, hb, rfl⟩, post⟩ | ⟨C, ⟨cells, p, c, rfl, hc, c0, hi, rfl⟩, post⟩
  · obtain ⟨v0, v1, rfl, h0, h1⟩ := dats2 hd
    obtain ⟨hi, h17⟩ := ins_at hi
    have hp : p < cells.length := (List.getElem?_eq_some_iff.mp hc).1
    have ec : c = ((c.toNat : Nat) : Int) := by omega
    refine rs_ifr (K := K) (b := false) (RT.as (rt_or (b := false) (c := false) (RT.as (rt_test (re_cmp (p := fun i j => decide (j ≤ i)) (re_var h1) (re_len (re_var h0)))) (decide_eq_false (by omega))) fun _ => RT.as (rt_test (re_cmp (p := fun i j => decide (j ≤ i)) (re_ix (k := p) (re_var h0) (re_var h1) hc) (re_len (re_con T.c_INSTRUCTIONS)))) (decide_eq_false (by show ¬ (17 : Int) ≤ c; omega))) rfl) (fun c => nomatch c) (fun _ H1 s1 => ?_)
    have h0 := s1.dat h0
    have h1 := s1.dat h1
    refine rs_unp2 (K := K) (d := .str nm) (e := .int m) (re_ix (k := c.toNat) (re_con T.c_INSTRUCTIONS) (RE.as (re_ix (k := p) (re_var h0) (re_var h1) hc) (congrArg D.int ec)) hi) fun v2 v3 H2 s2 h2 h3 => ?_
    have h0 := s2.dat h0
    have h1 := s2.dat h1
    have el : (p : Int) + 1 = ((p + 1 : Nat) : Int) := by omega
    have eh : (p : Int) + 1 + (m : Int) = ((p + 1 + m : Nat) : Int) := by omega
    refine rs_setr (K := K) (d := .tup (behD cells p m)) (RE.as (re_tupleT (re_cut (lo := p + 1) (hi := p + 1 + m) (re_var h0) (RE.as (re_add (re_var h1) re_int) (congrArg D.int el)) (RE.as (re_add (re_add (re_var h1) re_int) (re_var h3)) (congrArg D.int eh)) (by omega) (by omega))) (by unfold behD; rw [show p + 1 + m - (p + 1) = m by omega])) fun v4 H3 s3 h4 => ?_
    refine rs_ifr (K := K) (b := false) (RT.as (rt_test (re_cmp (p := fun i j => decide (i < j)) (re_len (re_var h4)) (re_var (s3.dat h3)))) (decide_eq_false (by rw [hb]; omega))) (fun c => nomatch c) (fun _ H4 s4 => ?_)
    exact rs_ret (K := K) (d := .tup [.str nm, .tup (behD cells p m)]) (re_tup (ra_cons (re_var (s4.dat (s3.dat h2))) (ra_cons (re_var (s4.dat h4)) ra_nil))) fun v H' s q => post v H' (s1.trans (s2.trans (s3.trans (s4.trans s)))) q
  · obtain ⟨v0, v1, rfl, h0, h1⟩ := dats2 hd
    have hp : p < cells.length := (List.getElem?_eq_some_iff.mp hc).1
    have ec : c = ((c.toNat : Nat) : Int) := by omega
    rcases hi with hi | ⟨nm, m, hi, hb⟩
    · have h17 := ins_none c0 hi
      refine rs_ifr (K := K) (b := true) (RT.as (rt_or (b := false) (c := true) (RT.as (rt_test (re_cmp (p := fun i j => decide (j ≤ i)) (re_var h1) (re_len (re_var h0)))) (decide_eq_false (by omega))) fun _ => RT.as (rt_test (re_cmp (p := fun i j => decide (j ≤ i)) (re_ix (k := p) (re_var h0) (re_var h1) hc) (re_len (re_con T.c_INSTRUCTIONS)))) (decide_eq_true (by show (17 : Int) ≤ c; omega))) rfl) (fun _ H1 s1 => ?_) (fun c => nomatch c)
      exact ⟨_, rfl, ⟨_, rfl⟩, post _ s1⟩
    · obtain ⟨hi, h17⟩ := ins_at hi
      refine rs_ifr (K := K) (b := false) (RT.as (rt_or (b := false) (c := false) (RT.as (rt_test (re_cmp (p := fun i j => decide (j ≤ i)) (re_var h1) (re_len (re_var h0)))) (decide_eq_false (by omega))) fun _ => RT.as (rt_test (re_cmp (p := fun i j => decide (j ≤ i)) (re_ix (k := p) (re_var h0) (re_var h1) hc) (re_len (re_con T.c_INSTRUCTIONS)))) (decide_eq_false (by show ¬ (17 : Int) ≤ c; omega))) rfl) (fun c => nomatch c) (fun _ H1 s1 => ?_)
      have h0 := s1.dat h0
      have h1 := s1.dat h1
      refine rs_unp2 (K := K) (d := .str nm) (e := .int m) (re_ix (k := c.toNat) (re_con T.c_INSTRUCTIONS) (RE.as (re_ix (k := p) (re_var h0) (re_var h1) hc) (congrArg D.int ec)) hi) fun v2 v3 H2 s2 h2 h3 => ?_
      have h0 := s2.dat h0
      have h1 := s2.dat h1
      have el : (p : Int) + 1 = ((p + 1 : Nat) : Int) := by omega
      have eh : (p : Int) + 1 + (m : Int) = ((p + 1 + m : Nat) : Int) := by omega
      refine rs_setr (K := K) (d := .tup (behD cells p m)) (RE.as (re_tupleT (re_cut (lo := p + 1) (hi := p + 1 + m) (re_var h0) (RE.as (re_add (re_var h1) re_int) (congrArg D.int el)) (RE.as (re_add (re_add (re_var h1) re_int) (re_var h3)) (congrArg D.int eh)) (by omega) (by omega))) (by unfold behD; rw [show p + 1 + m - (p + 1) = m by omega])) fun v4 H3 s3 h4 => ?_
      have bm := beh_max (cells := cells) (p := p) (m := m)
      refine rs_ifr (K := K) (b := true) (RT.as (rt_test (re_cmp (p := fun i j => decide (i < j)) (re_len (re_var h4)) (re_var (s3.dat h3)))) (decide_eq_true (by omega))) (fun _ H4 s4 => ?_) (fun c => nomatch c)
      exact ⟨_, rfl, ⟨_, rfl⟩, post _ (s1.trans (s2.trans (s3.trans s4)))⟩

abbrev SS : List Str := ["put", "far", "load", "add", "sub", "mul", "less", "more", "twice", "about"]
/-- none: a fault on the way -/
def insD (rec : Nat → Option Bool) (pat : D) (cells : List D) (p : Nat) : D → Option Bool
  | .int c => (match insAt c with
    | some (nm, m) => if (behD cells p m).length = m then (if (!decide (nm ∈ SS) || !((behD cells p m).map (cellD pat)).all id) = true then some false else rec (p + 1 + m)) else none
    | none => none)
  | _ => none
def areD : Nat → D → List D → Nat → Option Bool
  | 0, _, _, _ => none
  | n + 1, pat, cells, p => match cells[p]? with
    | none => some true
    | some x => if wholeD x 0 99 = false then some false else insD (areD n pat cells) pat cells p x
def Rare (ds : List D) (d : D) : Prop := ∃ (cells : List D) (pat : D) (b : Bool), ds = [.tup cells, pat] ∧ ppD 3 pat = true ∧ cells.length ≤ 100 ∧ (areD (cells.length + 1) pat cells 0).getD false = b ∧ d = .bl b
def mu2a (σ : L2.St) (_ : Hp) : Nat := match σ[2]? with
  | some (some (V.int p)) => (200 - p).toNat
  | _ => 0
theorem beh_le {cells : List D} {p m : Nat} : (behD cells p m).length ≤ cells.length := by
  unfold behD
  rw [List.length_take, List.length_drop]
  omega
theorem beh_end {cells : List D} {p m : Nat} (h : (behD cells p m).length = m) (hp : p < cells.length) : p + 1 + m ≤ cells.length := by
  unfold behD at h
  rw [List.length_take, List.length_drop] at h
  omega

theorem pg_tupK {X : Cx} {K : PySem.W.Frag} {es : List Expr} {k : Nat} {t : TGs} {n : Nat} {pos : Pos} (hK : X.K = K) (hc : X.calm = true) (h : PGs X es t)
    (hn : (assignEach es X.env).length = n := by rfl) (hst : (assignEach es X.env).findIdx? (·.1) = none := by rfl) : PG X (.Tuple es k pos) (gTup K n t) := by
  subst hK
  exact pg_tup hc h hn hst
theorem rs_unpA {K : PySem.W.Frag} {te : TE} {En : Ends} {σ : L2.St} {H : Hp} {i j : Nat} {d e : D} (h : RE K te σ H (.tup [d, e])) (q : ∀ v w H', Same H H' → Dat K H' d v → Dat K H' e w → En.nx ((σ.set i (some v)).set j (some w)) H') :
    tAsg te (gTup K 2 (gCons (gName i) (gCons (gName j) gNil))) En σ H :=
  rs_unp2 (us := tNext) h q
theorem ok_are_instructions (T : Txt P w K mg) (F_is_whole : FnOk P w K mg base CX0 k T.a_is_whole T.d_is_whole ["thing", "low", "high"] (spD K Rwhole)) (F_instruction_at : FnOk P w K mg base (CX1 P w) k T.a_instruction_at T.d_instruction_at ["cells", "place"] (spE K Rinst (Binst T.a_Fault))) (F_is_cell : FnOk P w K mg base CX0 k T.a_is_cell T.d_is_cell ["thing", "pattern"] (spD K Rcell)) : FnOk P w K mg base CX0 (k + 1) T.a_are_instructions T.d_are_instructions ["cells", "pattern"] (spD K Rare) := by
  refine T.f_are_instructions.ok sc_are_instructions (fun vs H Q E h => ?_) (fun cdv A outer s H vs Q E hr h => ?_)
  · obtain ⟨ds, d, hd, ⟨cells, pat, bb, rfl, _⟩, _⟩ := h; exact hd.length.symm
  have nd := sc_are_instructions.nd
  obtain ⟨ds, d, hd, ⟨cells, pat, bb, rfl, hp, hl, hr2, rfl⟩, post⟩ := h
  obtain ⟨v0, v1, rfl, h0, h1⟩ := dats2 hd
  refine ⟨_, (pss_cons (ps_set (i := 2) nd rfl (Or.inl rfl) pe_int)
  (pss_cons (ps_while PassesOwn.never (pt_cmpR op_lt (pv 2) (pe_callB call_len_seq rfl T.n_len bo_len (pa_c (pv 0) pa_nil)) (nomark _)) (pss_cons (ps_if (pt_not (pt_truth (pe_call F_is_whole hr rfl T.m_is_whole T.f_is_whole.kp (b_is_whole T) .nil pass0 (pa_c (pe_ix ix_tup (pv 0) (pv 2) (fun _ _ => rfl)) (pa_c pe_int (pa_c (pe_glob (v := .int 99) rfl T.g_MOST_CELL ⟨_, rfl⟩) pa_nil)))) (fun _ => rfl))) (pss_one (ps_ret pe_bl)) pss_nil)
  (pss_cons (ps_try1 (t := fun E => tAsg (fun σ => tCall (spE K Rinst (Binst T.a_Fault)) [] (E σ) (tCons (tVar 0) (tCons (tVar 2) tNil)) σ) (gTup K 2 (gCons (gName 3) (gCons (gName 4) gNil)))) (fun pn xe E hx => (by refine' pss_one ?_; refine' ps_asg (pe_callS F_instruction_at hr rfl T.m_instruction_at T.f_instruction_at.kp (b_instruction_at T) .nil hx (pa_c (pv 0) (pa_c (pv 2) pa_nil))) ?_; exact (pg_tupK (K := K) (n := 2) rfl rfl (pgs_cons (pg_name (i := 3) nd rfl (Or.inl rfl)) (pgs_cons (pg_name (i := 4) nd rfl (Or.inl rfl)) pgs_nil))))) rfl T.g_Fault (fun e => (pss_one (ps_ret pe_bl))))
  (pss_cons (ps_if (PW.pt (pw_or (pt_cmpR op_notIn_seq (pv 3) (pe_glob (v := .ref T.a_STRAIGHT) rfl T.g_STRAIGHT rfl) (by with_unfolding_all rfl)) (pw_or1 (pt_not (pt_truth (pe_callB (call_all rfl) rfl T.n_all bo_all (pa_c (pe_comp (own := ["cell"]) (fr := [1]) (N' := ["cell", "pattern"]) (pi_tup (pv 4)) rfl (by show blkChk ["cells", "pattern", "place", "name", "behind"] (fun x => (defScope s_are_instructions).names.lookup x) _ _ _ _ = true; decide +kernel) rfl (fun _ _ _ _ _ => (pg_name (i := 0) (by show List.Nodup [("cell" : Str), ("pattern" : Str)]; decide +kernel) rfl (Or.inl rfl))) (fun _ _ _ _ _ => pifs_nil) (fun _ _ _ _ _ => (pe_call F_is_cell hr rfl T.m_is_cell T.f_is_cell.kp (b_is_cell T) .nil pass0 (pa_c (pv 0) (pa_c (pv 1) pa_nil))))) pa_nil)) (fun _ => rfl)))))) (pss_one (ps_ret pe_bl)) pss_nil)
  (pss_one (ps_aug (i := 2) nd rfl (Or.inl rfl) (pe_op op_add pe_int (pe_callB call_len_seq rfl T.n_len bo_len (pa_c (pv 4) pa_nil))) ip_add))))))
  (pss_one (ps_ret pe_bl)))), ?_⟩
  refine rs_asg (rs_tc (rs_seq (while_by (fun σ G => ∃ (p n : Nat) (z3 z4 : Option V), σ = [some v0, some v1, some (.int p), z3, z4] ∧ Same H G ∧ (areD n pat cells p).getD false = bb ∧ p ≤ cells.length ∧ cells.length + 1 ≤ n + p) mu2a ?_ ?_ ?_)))
  · exact ⟨0, _, none, none, rfl, Same.refl _, hr2, Nat.zero_le _, Nat.le_refl _⟩
  · rintro σ G ⟨p, n, z3, z4, rfl, sG, ha, hpl, hfu⟩
    have g0 := sG.dat h0
    have g1 := sG.dat h1
    refine RT.use (b := decide ((p : Int) < (cells.length : Int))) (rt_test (re_cmp (p := fun i j => decide (i < j)) (re_var (K := K) (Dat.intI (p : Int))) (re_len (re_var g0)))) fun G1 s1 => ?_
    obtain ⟨n, rfl⟩ : ∃ m, n = m + 1 := ⟨n - 1, by omega⟩
    by_cases hlt : p < cells.length
    · rw [decide_eq_true (by omega : (p : Int) < (cells.length : Int))]
      refine iteT ?_
      have hx : cells[p]? = some cells[p] := List.getElem?_eq_getElem hlt
      generalize cells[p] = x at hx
      have ha' : (if wholeD x 0 99 = false then some false else insD (areD n pat cells) pat cells p x).getD false = bb := by
        have e : (areD (n + 1) pat cells p).getD false = bb := ha
        unfold areD at e
        rw [hx] at e
        exact e
      have g0 := s1.dat g0
      have g1 := s1.dat g1
      refine rs_ifr (K := K) (b := !wholeD x 0 99) (rt_not (rt_truth (re_call (R := Rwhole) (ra_cons (re_ix (k := p) (re_var g0) (re_var (Dat.intI (p : Int))) hx) (ra_cons re_int (ra_cons re_int ra_nil))) ⟨x, 0, 99, rfl, rfl⟩))) (fun cB G2 s2 => ?_) (fun cB G2 s2 => ?_)
      · rw [if_pos (bnot_t cB)] at ha'
        cases ha'
        exact post _ _ (sG.trans (s1.trans s2)) (Dat.blI _)
      · have cw := bnot_f cB
        rw [if_neg (by rw [cw]; exact fun z => nomatch z)] at ha'
        have g0 := s2.dat g0
        have g1 := s2.dat g1
        cases x with
        | int c =>
          have ha' : (match insAt c with
            | some (nm, m) => if (behD cells p m).length = m then (if (!decide (nm ∈ SS) || !((behD cells p m).map (cellD pat)).all id) = true then some false else areD n pat cells (p + 1 + m)) else none
            | none => none).getD false = bb := ha'
          have c0 : 0 ≤ c := by
            have z : (decide (0 ≤ c) && decide (c ≤ 99)) = true := cw
            rw [Bool.and_eq_true] at z
            exact of_decide_eq_true z.1
          have rA : RA K (tCons (tVar 0) (tCons (tVar 2) tNil)) [some v0, some v1, some (.int (p : Int)), z3, z4] G2 [.tup cells, .int p] := ra_cons (re_var g0) (ra_cons (re_var (Dat.intI (p : Int))) ra_nil)
          cases hin : insAt c with
          | none =>
            rw [hin] at ha'
            have eb : bb = false := ha'.symm
            subst eb
            refine rs_seq (rx_callE (R := Rinst) (B := Binst T.a_Fault) rA ⟨cells, p, c, rfl, hx, c0, .inl hin, rfl⟩ fun G3 s3 => ⟨T.e_Fault_Fault, ?_⟩)
            exact post _ _ (sG.trans (s1.trans (s2.trans s3))) (Dat.blI _)
          | some nm =>
            obtain ⟨nm, m⟩ := nm
            rw [hin] at ha'
            dsimp only at ha'
            by_cases hb : (behD cells p m).length = m
            · rw [if_pos hb] at ha'
              refine rs_seq (rs_unpA (K := K) (d := .str nm) (e := .tup (behD cells p m)) (re_callE (R := Rinst) (B := Binst T.a_Fault) rA ⟨cells, p, c, nm, m, rfl, hx, c0, hin, hb, rfl⟩) fun v3 v4 G3 s3 g3 g4 => ?_)
              have g1 := s3.dat g1
              have lb := beh_le (cells := cells) (p := p) (m := m)
              refine rs_ifr (K := K) (b := !decide (nm ∈ SS) || !((behD cells p m).map (cellD pat)).all id) (rt_or (rt_test (re_notinS (ys := SS) (re_var g3) (re_con T.c_STRAIGHT))) fun _ => rt_not (rt_truth (re_allC (rc_tup (re_var g4) (by omega) _ (by simp) rfl (fun G4 i z vz d s4 hz hi hvz => ?_))))) (fun c2 G4 s4 => ?_) (fun c2 G4 s4 => ?_)
              · rw [List.getElem?_map, List.getElem?_map, hz] at hi
                cases hi
                exact re_call (E := E0) (R := Rcell) (ra_cons (re_var hvz) (ra_cons (re_var (s4.dat g1)) ra_nil)) ⟨z, pat, rfl, hp, rfl⟩
              · rw [if_pos c2] at ha'
                cases ha'
                exact post _ _ (sG.trans (s1.trans (s2.trans (s3.trans s4)))) (Dat.blI _)
              · rw [if_neg (by rw [c2]; exact Bool.false_ne_true)] at ha'
                refine ⟨_, rfl, RE.use (re_add (K := K) re_int (re_len (re_var (s4.dat g4)))) fun v5 G5 s5 q5 => ?_⟩
                refine ⟨p, 1 + ((behD cells p m).length : Int), rfl, q5.intE, ?_⟩
                have ep : (p : Int) + (1 + ((behD cells p m).length : Int)) = ((p + 1 + m : Nat) : Int) := by rw [hb]; omega
                have he := beh_end hb hlt
                refine ⟨⟨p + 1 + m, n, some v3, some v4, by rw [← ep]; rfl, sG.trans (s1.trans (s2.trans (s3.trans (s4.trans s5)))), ha', he, by omega⟩, ?_⟩
                show (200 - ((p : Int) + (1 + ((behD cells p m).length : Int)))).toNat < (200 - (p : Int)).toNat
                omega
            · rw [if_neg hb] at ha'
              have eb : bb = false := ha'.symm
              subst eb
              refine rs_seq (rx_callE (R := Rinst) (B := Binst T.a_Fault) rA ⟨cells, p, c, rfl, hx, c0, .inr ⟨nm, m, hin, hb⟩, rfl⟩ fun G3 s3 => ⟨T.e_Fault_Fault, ?_⟩)
              exact post _ _ (sG.trans (s1.trans (s2.trans s3))) (Dat.blI _)
        | _ => cases cw
    · rw [decide_eq_false (by omega : ¬ (p : Int) < (cells.length : Int))]
      refine iteF ?_
      have e : areD (n + 1) pat cells p = some true := by
        unfold areD
        rw [List.getElem?_eq_none (by omega)]
      rw [e] at ha
      cases ha
      exact post _ _ (sG.trans s1) (Dat.blI _)
  · intro σ G Q1 Q2 hQ hc
    obtain ⟨v, e, v', e', p, ys, e2, hq, i, j, e3, e4, b, e5, q⟩ := hc
    exact ⟨v, e, v', e', p, ys, e2, hq, i, j, e3, e4, b, e5, hQ _ _ q⟩

def isPick : D → Bool
  | .str x => decide (x = "pick")
  | _ => false
def csD (pat : D) : D → Option Bool
  | .tup l => if (decide (1 ≤ (l.length : Int)) && decide ((l.length : Int) ≤ 12)) = false then some false else areD (l.length + 1) pat l 0
  | _ => some false
def pieceD : D → Option Bool
  | .tup [nm, pat, cs] => if (!nameD nm || (isPick nm || !patD pat)) = true then some false else csD pat cs
  | _ => some false
def okNm : D → Prop
  | .tup (nm :: _) => okStr nm
  | _ => True
def Rpiece (ds : List D) (d : D) : Prop := ∃ (x : D) (b : Bool), ds = [x] ∧ okNm x ∧ (pieceD x).getD false = b ∧ d = .bl b
theorem rs_unp3 {K : PySem.W.Frag} {te : TE} {us : TS} {En : Ends} {σ : L2.St} {H : Hp} {i j l : Nat} {d e f : D} (h : RE K te σ H (.tup [d, e, f])) (q : ∀ v w x H', Same H H' → Dat K H' d v → Dat K H' e w → Dat K H' f x → us En (((σ.set i (some v)).set j (some w)).set l (some x)) H') :
    tSeq (tAsg te (gTup K 3 (gCons (gName i) (gCons (gName j) (gCons (gName l) gNil))))) us En σ H :=
  h.use fun x H1 s1 q1 => by
    obtain ⟨a, vs, e1, hq, hd⟩ := q1.tupE
    obtain ⟨v, w, x, e2, hv, hw, hx⟩ := dats3 hd
    subst e1 e2
    exact ⟨a, _, rfl, hq, rfl, v, _, rfl, w, _, rfl, x, _, rfl, rfl, q v w x H1 s1 hv hw hx⟩
theorem isi_tup_no {x : D} (h : ∀ y, x ≠ .tup y) : isiD x "tuple" = false := by
  cases x with
  | tup y => exact absurd rfl (h y)
  | _ => rfl
theorem piece_no {x : D} (h : ∀ a b c, x ≠ .tup [a, b, c]) : pieceD x = some false := by
  unfold pieceD
  split
  · rename_i a b c; exact absurd rfl (h a b c)
  · rfl
theorem pat_pp {x : D} (h : patD x = true) : ppD 3 x = true := by
  unfold patD at h
  rw [Bool.and_eq_true] at h
  exact h.1
theorem name_str {x : D} (h : nameD x = true) : ∃ y, x = .str y := by
  cases x with
  | str y => exact ⟨y, rfl⟩
  | _ => cases h
theorem ok_is_piece (T : Txt P w K mg) (F_is_name : FnOk P w K mg base CX0 k T.a_is_name T.d_is_name ["thing"] (spD K Rname)) (F_is_pattern : FnOk P w K mg base CX0 k T.a_is_pattern T.d_is_pattern ["thing"] (spD K Rpat)) (F_are_instructions : FnOk P w K mg base CX0 k T.a_are_instructions T.d_are_instructions ["cells", "pattern"] (spD K Rare)) : FnOk P w K mg base CX0 (k + 1) T.a_is_piece T.d_is_piece ["thing"] (spD K Rpiece) := by
  refine T.f_is_piece.ok sc_is_piece (fun vs H Q E h => ?_) (fun cdv A outer s H vs Q E hr h => ?_)
  · obtain ⟨ds, d, hd, ⟨x, bb, rfl, _⟩, _⟩ := h; exact hd.length.symm
  have nd := sc_is_piece.nd
  obtain ⟨ds, d, hd, ⟨x, bb, rfl, hok, hpc, rfl⟩, post⟩ := h
  obtain ⟨v0, rfl, h0⟩ := dats1 hd
  refine ⟨_, (pss_cons (ps_if (PW.pt (pw_or (pt_not (pt_truth (pe_callB (call_isi hi_tuple) rfl T.n_isinstance bo_isinstance (pa_cons (pv 0) (pa_cons (pe_bltn (v := .ty "tuple") rfl T.n_tuple bo_tuple rfl) pa_nil))) (fun _ => rfl))) (pw_or1 (pt_cmpR op_ne (pe_callB call_len_seq rfl T.n_len bo_len (pa_c (pv 0) pa_nil)) pe_int (nomark _))))) (pss_one (ps_ret pe_bl)) pss_nil)
  (pss_cons (ps_asg (pv 0) (pg_tup rfl (pgs_cons (pg_name (i := 1) nd rfl (Or.inl rfl)) (pgs_cons (pg_name (i := 2) nd rfl (Or.inl rfl)) (pgs_cons (pg_name (i := 3) nd rfl (Or.inl rfl)) pgs_nil)))))
  (pss_cons (ps_if (PW.pt (pw_or (pt_not (pt_truth (pe_call F_is_name hr rfl T.m_is_name T.f_is_name.kp (b_is_name T) .nil pass0 (pa_c (pv 1) pa_nil)) (fun _ => rfl))) (pw_or (pt_cmpR op_eq (pv 1) pe_str (nomark _)) (pw_or1 (pt_not (pt_truth (pe_call F_is_pattern hr rfl T.m_is_pattern T.f_is_pattern.kp (b_is_pattern T) .nil pass0 (pa_c (pv 2) pa_nil)) (fun _ => rfl))))))) (pss_one (ps_ret pe_bl)) pss_nil)
  (pss_cons (ps_if (PW.pt (pw_or (pt_not (pt_truth (pe_callB (call_isi hi_tuple) rfl T.n_isinstance bo_isinstance (pa_cons (pv 3) (pa_cons (pe_bltn (v := .ty "tuple") rfl T.n_tuple bo_tuple rfl) pa_nil))) (fun _ => rfl))) (pw_or1 (pt_not (pt_chain op_le op_le pe_int (pe_callB call_len_seq rfl T.n_len bo_len (pa_c (pv 3) pa_nil)) (pe_glob (v := .int 12) rfl T.g_MOST_PIECE_CELLS ⟨_, rfl⟩)))))) (pss_one (ps_ret pe_bl)) pss_nil)
  (pss_one (ps_ret (pe_call F_are_instructions hr rfl T.m_are_instructions T.f_are_instructions.kp (b_are_instructions T) .nil pass0 (pa_c (pv 3) (pa_c (pv 2) pa_nil))))))))), ?_⟩
  by_cases h3 : ∃ a b c, x = .tup [a, b, c]
  · obtain ⟨nm, pat, cs, rfl⟩ := h3
    refine rs_ifr (K := K) (b := false) (RT.as (rt_or (b := false) (c := false) (RT.as (rt_not (rt_truth (re_isi (re_var h0)))) rfl) fun _ => RT.as (rt_test (re_neI (re_len (re_var h0)) re_int)) rfl) rfl) (fun c => nomatch c) (fun _ H1 s1 => ?_)
    refine rs_unp3 (K := K) (d := nm) (e := pat) (f := cs) (re_var (s1.dat h0)) fun v1 v2 v3 H2 s2 h1 h2 h3 => ?_
    have hpc' : (if (!nameD nm || (isPick nm || !patD pat)) = true then some false else csD pat cs).getD false = bb := hpc
    refine rs_ifr (K := K) (b := !nameD nm || (isPick nm || !patD pat)) (rt_or (rt_not (rt_truth (re_call (R := Rname) (ra_cons (re_var h1) ra_nil) ⟨nm, rfl, hok, rfl⟩))) fun c => rt_or ?_ fun _ => rt_not (rt_truth (re_call (R := Rpat) (ra_cons (re_var h2) ra_nil) ⟨pat, rfl, rfl⟩))) (fun c H3 s3 => ?_) (fun c H3 s3 => ?_)
    · obtain ⟨y, rfl⟩ := name_str (bnot_f c)
      exact rt_test (re_eqS (re_var h1) re_str)
    · rw [if_pos c] at hpc'
      cases hpc'
      exact rs_ret (K := K) (d := .bl false) re_bl fun v H' s q => post v H' (s1.trans (s2.trans (s3.trans s))) q
    · rw [if_neg (by rw [c]; exact Bool.false_ne_true)] at hpc'
      rw [Bool.or_eq_false_iff, Bool.or_eq_false_iff] at c
      have hp := pat_pp (bnot_f c.2.2)
      have h2 := s3.dat h2
      have h3 := s3.dat h3
      have s13 := s1.trans (s2.trans s3)
      by_cases hc : ∃ l, cs = .tup l
      · obtain ⟨l, rfl⟩ := hc
        have hpc' : (if (decide (1 ≤ (l.length : Int)) && decide ((l.length : Int) ≤ 12)) = false then some false else areD (l.length + 1) pat l 0).getD false = bb := hpc'
        refine rs_ifr (K := K) (b := !(decide (1 ≤ (l.length : Int)) && decide ((l.length : Int) ≤ 12))) (RT.as (rt_or (b := false) (RT.as (rt_not (rt_truth (re_isi (re_var h3)))) rfl) fun _ => rt_not (rt_test (re_chain (p := fun i j => decide (i ≤ j)) (r := fun i j => decide (i ≤ j)) re_int (re_len (re_var h3)) fun _ => re_int))) (Bool.false_or _)) (fun c4 H4 s4 => ?_) (fun c4 H4 s4 => ?_)
        · rw [if_pos (bnot_t c4)] at hpc'
          cases hpc'
          exact rs_ret (K := K) (d := .bl false) re_bl fun v H' s q => post v H' (s13.trans (s4.trans s)) q
        · have c5 := bnot_f c4
          rw [if_neg (by rw [c5]; exact fun z => nomatch z)] at hpc'
          rw [Bool.and_eq_true] at c5
          have l12 := of_decide_eq_true c5.2
          exact rs_ret (K := K) (d := .bl bb) (re_call (R := Rare) (ra_cons (re_var (s4.dat h3)) (ra_cons (re_var (s4.dat h2)) ra_nil)) ⟨l, pat, bb, rfl, hp, by omega, hpc', rfl⟩) fun v H' s q => post v H' (s13.trans (s4.trans s)) q
      · have hc' : ∀ y, cs ≠ .tup y := fun y e => hc ⟨y, e⟩
        have e : bb = false := by
          cases cs with
          | tup y => exact absurd rfl (hc' y)
          | _ => cases hpc'; rfl
        refine rs_ifr (K := K) (b := true) (RT.as (rt_or (b := true) (c := true) (RT.as (rt_not (rt_truth (re_isi (re_var h3)))) (by rw [isi_tup_no hc']; rfl)) fun c => nomatch c) rfl) (fun c4 H4 s4 => ?_) (fun c => nomatch c)
        rw [e] at post
        exact rs_ret (K := K) (d := .bl false) re_bl fun v H' s q => post v H' (s13.trans (s4.trans s)) q
  · have h3' : ∀ a b c, x ≠ .tup [a, b, c] := fun a b c e => h3 ⟨a, b, c, e⟩
    rw [piece_no h3'] at hpc
    cases hpc
    refine rs_ifr (K := K) (b := true) ?_ (fun c H1 s1 => ?_) (fun c => nomatch c)
    · by_cases ht : ∃ l, x = .tup l
      · obtain ⟨l, rfl⟩ := ht
        refine RT.as (rt_or (b := false) (c := true) (RT.as (rt_not (rt_truth (re_isi (re_var h0)))) rfl) fun _ => RT.as (rt_test (re_neI (re_len (re_var h0)) re_int)) ?_) rfl
        have : ¬ (l.length : Int) = 3 := fun e => by
          match l, e with
          | [a, b, c], _ => exact h3' a b c rfl
          | [], h => simp at h
          | [_], h => simp at h
          | [_, _], h => simp at h
          | _ :: _ :: _ :: _ :: _, h => simp at h; omega
        rw [decide_eq_false this]
        rfl
      · have ht' : ∀ y, x ≠ .tup y := fun y e => ht ⟨y, e⟩
        exact RT.as (rt_or (b := true) (c := true) (RT.as (rt_not (rt_truth (re_isi (re_var h0)))) (by rw [isi_tup_no ht']; rfl)) fun c => nomatch c) rfl
    · exact rs_ret (K := K) (d := .bl false) re_bl fun v H' s q => post v H' (s1.trans s) q

end
end My
end
section
set_option Elab.async false
set_option linter.all false
set_option maxRecDepth 100000
set_option maxHeartbeats 4000000
namespace My
open PySem L2 PyProof.Rows
section
variable {P : Program} {w : World} {K : PySem.W.Frag} {mg : Str → Option Value} {base : Heap} {k : Nat}

def pieceB (x : D) : Bool := (pieceD x).getD false
def nmOf : D → Str
  | .tup (.str x :: _) => x
  | _ => ""
def setB (ds : List D) : Bool := (decide (1 ≤ (ds.length : Int)) && decide ((ds.length : Int) ≤ 16)) && ((ds.map pieceB).all id && decide ((dedN (ds.map nmOf) : Int) = (ds.length : Int)))
theorem piece_shape {x : D} (h : pieceB x = true) : ∃ nm pat cs, x = .tup [.str nm, pat, cs] := by
  by_cases h3 : ∃ a b c, x = .tup [a, b, c]
  · obtain ⟨a, b, c, rfl⟩ := h3
    have h : (if (!nameD a || (isPick a || !patD b)) = true then some false else csD b c).getD false = true := h
    by_cases hn : nameD a = true
    · obtain ⟨y, rfl⟩ := name_str hn
      exact ⟨y, b, c, rfl⟩
    · rw [if_pos (by simp [hn])] at h
      cases h
  · have e : pieceD x = some false := piece_no fun a b c e => h3 ⟨a, b, c, e⟩
    unfold pieceB at h
    rw [e] at h
    cases h
def Rset (as : List Ar) (d : D) : Prop := (∃ x, as = [.d x] ∧ isiD x "list" = false ∧ d = .bl false) ∨ ∃ ds, as = [.l ds] ∧ (∀ x ∈ ds, okNm x) ∧ d = .bl (setB ds)
theorem ok_is_set (T : Txt P w K mg) (F_is_piece : FnOk P w K mg base CX0 k T.a_is_piece T.d_is_piece ["thing"] (spD K Rpiece)) : FnOk P w K mg base CX0 (k + 1) T.a_is_set T.d_is_set ["thing"] (spA K Rset) := by
  refine T.f_is_set.ok sc_is_set (fun vs H Q E h => ?_) (fun cdv A outer s H vs Q E hr h => ?_)
  · obtain ⟨as, d, hd, h, _⟩ := h; rcases h with ⟨x, rfl, _⟩ | ⟨ds, rfl, _⟩ <;> exact hd.length.symm
  have nd := sc_is_set.nd
  obtain ⟨as, d, hd, h, post⟩ := h
  refine ⟨_, (pss_cons (ps_if (PW.pt (pw_or (pt_not (pt_truth (pe_callB (call_isi hi_list) rfl T.n_isinstance bo_isinstance (pa_cons (pv 0) (pa_cons (pe_bltn (v := .ty "list") rfl T.n_list bo_list rfl) pa_nil))) (fun _ => rfl))) (pw_or1 (pt_not (pt_chain op_le op_le pe_int (pe_callB call_len_seq rfl T.n_len bo_len (pa_c (pv 0) pa_nil)) (pe_glob (v := .int 16) rfl T.g_MOST_PIECES ⟨_, rfl⟩)))))) (pss_one (ps_ret pe_bl)) pss_nil)
  (pss_cons (ps_if (pt_not (pt_truth (pe_callB (call_all rfl) rfl T.n_all bo_all (pa_c (pe_comp (own := ["piece"]) (fr := []) (N' := ["piece"]) (pi_list (pv 0)) rfl (by show blkChk ["thing"] (fun x => (defScope s_is_set).names.lookup x) _ _ _ _ = true; decide +kernel) rfl (fun _ _ _ _ _ => (pg_name (i := 0) (by show List.Nodup [("piece" : Str)]; decide +kernel) rfl (Or.inl rfl))) (fun _ _ _ _ _ => pifs_nil) (fun _ _ _ _ _ => (pe_call F_is_piece hr rfl T.m_is_piece T.f_is_piece.kp (b_is_piece T) .nil pass0 (pa_c (pv 0) pa_nil)))) pa_nil)) (fun _ => rfl))) (pss_one (ps_ret pe_bl)) pss_nil)
  (pss_one (ps_ret (pe_cmpR op_eq (pe_callB call_lenSet rfl T.n_len bo_len (pa_c (pe_callTy (call_setT rfl) rfl T.n_set bo_set (pa_c (pe_comp (own := ["piece"]) (fr := []) (N' := ["piece"]) (pi_list (pv 0)) rfl (by show blkChk ["thing"] (fun x => (defScope s_is_set).names.lookup x) _ _ _ _ = true; decide +kernel) rfl (fun _ _ _ _ _ => (pg_name (i := 0) (by show List.Nodup [("piece" : Str)]; decide +kernel) rfl (Or.inl rfl))) (fun _ _ _ _ _ => pifs_nil) (fun _ _ _ _ _ => (pe_ix (r := rIxT K) ix_tup (pv 0) pe_int (fun _ _ => rfl)))) pa_nil)) pa_nil)) (pe_callB call_len_seq rfl T.n_len bo_len (pa_c (pv 0) pa_nil)) (nomark _)))))), ?_⟩
  rcases h with ⟨x, rfl, hx, rfl⟩ | ⟨ds, rfl, hok, rfl⟩
  · obtain ⟨v0, rfl, h0⟩ := ars1 hd
    have h0 : Dat K H x v0 := h0
    refine rs_ifr (K := K) (b := true) (RT.as (rt_or (b := true) (c := true) (RT.as (rt_not (rt_truth (re_isi (re_var h0)))) (by rw [hx]; rfl)) fun c => nomatch c) rfl) (fun _ H1 s1 => ?_) (fun c => nomatch c)
    exact rs_ret (K := K) (d := .bl false) re_bl fun v H' s q => post v H' (s1.trans s) q
  obtain ⟨v0, rfl, h0⟩ := ars1 hd
  have h0 : LD K H ds v0 := h0
  refine rs_ifr (K := K) (b := !(decide (1 ≤ (ds.length : Int)) && decide ((ds.length : Int) ≤ 16))) (RT.as (rt_or (b := false) (RT.as (rt_not (rt_truth (re_isi (re_var h0.lst)))) rfl) fun _ => rt_not (rt_test (re_chain (p := fun i j => decide (i ≤ j)) (r := fun i j => decide (i ≤ j)) re_int (re_lenL (rl_var h0)) fun _ => re_int))) (Bool.false_or _)) (fun c H1 s1 => ?_) (fun c H1 s1 => ?_)
  · refine rs_ret (K := K) (d := .bl false) re_bl fun v H' s q => post v H' (s1.trans s) ?_
    have e : setB ds = false := by unfold setB; rw [bnot_t c]; rfl
    rw [e]; exact q
  have c := bnot_f c
  have c16 : ds.length ≤ 16 := by
    rw [Bool.and_eq_true] at c
    have := of_decide_eq_true c.2
    omega
  have h0 := s1.ld h0
  refine rs_ifr (K := K) (b := !(ds.map pieceB).all id) (rt_not (rt_truth (re_allC (bs := ds.map pieceB) (rc_listL (rl_var h0) (by omega) _ (by simp) rfl (fun G1 j x v d s1 hc hd hv => ?_))))) (fun c2 H2 s2 => ?_) (fun c2 H2 s2 => ?_)
  · simp only [List.getElem?_map] at hd
    rw [hc] at hd
    cases hd
    exact re_call (R := Rpiece) (ra_cons (re_var (k := 0) hv) ra_nil) ⟨x, pieceB x, rfl, hok x (List.mem_of_getElem? hc), rfl, rfl⟩
  · refine rs_ret (K := K) (d := .bl false) re_bl fun v H' s q => post v H' (s1.trans (s2.trans s)) ?_
    have e : setB ds = false := by unfold setB; rw [bnot_t c2, Bool.false_and, Bool.and_false]
    rw [e]; exact q
  have c2 := bnot_f c2
  have h0 := s2.ld h0
  have e : setB ds = decide ((dedN (ds.map nmOf) : Int) = (ds.length : Int)) := by unfold setB; rw [c, c2, Bool.true_and, Bool.true_and]
  rw [e] at post
  refine rs_ret (K := K) (d := .bl (decide ((dedN (ds.map nmOf) : Int) = (ds.length : Int)))) (re_eqI (re_lenSet (zs := ds.map nmOf) (rc_listL (rl_var h0) (by omega) _ (by simp) rfl (fun G1 j x v d s1 hc hd hv => ?_)) (by rw [List.length_map]; omega)) (re_lenL (rl_var h0))) fun v H' s q => post v H' (s1.trans (s2.trans s)) q
  simp only [List.getElem?_map] at hd
  rw [hc] at hd
  cases hd
  have hpx : pieceB x = true := by
    rw [List.all_eq_true] at c2
    exact c2 (pieceB x) (List.mem_map.mpr ⟨x, List.mem_of_getElem? hc, rfl⟩)
  obtain ⟨nm, pat, cs, rfl⟩ := piece_shape hpx
  exact re_ix (k := 0) (re_var (k := 0) hv) re_int rfl

theorem set_no {ds : List D} {x : D} (hx : x ∈ ds) (h : pieceB x = false) : setB ds = false := by
  unfold setB
  have e : (ds.map pieceB).all id = false := by
    rw [List.all_eq_false]
    exact ⟨pieceB x, List.mem_map.mpr ⟨x, hx, rfl⟩, by rw [h]; exact Bool.false_ne_true⟩
  rw [e, Bool.false_and, Bool.and_false]
theorem set_yes {ds : List D} (l1 : 1 ≤ ds.length) (l2 : ds.length ≤ 16) (hp : ∀ x ∈ ds, pieceB x = true) (nd : (ds.map nmOf).Nodup) : setB ds = true := by
  unfold setB
  have e : (ds.map pieceB).all id = true := by
    rw [List.all_eq_true]
    intro b hb
    obtain ⟨x, hx, rfl⟩ := List.mem_map.mp hb
    exact hp x hx
  rw [e, (dedN_eq _).mpr nd, List.length_map, decide_eq_true (show (1 : Int) ≤ (ds.length : Int) by omega), decide_eq_true (show (ds.length : Int) ≤ 16 by omega)]
  simp
end
end My
end
section
set_option Elab.async false
set_option linter.all false
set_option maxRecDepth 100000
set_option maxHeartbeats 4000000
namespace My
open PySem L2 PyProof.Rows
section
variable {P : Program} {w : World} {K : PySem.W.Frag} {mg : Str → Option Value} {base : Heap} {k : Nat}

theorem tuple_mulN (l : Addr) (v : Value) (n : Nat) (dd : Option Addr) (sl : Array (Option Value)) (x : Int) (u : Tok) (h2 : 2 ≤ x) (h3 : x ≤ 1000) :
    Meets (Builtin.«tuple.__mul__» ⟨[.ref l, .int x u], []⟩) (fun _ R s => s.heap.get? l = some { cls := .type "tuple", dict := dd, data := .seq #[v] n, slots := sl } ∧ R (.ok (.ret (Value.ref s.heap.objs.size))) { s with heap := s.heap.push { cls := .type "tuple", data := .seq ((List.replicate x.toNat #[v]).foldl (fun a b => a ++ b) #[]) } }) :=
  .of_wp fun _ _ _ _ s q => by
    obtain ⟨h0, g0, d0, t0, o0⟩ := s
    obtain ⟨at_l, q⟩ := q
    have c1 : ¬ (decide (x < -2 ^ 63) || decide (x ≥ 2 ^ 63)) = true := by simp; omega
    have c2 : ¬ ((#[v] : Array Value).isEmpty || x == 1) = true := by simp; omega
    have c3 : ¬ (decide (x ≤ 0) || (#[v] : Array Value).isEmpty) = true := by simp; omega
    have c4 : ¬ (((#[v] : Array Value).size : Int) * x > (2 ^ 63 - 1) / 8) := by simp; omega
    have c5 : ¬ Builtin.Tuple.tupleTooMany (((#[v] : Array Value).size : Int) * x) = true := by unfold Builtin.Tuple.tupleTooMany; rw [sizeLine_eq]; simp; omega
    have c6 : ((List.replicate x.toNat #[v]).foldl (fun a b => a ++ b) #[]).size ≤ sizeLine := by
      have e := foldl_rep [v] x.toNat []
      have e' : (List.replicate x.toNat #[v]).foldl (fun a b => a ++ b) #[] = ([] ++ (List.replicate x.toNat [v]).flatten).toArray := e
      rw [e', List.size_toArray, List.nil_append, len_rep, sizeLine_eq]
      simp
      omega
    generalize hW : (List.replicate x.toNat #[v]).foldl (fun a b => a ++ b) #[] = W at c6 q
    wp_walk
    rw [if_neg c1]
    wp_walk
    rw [if_neg c2]
    rw [if_neg c3]
    rw [if_neg c4]
    rw [if_neg c5]
    rw [hW]
    exact wpAny_bind (wpAny_newObj_type (wpAny_pure ⟨_, rfl, q⟩) c6)
def rRepN (K : PySem.W.Frag) : R2 := fun x y H Q => ∃ a v i, x = .ref a ∧ y = .int i ∧ 2 ≤ i ∧ i ≤ 1000 ∧ SqT K H a [v] ∧ ∀ p, H p = none → Q (.ref p) (upd H p (.tup (List.replicate i.toNat v)))
theorem rep_arr (v : Value) (n : Nat) : (List.replicate n #[v]).foldl (fun a b => a ++ b) #[] = (List.replicate n v).toArray := by
  have e := foldl_rep [v] n []
  have e' : (List.replicate n #[v]).foldl (fun a b => a ++ b) #[] = ([] ++ (List.replicate n [v]).flatten).toArray := e
  rw [e', List.nil_append]
  congr 1
  induction n with
  | zero => rfl
  | succ n ih => rw [List.replicate_succ, List.flatten_cons, ih (foldl_rep [v] n []) (foldl_rep [v] n []), List.replicate_succ]; rfl
theorem vals_rep {z : V} {z' : Value} (r : RelV z z') : ∀ n : Nat, Vals (List.replicate n z) (List.replicate n z')
  | 0 => .nil
  | n + 1 => .cons r (vals_rep r n)
theorem dats_rep {H : Hp} {d : D} {y : V} (h : Dat K H d y) : ∀ n : Nat, Dats K H (List.replicate n d) (List.replicate n y)
  | 0 => Dats.nil
  | n + 1 => Dats.cons h (dats_rep h n)
theorem op_repN {X : Cx} : OpR X (binaryOp .Mult) (rRepN X.K) := by
  intro pins s σ H x y v u Q I rx ry h
  obtain ⟨a, z, i, rfl, rfl, i2, i3, ha, q⟩ := h
  cases rx
  obtain ⟨t, rfl⟩ := ry
  obtain ⟨its, r, p, _⟩ := I.tuple ha
  obtain ⟨z', rfl, rz⟩ := vals1 r
  obtain ⟨⟨cls, dd, data, sl⟩, ho, hc, n, hd⟩ := id p
  simp only at hc hd
  subst hc hd
  refine wpAny_binaryOp_repeat_ref (T := "tuple") (U := "int") (by decide) ⟨_, ho, rfl⟩ (fun s' => typeIs_int s' i t) noFill_tuple_mul PySem.F.fills_int_mul PySem.F.slot_int_rmul repeat_tuple PySem.F.slot_int_index.lookup
    (call_meets PySem.F.slot_int_rmul (typeIs_int s i t) PySem.F.entry_int_rmul (PySem.F.args_int_rmul_2 _ _) (int_rmul_tuple i t a _ n dd sl)
      ⟨ho, rfl, ⟨_, ho, rfl⟩, call_meets PySem.F.slot_tuple_mul ⟨_, ho, rfl⟩ PySem.F.entry_tuple_mul (PySem.F.args_tuple_mul_2 _ _) (tuple_mulN a z' n dd sl i t i2 i3) ⟨ho, ?_⟩⟩)
  rw [rep_arr]
  refine ⟨.ref s.heap.objs.size, _, I.laid (t' := s.toks) (o := .tup (List.replicate i.toNat z)) (fun b ob q => Heap.get?_push_of_some _ q) (Nat.le_refl _) ?_, rfl, q _ (I.hok.fresh (Nat.le_refl _))⟩
  exact ⟨by rw [sizeLine_eq, List.length_replicate]; omega, _, vals_rep rz _, IsTup.new _ _⟩
theorem re_repN {σ : L2.St} {H : Hp} {ta : TE} {d : D} {i : Int} (h : RE K ta σ H (.tup [d])) (i2 : 2 ≤ i := by decide) (i3 : i ≤ 1000 := by decide) : RE K (tOp (rRepN K) ta (tC (.int i))) σ H (.tup (List.replicate i.toNat d)) := fun H1 s Q q =>
  h H1 s _ fun v H2 s2 q2 => by
    obtain ⟨a, vs, rfl, hq, hd⟩ := q2.tupE
    obtain ⟨y, rfl, hy⟩ := dats1 hd
    refine ⟨a, y, i, rfl, rfl, i2, i3, hq, fun p hp => q _ _ (s2.trans (same_new hp _)) (Dat.tupI (SqT.of upd_same) (dats_rep ((same_new hp _).dat hy) _))⟩

abbrev LPD : List D := [.tup [.str "inc", .tup [.str "add", .tup [.str "hole", .int 0], .tup [.str "num", .int 1]], .tup [.int 12, .int 1]],
  .tup [.str "both", .tup [.str "add", .tup [.str "slot", .int 0], .tup [.str "slot", .int 1]], .tup [.int 3, .tup [.str "arg", .int 0], .int 3, .tup [.str "arg", .int 1], .int 4]],
  .tup [.str "twofold", .tup [.str "mul", .tup [.str "hole", .int 0], .tup [.str "num", .int 2]], .tup [.int 13, .int 4]],
  .tup [.str "fewer", .tup [.str "sub", .tup [.str "hole", .int 0], .tup [.str "gap", .int 0, .int 99]], .tup [.int 1, .tup [.str "low", .int 0], .int 5]],
  .tup [.str "addmul", .tup [.str "add", .tup [.str "mul", .tup [.str "hole", .int 0], .tup [.str "hole", .int 1]], .tup [.str "gap", .int 0, .int 99]], .tup [.int 6, .int 12, .tup [.str "low", .int 0]]],
  .tup [.str "turned", .tup [.str "less", .tup [.str "gap", .int 0, .int 99], .tup [.str "hole", .int 0]], .tup [.int 1, .tup [.str "low", .int 0], .int 14, .int 7]],
  .tup [.str "far", .tup [.str "add", .tup [.str "hole", .int 0], .tup [.str "gap", .int 0, .int 9999]], .tup [.int 2, .tup [.str "low", .int 0], .tup [.str "high", .int 0], .int 4]],
  .tup [.str "pair", .tup [.str "sub", .tup [.str "gap", .int 0, .int 99], .tup [.str "gap", .int 1, .int 99]], .tup [.int 1, .tup [.str "low", .int 0], .int 1, .tup [.str "low", .int 1], .int 5]]]
theorem ok__law_pieces (T : Txt P w K mg)  : FnOk P w K mg base CX0 (k + 1) T.a__law_pieces T.d__law_pieces [] (spDL K fun ds es => ds = [] ∧ es = LPD) := by
  refine T.f__law_pieces.ok sc__law_pieces (fun vs H Q E h => ?_) (fun cdv A outer s H vs Q E hr h => ?_)
  · obtain ⟨ds, es, hd, ⟨rfl, rfl⟩, _⟩ := h; exact hd.length.symm
  have nd := sc__law_pieces.nd
  obtain ⟨ds, es, hd, ⟨rfl, rfl⟩, post⟩ := h
  have ez := hd.nilE
  subst ez
  refine' ⟨_, ?ybody, ?yread⟩
  case ybody =>
    refine' pss_cons ?y251 ?y252
    case y251 =>
      refine' ps_asg ?y8 ?y9 ?y10 ?y11
      case y8 =>
        refine' pe_tup ?y7
        case y7 =>
          refine' pa_c ?y5 ?y6
          case y5 => exact (pe_tup (pa_c pe_str (pa_c pe_int pa_nil)))
          case y6 =>
            refine' pa_c ?y3 ?y4
            case y3 => exact (pe_tup (pa_c pe_str (pa_c pe_int pa_nil)))
            case y4 =>
              refine' pa_c ?y1 ?y2
              case y1 => exact (pe_tup (pa_c pe_str (pa_c pe_int (pa_c pe_int pa_nil))))
              case y2 => exact pa_nil
      case y9 => exact (pg_tup rfl (pgs_cons (pg_name (i := 0) nd rfl (Or.inl rfl)) (pgs_cons (pg_name (i := 1) nd rfl (Or.inl rfl)) (pgs_cons (pg_name (i := 2) nd rfl (Or.inl rfl)) pgs_nil))))
      case y10 => rfl
      case y11 => kernel_rfl
    case y252 =>
      refine' pss_cons ?y249 ?y250
      case y249 =>
        refine' ps_set (i := 3) ?y29 ?y30 ?y31 ?y32
        case y29 => exact nd
        case y30 => exact rfl
        case y31 => exact Or.inl rfl
        case y32 =>
          refine' pe_lst ?y28
          case y28 =>
            refine' pa_c ?y26 ?y27
            case y26 =>
              refine' pe_tup ?y25
              case y25 =>
                refine' pa_c ?y23 ?y24
                case y23 => exact pe_str
                case y24 =>
                  refine' pa_c ?y21 ?y22
                  case y21 =>
                    refine' pe_tup ?y18
                    case y18 =>
                      refine' pa_c ?y16 ?y17
                      case y16 => exact pe_str
                      case y17 =>
                        refine' pa_c ?y14 ?y15
                        case y14 => exact (pv 0)
                        case y15 =>
                          refine' pa_c ?y12 ?y13
                          case y12 => exact (pe_tup (pa_c pe_str (pa_c pe_int pa_nil)))
                          case y13 => exact pa_nil
                  case y22 =>
                    refine' pa_c ?y19 ?y20
                    case y19 => exact (pe_tup (pa_c pe_int (pa_c pe_int pa_nil)))
                    case y20 => exact pa_nil
            case y27 => exact pa_nil
      case y250 =>
        refine' pss_cons ?y247 ?y248
        case y247 =>
          refine' ps_expr ?y66
          case y66 =>
            refine' pe_bm ?y60 ?y61 ?y62 ?y63 ?y64 ?y65
            case y60 => exact PySem.F.plainAttrs_list
            case y61 => exact PySem.F.slot_list_append
            case y62 => exact PySem.F.type_list_append
            case y63 => exact mt_append
            case y64 => exact (pv 3)
            case y65 =>
              refine' pa_c ?y58 ?y59
              case y58 =>
                refine' pe_tup ?y57
                case y57 =>
                  refine' pa_c ?y55 ?y56
                  case y55 => exact pe_str
                  case y56 =>
                    refine' pa_c ?y53 ?y54
                    case y53 =>
                      refine' pe_tup ?y39
                      case y39 =>
                        refine' pa_c ?y37 ?y38
                        case y37 => exact pe_str
                        case y38 =>
                          refine' pa_c ?y35 ?y36
                          case y35 => exact (pe_tup (pa_c pe_str (pa_c pe_int pa_nil)))
                          case y36 =>
                            refine' pa_c ?y33 ?y34
                            case y33 => exact (pe_tup (pa_c pe_str (pa_c pe_int pa_nil)))
                            case y34 => exact pa_nil
                    case y54 =>
                      refine' pa_c ?y51 ?y52
                      case y51 =>
                        refine' pe_tup ?y50
                        case y50 =>
                          refine' pa_c ?y48 ?y49
                          case y48 => exact pe_int
                          case y49 =>
                            refine' pa_c ?y46 ?y47
                            case y46 => exact (pe_tup (pa_c pe_str (pa_c pe_int pa_nil)))
                            case y47 =>
                              refine' pa_c ?y44 ?y45
                              case y44 => exact pe_int
                              case y45 =>
                                refine' pa_c ?y42 ?y43
                                case y42 => exact (pe_tup (pa_c pe_str (pa_c pe_int pa_nil)))
                                case y43 =>
                                  refine' pa_c ?y40 ?y41
                                  case y40 => exact pe_int
                                  case y41 => exact pa_nil
                      case y52 => exact pa_nil
              case y59 => exact pa_nil
        case y248 =>
          refine' pss_cons ?y245 ?y246
          case y245 =>
            refine' ps_expr ?y89
            case y89 =>
              refine' pe_bm ?y83 ?y84 ?y85 ?y86 ?y87 ?y88
              case y83 => exact PySem.F.plainAttrs_list
              case y84 => exact PySem.F.slot_list_append
              case y85 => exact PySem.F.type_list_append
              case y86 => exact mt_append
              case y87 => exact (pv 3)
              case y88 =>
                refine' pa_c ?y81 ?y82
                case y81 =>
                  refine' pe_tup ?y80
                  case y80 =>
                    refine' pa_c ?y78 ?y79
                    case y78 => exact pe_str
                    case y79 =>
                      refine' pa_c ?y76 ?y77
                      case y76 =>
                        refine' pe_tup ?y73
                        case y73 =>
                          refine' pa_c ?y71 ?y72
                          case y71 => exact pe_str
                          case y72 =>
                            refine' pa_c ?y69 ?y70
                            case y69 => exact (pv 0)
                            case y70 =>
                              refine' pa_c ?y67 ?y68
                              case y67 => exact (pe_tup (pa_c pe_str (pa_c pe_int pa_nil)))
                              case y68 => exact pa_nil
                      case y77 =>
                        refine' pa_c ?y74 ?y75
                        case y74 => exact (pe_tup (pa_c pe_int (pa_c pe_int pa_nil)))
                        case y75 => exact pa_nil
                case y82 => exact pa_nil
          case y246 =>
            refine' pss_cons ?y243 ?y244
            case y243 =>
              refine' ps_expr ?y112
              case y112 =>
                refine' pe_bm ?y106 ?y107 ?y108 ?y109 ?y110 ?y111
                case y106 => exact PySem.F.plainAttrs_list
                case y107 => exact PySem.F.slot_list_append
                case y108 => exact PySem.F.type_list_append
                case y109 => exact mt_append
                case y110 => exact (pv 3)
                case y111 =>
                  refine' pa_c ?y104 ?y105
                  case y104 =>
                    refine' pe_tup ?y103
                    case y103 =>
                      refine' pa_c ?y101 ?y102
                      case y101 => exact pe_str
                      case y102 =>
                        refine' pa_c ?y99 ?y100
                        case y99 => exact (pe_tup (pa_c pe_str (pa_c (pv 0) (pa_c (pv 2) pa_nil))))
                        case y100 =>
                          refine' pa_c ?y97 ?y98
                          case y97 =>
                            refine' pe_tup ?y96
                            case y96 =>
                              refine' pa_c ?y94 ?y95
                              case y94 => exact pe_int
                              case y95 =>
                                refine' pa_c ?y92 ?y93
                                case y92 => exact (pe_tup (pa_c pe_str (pa_c pe_int pa_nil)))
                                case y93 =>
                                  refine' pa_c ?y90 ?y91
                                  case y90 => exact pe_int
                                  case y91 => exact pa_nil
                          case y98 => exact pa_nil
                  case y105 => exact pa_nil
            case y244 =>
              refine' pss_cons ?y241 ?y242
              case y241 =>
                refine' ps_expr ?y142
                case y142 =>
                  refine' pe_bm ?y136 ?y137 ?y138 ?y139 ?y140 ?y141
                  case y136 => exact PySem.F.plainAttrs_list
                  case y137 => exact PySem.F.slot_list_append
                  case y138 => exact PySem.F.type_list_append
                  case y139 => exact mt_append
                  case y140 => exact (pv 3)
                  case y141 =>
                    refine' pa_c ?y134 ?y135
                    case y134 =>
                      refine' pe_tup ?y133
                      case y133 =>
                        refine' pa_c ?y131 ?y132
                        case y131 => exact pe_str
                        case y132 =>
                          refine' pa_c ?y129 ?y130
                          case y129 =>
                            refine' pe_tup ?y119
                            case y119 =>
                              refine' pa_c ?y117 ?y118
                              case y117 => exact pe_str
                              case y118 =>
                                refine' pa_c ?y115 ?y116
                                case y115 => exact (pe_tup (pa_c pe_str (pa_c (pv 0) (pa_c (pv 1) pa_nil))))
                                case y116 =>
                                  refine' pa_c ?y113 ?y114
                                  case y113 => exact (pv 2)
                                  case y114 => exact pa_nil
                          case y130 =>
                            refine' pa_c ?y127 ?y128
                            case y127 =>
                              refine' pe_tup ?y126
                              case y126 =>
                                refine' pa_c ?y124 ?y125
                                case y124 => exact pe_int
                                case y125 =>
                                  refine' pa_c ?y122 ?y123
                                  case y122 => exact pe_int
                                  case y123 =>
                                    refine' pa_c ?y120 ?y121
                                    case y120 => exact (pe_tup (pa_c pe_str (pa_c pe_int pa_nil)))
                                    case y121 => exact pa_nil
                            case y128 => exact pa_nil
                    case y135 => exact pa_nil
              case y242 =>
                refine' pss_cons ?y239 ?y240
                case y239 =>
                  refine' ps_expr ?y167
                  case y167 =>
                    refine' pe_bm ?y161 ?y162 ?y163 ?y164 ?y165 ?y166
                    case y161 => exact PySem.F.plainAttrs_list
                    case y162 => exact PySem.F.slot_list_append
                    case y163 => exact PySem.F.type_list_append
                    case y164 => exact mt_append
                    case y165 => exact (pv 3)
                    case y166 =>
                      refine' pa_c ?y159 ?y160
                      case y159 =>
                        refine' pe_tup ?y158
                        case y158 =>
                          refine' pa_c ?y156 ?y157
                          case y156 => exact pe_str
                          case y157 =>
                            refine' pa_c ?y154 ?y155
                            case y154 => exact (pe_tup (pa_c pe_str (pa_c (pv 2) (pa_c (pv 0) pa_nil))))
                            case y155 =>
                              refine' pa_c ?y152 ?y153
                              case y152 =>
                                refine' pe_tup ?y151
                                case y151 =>
                                  refine' pa_c ?y149 ?y150
                                  case y149 => exact pe_int
                                  case y150 =>
                                    refine' pa_c ?y147 ?y148
                                    case y147 => exact (pe_tup (pa_c pe_str (pa_c pe_int pa_nil)))
                                    case y148 =>
                                      refine' pa_c ?y145 ?y146
                                      case y145 => exact pe_int
                                      case y146 =>
                                        refine' pa_c ?y143 ?y144
                                        case y143 => exact pe_int
                                        case y144 => exact pa_nil
                              case y153 => exact pa_nil
                      case y160 => exact pa_nil
                case y240 =>
                  refine' pss_cons ?y237 ?y238
                  case y237 =>
                    refine' ps_expr ?y199
                    case y199 =>
                      refine' pe_bm ?y193 ?y194 ?y195 ?y196 ?y197 ?y198
                      case y193 => exact PySem.F.plainAttrs_list
                      case y194 => exact PySem.F.slot_list_append
                      case y195 => exact PySem.F.type_list_append
                      case y196 => exact mt_append
                      case y197 => exact (pv 3)
                      case y198 =>
                        refine' pa_c ?y191 ?y192
                        case y191 =>
                          refine' pe_tup ?y190
                          case y190 =>
                            refine' pa_c ?y188 ?y189
                            case y188 => exact pe_str
                            case y189 =>
                              refine' pa_c ?y186 ?y187
                              case y186 =>
                                refine' pe_tup ?y174
                                case y174 =>
                                  refine' pa_c ?y172 ?y173
                                  case y172 => exact pe_str
                                  case y173 =>
                                    refine' pa_c ?y170 ?y171
                                    case y170 => exact (pv 0)
                                    case y171 =>
                                      refine' pa_c ?y168 ?y169
                                      case y168 => exact (pe_tup (pa_c pe_str (pa_c pe_int (pa_c pe_int pa_nil))))
                                      case y169 => exact pa_nil
                              case y187 =>
                                refine' pa_c ?y184 ?y185
                                case y184 =>
                                  refine' pe_tup ?y183
                                  case y183 =>
                                    refine' pa_c ?y181 ?y182
                                    case y181 => exact pe_int
                                    case y182 =>
                                      refine' pa_c ?y179 ?y180
                                      case y179 => exact (pe_tup (pa_c pe_str (pa_c pe_int pa_nil)))
                                      case y180 =>
                                        refine' pa_c ?y177 ?y178
                                        case y177 => exact (pe_tup (pa_c pe_str (pa_c pe_int pa_nil)))
                                        case y178 =>
                                          refine' pa_c ?y175 ?y176
                                          case y175 => exact pe_int
                                          case y176 => exact pa_nil
                                case y185 => exact pa_nil
                        case y192 => exact pa_nil
                  case y238 =>
                    refine' pss_cons ?y235 ?y236
                    case y235 =>
                      refine' ps_expr ?y233
                      case y233 =>
                        refine' pe_bm ?y227 ?y228 ?y229 ?y230 ?y231 ?y232
                        case y227 => exact PySem.F.plainAttrs_list
                        case y228 => exact PySem.F.slot_list_append
                        case y229 => exact PySem.F.type_list_append
                        case y230 => exact mt_append
                        case y231 => exact (pv 3)
                        case y232 =>
                          refine' pa_c ?y225 ?y226
                          case y225 =>
                            refine' pe_tup ?y224
                            case y224 =>
                              refine' pa_c ?y222 ?y223
                              case y222 => exact pe_str
                              case y223 =>
                                refine' pa_c ?y220 ?y221
                                case y220 =>
                                  refine' pe_tup ?y206
                                  case y206 =>
                                    refine' pa_c ?y204 ?y205
                                    case y204 => exact pe_str
                                    case y205 =>
                                      refine' pa_c ?y202 ?y203
                                      case y202 => exact (pe_tup (pa_c pe_str (pa_c pe_int (pa_c pe_int pa_nil))))
                                      case y203 =>
                                        refine' pa_c ?y200 ?y201
                                        case y200 => exact (pe_tup (pa_c pe_str (pa_c pe_int (pa_c pe_int pa_nil))))
                                        case y201 => exact pa_nil
                                case y221 =>
                                  refine' pa_c ?y218 ?y219
                                  case y218 =>
                                    refine' pe_tup ?y217
                                    case y217 =>
                                      refine' pa_c ?y215 ?y216
                                      case y215 => exact pe_int
                                      case y216 =>
                                        refine' pa_c ?y213 ?y214
                                        case y213 => exact (pe_tup (pa_c pe_str (pa_c pe_int pa_nil)))
                                        case y214 =>
                                          refine' pa_c ?y211 ?y212
                                          case y211 => exact pe_int
                                          case y212 =>
                                            refine' pa_c ?y209 ?y210
                                            case y209 => exact (pe_tup (pa_c pe_str (pa_c pe_int pa_nil)))
                                            case y210 =>
                                              refine' pa_c ?y207 ?y208
                                              case y207 => exact pe_int
                                              case y208 => exact pa_nil
                                  case y219 => exact pa_nil
                          case y226 => exact pa_nil
                    case y236 =>
                      refine' pss_one ?y234
                      case y234 => exact (ps_ret (pv 3))
  case yread =>
    refine rs_unp3 (K := K) (d := .tup [.str "hole", .int 0]) (e := .tup [.str "hole", .int 1]) (f := .tup [.str "gap", .int 0, .int 99]) (re_tup (ra_cons (re_tup (ra_cons re_str (ra_cons re_int ra_nil))) (ra_cons (re_tup (ra_cons re_str (ra_cons re_int ra_nil))) (ra_cons (re_tup (ra_cons re_str (ra_cons re_int (ra_cons re_int ra_nil)))) ra_nil)))) fun vh vo vg H1 s1 dh do_ dg => ?_
    refine rs_setC (K := K) (rc_lst (ra_cons (re_tup (ra_cons re_str (ra_cons (re_tup (ra_cons re_str (ra_cons (re_var dh) (ra_cons (re_tup (ra_cons re_str (ra_cons re_int ra_nil))) ra_nil)))) (ra_cons (re_tup (ra_cons re_int (ra_cons re_int ra_nil))) ra_nil)))) ra_nil)) fun lb x0 G0 hb s2 h0 e0 => ?_
    have hlb : H lb = none := s1.free hb
    have dh := s2.dat dh
    have do_ := s2.dat do_
    have dg := s2.dat dg
    have bb0 : But lb H G0 := (s1.trans s2).but
    have l0 := e0.length
    simp only [List.length_cons, List.length_nil, List.length_append] at l0
    refine rs_appl (K := K) (re_tup (ra_cons re_str (ra_cons (re_tup (ra_cons re_str (ra_cons (re_tup (ra_cons re_str (ra_cons re_int ra_nil))) (ra_cons (re_tup (ra_cons re_str (ra_cons re_int ra_nil))) ra_nil)))) (ra_cons (re_tup (ra_cons re_int (ra_cons (re_tup (ra_cons re_str (ra_cons re_int ra_nil))) (ra_cons re_int (ra_cons (re_tup (ra_cons re_str (ra_cons re_int ra_nil))) (ra_cons re_int ra_nil)))))) ra_nil)))) h0 (by first | omega | (simp only [List.length_append, List.length_cons, List.length_nil]; omega)) fun y1 G1 b1 h1 e1' => ?_
    have g1 : Grow K _ G1 := b1.grow h0 h1
    have dh := Dat.mono g1 _ dh
    have do_ := Dat.mono g1 _ do_
    have dg := Dat.mono g1 _ dg
    have e1 := Dats.append (Dats.mono g1 _ e0) (Dats.cons e1' Dats.nil)
    have l1 := e1.length
    have bb1 := bb0.trans b1
    simp only [List.length_cons, List.length_nil, List.length_append] at l1
    refine rs_appl (K := K) (re_tup (ra_cons re_str (ra_cons (re_tup (ra_cons re_str (ra_cons (re_var dh) (ra_cons (re_tup (ra_cons re_str (ra_cons re_int ra_nil))) ra_nil)))) (ra_cons (re_tup (ra_cons re_int (ra_cons re_int ra_nil))) ra_nil)))) h1 (by first | omega | (simp only [List.length_append, List.length_cons, List.length_nil]; omega)) fun y2 G2 b2 h2 e2' => ?_
    have g2 : Grow K _ G2 := b2.grow h1 h2
    have dh := Dat.mono g2 _ dh
    have do_ := Dat.mono g2 _ do_
    have dg := Dat.mono g2 _ dg
    have e2 := Dats.append (Dats.mono g2 _ e1) (Dats.cons e2' Dats.nil)
    have l2 := e2.length
    have bb2 := bb1.trans b2
    simp only [List.length_cons, List.length_nil, List.length_append] at l2
    refine rs_appl (K := K) (re_tup (ra_cons re_str (ra_cons (re_tup (ra_cons re_str (ra_cons (re_var dh) (ra_cons (re_var dg) ra_nil)))) (ra_cons (re_tup (ra_cons re_int (ra_cons (re_tup (ra_cons re_str (ra_cons re_int ra_nil))) (ra_cons re_int ra_nil)))) ra_nil)))) h2 (by first | omega | (simp only [List.length_append, List.length_cons, List.length_nil]; omega)) fun y3 G3 b3 h3 e3' => ?_
    have g3 : Grow K _ G3 := b3.grow h2 h3
    have dh := Dat.mono g3 _ dh
    have do_ := Dat.mono g3 _ do_
    have dg := Dat.mono g3 _ dg
    have e3 := Dats.append (Dats.mono g3 _ e2) (Dats.cons e3' Dats.nil)
    have l3 := e3.length
    have bb3 := bb2.trans b3
    simp only [List.length_cons, List.length_nil, List.length_append] at l3
    refine rs_appl (K := K) (re_tup (ra_cons re_str (ra_cons (re_tup (ra_cons re_str (ra_cons (re_tup (ra_cons re_str (ra_cons (re_var dh) (ra_cons (re_var do_) ra_nil)))) (ra_cons (re_var dg) ra_nil)))) (ra_cons (re_tup (ra_cons re_int (ra_cons re_int (ra_cons (re_tup (ra_cons re_str (ra_cons re_int ra_nil))) ra_nil)))) ra_nil)))) h3 (by first | omega | (simp only [List.length_append, List.length_cons, List.length_nil]; omega)) fun y4 G4 b4 h4 e4' => ?_
    have g4 : Grow K _ G4 := b4.grow h3 h4
    have dh := Dat.mono g4 _ dh
    have do_ := Dat.mono g4 _ do_
    have dg := Dat.mono g4 _ dg
    have e4 := Dats.append (Dats.mono g4 _ e3) (Dats.cons e4' Dats.nil)
    have l4 := e4.length
    have bb4 := bb3.trans b4
    simp only [List.length_cons, List.length_nil, List.length_append] at l4
    refine rs_appl (K := K) (re_tup (ra_cons re_str (ra_cons (re_tup (ra_cons re_str (ra_cons (re_var dg) (ra_cons (re_var dh) ra_nil)))) (ra_cons (re_tup (ra_cons re_int (ra_cons (re_tup (ra_cons re_str (ra_cons re_int ra_nil))) (ra_cons re_int (ra_cons re_int ra_nil))))) ra_nil)))) h4 (by first | omega | (simp only [List.length_append, List.length_cons, List.length_nil]; omega)) fun y5 G5 b5 h5 e5' => ?_
    have g5 : Grow K _ G5 := b5.grow h4 h5
    have dh := Dat.mono g5 _ dh
    have do_ := Dat.mono g5 _ do_
    have dg := Dat.mono g5 _ dg
    have e5 := Dats.append (Dats.mono g5 _ e4) (Dats.cons e5' Dats.nil)
    have l5 := e5.length
    have bb5 := bb4.trans b5
    simp only [List.length_cons, List.length_nil, List.length_append] at l5
    refine rs_appl (K := K) (re_tup (ra_cons re_str (ra_cons (re_tup (ra_cons re_str (ra_cons (re_var dh) (ra_cons (re_tup (ra_cons re_str (ra_cons re_int (ra_cons re_int ra_nil)))) ra_nil)))) (ra_cons (re_tup (ra_cons re_int (ra_cons (re_tup (ra_cons re_str (ra_cons re_int ra_nil))) (ra_cons (re_tup (ra_cons re_str (ra_cons re_int ra_nil))) (ra_cons re_int ra_nil))))) ra_nil)))) h5 (by first | omega | (simp only [List.length_append, List.length_cons, List.length_nil]; omega)) fun y6 G6 b6 h6 e6' => ?_
    have g6 : Grow K _ G6 := b6.grow h5 h6
    have dh := Dat.mono g6 _ dh
    have do_ := Dat.mono g6 _ do_
    have dg := Dat.mono g6 _ dg
    have e6 := Dats.append (Dats.mono g6 _ e5) (Dats.cons e6' Dats.nil)
    have l6 := e6.length
    have bb6 := bb5.trans b6
    simp only [List.length_cons, List.length_nil, List.length_append] at l6
    refine rs_appl (K := K) (re_tup (ra_cons re_str (ra_cons (re_tup (ra_cons re_str (ra_cons (re_tup (ra_cons re_str (ra_cons re_int (ra_cons re_int ra_nil)))) (ra_cons (re_tup (ra_cons re_str (ra_cons re_int (ra_cons re_int ra_nil)))) ra_nil)))) (ra_cons (re_tup (ra_cons re_int (ra_cons (re_tup (ra_cons re_str (ra_cons re_int ra_nil))) (ra_cons re_int (ra_cons (re_tup (ra_cons re_str (ra_cons re_int ra_nil))) (ra_cons re_int ra_nil)))))) ra_nil)))) h6 (by first | omega | (simp only [List.length_append, List.length_cons, List.length_nil]; omega)) fun y7 G7 b7 h7 e7' => ?_
    have g7 : Grow K _ G7 := b7.grow h6 h7
    have dh := Dat.mono g7 _ dh
    have do_ := Dat.mono g7 _ do_
    have dg := Dat.mono g7 _ dg
    have e7 := Dats.append (Dats.mono g7 _ e6) (Dats.cons e7' Dats.nil)
    have l7 := e7.length
    have bb7 := bb6.trans b7
    have sm : Same H G7 := fun b o hbo => bb7 b o (ne_of_none hbo hlb) hbo
    exact ⟨_, rfl, post lb _ G7 sm h7 hlb e7⟩

def badsP : List D := [.non, .tup [], .tup [.str "a", .tup [.str "add", .tup [.str "hole", .int 0], .tup [.str "hole", .int 1]]], .tup [.str "", .tup [.str "add", .tup [.str "hole", .int 0], .tup [.str "hole", .int 1]], .tup [.int 4]], .tup [.str "A", .tup [.str "add", .tup [.str "hole", .int 0], .tup [.str "hole", .int 1]], .tup [.int 4]], .tup [.str "pick", .tup [.str "add", .tup [.str "hole", .int 0], .tup [.str "hole", .int 1]], .tup [.int 4]],
  .tup [.str "abcdefghi", .tup [.str "add", .tup [.str "hole", .int 0], .tup [.str "hole", .int 1]], .tup [.int 4]], .lst,
  .tup [.str "a", .tup [.str "hole", .int 0], .tup [.int 4]], .tup [.str "a", .tup [.str "add", .tup [.str "hole", .int 0], .tup [.str "hole", .int 1]], .tup []], .tup [.str "a", .tup [.str "add", .tup [.str "hole", .int 0], .tup [.str "hole", .int 1]], .lst], .tup [.str "a", .tup [.str "add", .tup [.str "hole", .int 0], .tup [.str "hole", .int 1]], .tup [.int 8, .int 1]], .tup [.str "a", .tup [.str "add", .tup [.str "hole", .int 0], .tup [.str "hole", .int 1]], .tup [.int 0]],
  .tup [.str "a", .tup [.str "add", .tup [.str "hole", .int 0], .tup [.str "hole", .int 1]], .tup [.int 15, .int 1, .int 0]],
  .tup [.str "a", .tup [.str "add", .tup [.str "hole", .int 0], .tup [.str "hole", .int 1]], .tup [.int 1]], .tup [.str "a", .tup [.str "add", .tup [.str "hole", .int 0], .tup [.str "hole", .int 1]], .tup [.int 2, .int 5]], .tup [.str "a", .tup [.str "add", .tup [.str "hole", .int 0], .tup [.str "hole", .int 1]], .tup [.int 4, .int 4, .int 4, .int 4, .int 4, .int 4, .int 4, .int 4, .int 4, .int 4, .int 4, .int 4, .int 4]], .tup [.str "a", .tup [.str "add", .tup [.str "hole", .int 0], .tup [.str "hole", .int 1]], .tup [.int 100]],
  .tup [.str "a", .tup [.str "add", .tup [.str "hole", .int 0], .tup [.str "hole", .int 1]], .tup [.bl true]], .tup [.str "a", .tup [.str "add", .tup [.str "hole", .int 0], .tup [.str "hole", .int 1]], .tup [.int 17]],
  .tup [.str "a", .tup [.str "gap", .int 0, .int 99], .tup [.int 1, .tup [.str "low", .int 1]]], .tup [.str "a", .tup [.str "gap", .int 0, .int 99], .tup [.int 1, .tup [.str "arg", .int 0]]], .tup [.str "a", .tup [.str "gap", .int 0, .int 99], .tup [.tup [.str "low", .int 0], .int 1]],
  .tup [.str "a", .tup [.str "gap", .int 0, .int 99], .tup [.int 1, .tup [.str "mid", .int 0]]], .tup [.str "a", .tup [.str "slot", .int 0], .tup [.int 3]],
  .tup [.str "a", .tup [.str "add", .tup [.str "hole", .int 1], .tup [.str "hole", .int 0]], .tup [.int 4]], .tup [.str "a", .tup [.str "add", .tup [.str "hole", .int 0], .tup [.str "hole", .int 0]], .tup [.int 4]],
  .tup [.str "a", .tup [.str "add", .tup [.str "hole", .int 0], .tup [.str "hole", .int 2]], .tup [.int 4]], .tup [.str "a", .tup [.str "pick", .tup [.str "hole", .int 0], .tup [.str "hole", .int 0], .tup [.str "hole", .int 0]], .tup [.int 4]],
  .tup [.str "a", .tup [.str "gap", .int 0], .tup [.int 1, .int 1]], .tup [.str "a", .tup [.str "gap", .int 0, .int 10000], .tup [.int 1, .int 1]], .tup [.str "a", .tup [.str "gap", .int 1, .int 9], .tup [.int 1, .int 1]],
  .tup [.str "a", .tup [.str "arg", .int 0], .tup [.int 3, .int 0]], .tup [.str "a", .tup [.str "num", .int (-1)], .tup [.int 1, .int 1]],
  .tup [.str "a", .tup [.str "add", .tup [.str "add", .tup [.str "add", .tup [.str "hole", .int 0], .tup [.str "gap", .int 0, .int 99]], .tup [.str "num", .int 1]], .tup [.str "num", .int 1]], .tup [.int 4]],
  .tup [.str "a", .tup [.str "add", .tup [.str "add", .tup [.str "hole", .int 0], .tup [.str "hole", .int 1]], .tup [.str "hole", .int 2]], .tup [.int 4, .int 4]]]
def spNoPiece (K : PySem.W.Frag) : Sp := fun vs H Q _ => ∃ (a t : Addr) (ns : List Int) (p q : Int) (rest : List V), vs = [.ref a, .ref t] ∧ Scr K H a ns ∧ H t = some (.lst (.int p :: .int q :: rest)) ∧ 0 ≤ p ∧
  ∀ (v : V) (H' : Hp) (d : D) (p' q' : Int), But t H H' → H' t = some (.lst (.int p' :: .int q' :: rest)) → 0 ≤ p' → d ∈ badsP → Dat K H' d v → Q v H'
theorem badsP_no : ∀ d ∈ badsP, pieceB d = false := by decide +kernel
theorem okNm_of {x : D} (h : (match x with | .tup (.str y :: _) => decide (y.length ≤ 100) | _ => true) = true) : okNm x := by
  unfold okNm
  split
  · rename_i nm r
    cases nm with
    | str y => exact Nat.le_trans (of_decide_eq_true h) (by decide)
    | _ => trivial
  · trivial
theorem badsP_ok : ∀ d ∈ badsP, okNm d := fun d hd => okNm_of ((show ∀ d ∈ badsP, (match d with | .tup (.str y :: _) => decide (y.length ≤ 100) | _ => true) = true by decide +kernel) d hd)
theorem ok__law_no_piece (T : Txt P w K mg) (F__law_pick : FnOk P w K mg base CX0 k T.a__law_pick T.d__law_pick ["_law_script", "_law_town", "_law_some"] (spPick K)) : FnOk P w K mg base CX0 (k + 1) T.a__law_no_piece T.d__law_no_piece ["_law_script", "_law_town"] (spNoPiece K) := by
  refine T.f__law_no_piece.ok sc__law_no_piece (fun vs H Q E h => ?_) (fun cdv A outer s H vs Q E hr h => ?_)
  · obtain ⟨a, t, ns, p, q, rest, rfl, _⟩ := h; rfl
  have nd := sc__law_no_piece.nd
  obtain ⟨a, t, ns, p, q, rest, rfl, hS, hT, hp, post⟩ := h
  refine' ⟨_, ?ybody, ?yread⟩
  case ybody =>
    refine' pss_cons ?y800 ?y801
    case y800 =>
      refine' ps_asg ?y260 ?y261 ?y262 ?y263
      case y260 =>
        refine' pe_tup ?y259
        case y259 =>
          refine' pa_c ?y257 ?y258
          case y257 => exact (pe_tup (pa_c pe_str (pa_c pe_int pa_nil)))
          case y258 =>
            refine' pa_c ?y255 ?y256
            case y255 => exact (pe_tup (pa_c pe_str (pa_c pe_int (pa_c pe_int pa_nil))))
            case y256 =>
              refine' pa_c ?y253 ?y254
              case y253 => exact (pe_tup (pa_c pe_str (pa_c pe_int pa_nil)))
              case y254 => exact pa_nil
      case y261 => exact (pg_tup rfl (pgs_cons (pg_name (i := 2) nd rfl (Or.inl rfl)) (pgs_cons (pg_name (i := 3) nd rfl (Or.inl rfl)) (pgs_cons (pg_name (i := 4) nd rfl (Or.inl rfl)) pgs_nil))))
      case y262 => rfl
      case y263 => kernel_rfl
    case y801 =>
      refine' pss_cons ?y798 ?y799
      case y798 =>
        refine' ps_set (i := 5) ?y271 ?y272 ?y273 ?y274
        case y271 => exact nd
        case y272 => exact rfl
        case y273 => exact Or.inl rfl
        case y274 =>
          refine' pe_tup ?y270
          case y270 =>
            refine' pa_c ?y268 ?y269
            case y268 => exact pe_str
            case y269 =>
              refine' pa_c ?y266 ?y267
              case y266 => exact (pv 2)
              case y267 =>
                refine' pa_c ?y264 ?y265
                case y264 => exact (pe_tup (pa_c pe_str (pa_c pe_int pa_nil)))
                case y265 => exact pa_nil
      case y799 =>
        refine' pss_cons ?y796 ?y797
        case y796 =>
          refine' ps_set (i := 6) ?y309 ?y310 ?y311 ?y312
          case y309 => exact nd
          case y310 => exact rfl
          case y311 => exact Or.inl rfl
          case y312 =>
            refine' pe_lst ?y308
            case y308 =>
              refine' pa_c ?y306 ?y307
              case y306 => exact pe_non
              case y307 =>
                refine' pa_c ?y304 ?y305
                case y304 => exact (pe_tup pa_nil)
                case y305 =>
                  refine' pa_c ?y302 ?y303
                  case y302 => exact (pe_tup (pa_c pe_str (pa_c (pv 5) pa_nil)))
                  case y303 =>
                    refine' pa_c ?y300 ?y301
                    case y300 =>
                      refine' pe_tup ?y281
                      case y281 =>
                        refine' pa_c ?y279 ?y280
                        case y279 => exact pe_str
                        case y280 =>
                          refine' pa_c ?y277 ?y278
                          case y277 => exact (pv 5)
                          case y278 =>
                            refine' pa_c ?y275 ?y276
                            case y275 => exact (pe_tup (pa_c pe_int pa_nil))
                            case y276 => exact pa_nil
                    case y301 =>
                      refine' pa_c ?y298 ?y299
                      case y298 =>
                        refine' pe_tup ?y288
                        case y288 =>
                          refine' pa_c ?y286 ?y287
                          case y286 => exact pe_str
                          case y287 =>
                            refine' pa_c ?y284 ?y285
                            case y284 => exact (pv 5)
                            case y285 =>
                              refine' pa_c ?y282 ?y283
                              case y282 => exact (pe_tup (pa_c pe_int pa_nil))
                              case y283 => exact pa_nil
                      case y299 =>
                        refine' pa_c ?y296 ?y297
                        case y296 =>
                          refine' pe_tup ?y295
                          case y295 =>
                            refine' pa_c ?y293 ?y294
                            case y293 => exact pe_str
                            case y294 =>
                              refine' pa_c ?y291 ?y292
                              case y291 => exact (pv 5)
                              case y292 =>
                                refine' pa_c ?y289 ?y290
                                case y289 => exact (pe_tup (pa_c pe_int pa_nil))
                                case y290 => exact pa_nil
                        case y297 => exact pa_nil
        case y797 =>
          refine' pss_cons ?y794 ?y795
          case y794 =>
            refine' ps_expr ?y340
            case y340 =>
              refine' pe_bm ?y334 ?y335 ?y336 ?y337 ?y338 ?y339
              case y334 => exact PySem.F.plainAttrs_list
              case y335 => exact PySem.F.slot_list_extend
              case y336 => exact PySem.F.type_list_extend
              case y337 => exact mt_extend
              case y338 => exact (pv 6)
              case y339 =>
                refine' pa_c ?y332 ?y333
                case y332 =>
                  refine' pe_lst ?y331
                  case y331 =>
                    refine' pa_c ?y329 ?y330
                    case y329 =>
                      refine' pe_tup ?y319
                      case y319 =>
                        refine' pa_c ?y317 ?y318
                        case y317 => exact pe_str
                        case y318 =>
                          refine' pa_c ?y315 ?y316
                          case y315 => exact (pv 5)
                          case y316 =>
                            refine' pa_c ?y313 ?y314
                            case y313 => exact (pe_tup (pa_c pe_int pa_nil))
                            case y314 => exact pa_nil
                    case y330 =>
                      refine' pa_c ?y327 ?y328
                      case y327 =>
                        refine' pe_lst ?y326
                        case y326 =>
                          refine' pa_c ?y324 ?y325
                          case y324 => exact pe_str
                          case y325 =>
                            refine' pa_c ?y322 ?y323
                            case y322 => exact (pv 5)
                            case y323 =>
                              refine' pa_c ?y320 ?y321
                              case y320 => exact (pe_tup (pa_c pe_int pa_nil))
                              case y321 => exact pa_nil
                      case y328 => exact pa_nil
                case y333 => exact pa_nil
          case y795 =>
            refine' pss_cons ?y792 ?y793
            case y792 =>
              refine' ps_expr ?y395
              case y395 =>
                refine' pe_bm ?y389 ?y390 ?y391 ?y392 ?y393 ?y394
                case y389 => exact PySem.F.plainAttrs_list
                case y390 => exact PySem.F.slot_list_extend
                case y391 => exact PySem.F.type_list_extend
                case y392 => exact mt_extend
                case y393 => exact (pv 6)
                case y394 =>
                  refine' pa_c ?y387 ?y388
                  case y387 =>
                    refine' pe_lst ?y386
                    case y386 =>
                      refine' pa_c ?y384 ?y385
                      case y384 =>
                        refine' pe_tup ?y347
                        case y347 =>
                          refine' pa_c ?y345 ?y346
                          case y345 => exact pe_str
                          case y346 =>
                            refine' pa_c ?y343 ?y344
                            case y343 => exact (pv 2)
                            case y344 =>
                              refine' pa_c ?y341 ?y342
                              case y341 => exact (pe_tup (pa_c pe_int pa_nil))
                              case y342 => exact pa_nil
                      case y385 =>
                        refine' pa_c ?y382 ?y383
                        case y382 =>
                          refine' pe_tup ?y354
                          case y354 =>
                            refine' pa_c ?y352 ?y353
                            case y352 => exact pe_str
                            case y353 =>
                              refine' pa_c ?y350 ?y351
                              case y350 => exact (pv 5)
                              case y351 =>
                                refine' pa_c ?y348 ?y349
                                case y348 => exact (pe_tup pa_nil)
                                case y349 => exact pa_nil
                        case y383 =>
                          refine' pa_c ?y380 ?y381
                          case y380 =>
                            refine' pe_tup ?y361
                            case y361 =>
                              refine' pa_c ?y359 ?y360
                              case y359 => exact pe_str
                              case y360 =>
                                refine' pa_c ?y357 ?y358
                                case y357 => exact (pv 5)
                                case y358 =>
                                  refine' pa_c ?y355 ?y356
                                  case y355 => exact (pe_lst (pa_c pe_int pa_nil))
                                  case y356 => exact pa_nil
                          case y381 =>
                            refine' pa_c ?y378 ?y379
                            case y378 =>
                              refine' pe_tup ?y368
                              case y368 =>
                                refine' pa_c ?y366 ?y367
                                case y366 => exact pe_str
                                case y367 =>
                                  refine' pa_c ?y364 ?y365
                                  case y364 => exact (pv 5)
                                  case y365 =>
                                    refine' pa_c ?y362 ?y363
                                    case y362 => exact (pe_tup (pa_c pe_int (pa_c pe_int pa_nil)))
                                    case y363 => exact pa_nil
                            case y379 =>
                              refine' pa_c ?y376 ?y377
                              case y376 =>
                                refine' pe_tup ?y375
                                case y375 =>
                                  refine' pa_c ?y373 ?y374
                                  case y373 => exact pe_str
                                  case y374 =>
                                    refine' pa_c ?y371 ?y372
                                    case y371 => exact (pv 5)
                                    case y372 =>
                                      refine' pa_c ?y369 ?y370
                                      case y369 => exact (pe_tup (pa_c pe_int pa_nil))
                                      case y370 => exact pa_nil
                              case y377 => exact pa_nil
                  case y388 => exact pa_nil
            case y793 =>
              refine' pss_cons ?y790 ?y791
              case y790 =>
                refine' ps_expr ?y414
                case y414 =>
                  refine' pe_bm ?y408 ?y409 ?y410 ?y411 ?y412 ?y413
                  case y408 => exact PySem.F.plainAttrs_list
                  case y409 => exact PySem.F.slot_list_extend
                  case y410 => exact PySem.F.type_list_extend
                  case y411 => exact mt_extend
                  case y412 => exact (pv 6)
                  case y413 =>
                    refine' pa_c ?y406 ?y407
                    case y406 =>
                      refine' pe_lst ?y405
                      case y405 =>
                        refine' pa_c ?y403 ?y404
                        case y403 =>
                          refine' pe_tup ?y402
                          case y402 =>
                            refine' pa_c ?y400 ?y401
                            case y400 => exact pe_str
                            case y401 =>
                              refine' pa_c ?y398 ?y399
                              case y398 => exact (pv 5)
                              case y399 =>
                                refine' pa_c ?y396 ?y397
                                case y396 => exact (pe_tup (pa_c pe_int (pa_c pe_int (pa_c pe_int pa_nil))))
                                case y397 => exact pa_nil
                        case y404 => exact pa_nil
                    case y407 => exact pa_nil
              case y791 =>
                refine' pss_cons ?y788 ?y789
                case y788 =>
                  refine' ps_expr ?y460
                  case y460 =>
                    refine' pe_bm ?y454 ?y455 ?y456 ?y457 ?y458 ?y459
                    case y454 => exact PySem.F.plainAttrs_list
                    case y455 => exact PySem.F.slot_list_extend
                    case y456 => exact PySem.F.type_list_extend
                    case y457 => exact mt_extend
                    case y458 => exact (pv 6)
                    case y459 =>
                      refine' pa_c ?y452 ?y453
                      case y452 =>
                        refine' pe_lst ?y451
                        case y451 =>
                          refine' pa_c ?y449 ?y450
                          case y449 =>
                            refine' pe_tup ?y421
                            case y421 =>
                              refine' pa_c ?y419 ?y420
                              case y419 => exact pe_str
                              case y420 =>
                                refine' pa_c ?y417 ?y418
                                case y417 => exact (pv 5)
                                case y418 =>
                                  refine' pa_c ?y415 ?y416
                                  case y415 => exact (pe_tup (pa_c pe_int pa_nil))
                                  case y416 => exact pa_nil
                          case y450 =>
                            refine' pa_c ?y447 ?y448
                            case y447 =>
                              refine' pe_tup ?y428
                              case y428 =>
                                refine' pa_c ?y426 ?y427
                                case y426 => exact pe_str
                                case y427 =>
                                  refine' pa_c ?y424 ?y425
                                  case y424 => exact (pv 5)
                                  case y425 =>
                                    refine' pa_c ?y422 ?y423
                                    case y422 => exact (pe_tup (pa_c pe_int (pa_c pe_int pa_nil)))
                                    case y423 => exact pa_nil
                            case y448 =>
                              refine' pa_c ?y445 ?y446
                              case y445 =>
                                refine' pe_tup ?y435
                                case y435 =>
                                  refine' pa_c ?y433 ?y434
                                  case y433 => exact pe_str
                                  case y434 =>
                                    refine' pa_c ?y431 ?y432
                                    case y431 => exact (pv 5)
                                    case y432 =>
                                      refine' pa_c ?y429 ?y430
                                      case y429 => exact (pe_op op_repN (pe_tup (pa_c pe_int pa_nil)) pe_int)
                                      case y430 => exact pa_nil
                              case y446 =>
                                refine' pa_c ?y443 ?y444
                                case y443 =>
                                  refine' pe_tup ?y442
                                  case y442 =>
                                    refine' pa_c ?y440 ?y441
                                    case y440 => exact pe_str
                                    case y441 =>
                                      refine' pa_c ?y438 ?y439
                                      case y438 => exact (pv 5)
                                      case y439 =>
                                        refine' pa_c ?y436 ?y437
                                        case y436 => exact (pe_tup (pa_c pe_int pa_nil))
                                        case y437 => exact pa_nil
                                case y444 => exact pa_nil
                      case y453 => exact pa_nil
                case y789 =>
                  refine' pss_cons ?y786 ?y787
                  case y786 =>
                    refine' ps_expr ?y488
                    case y488 =>
                      refine' pe_bm ?y482 ?y483 ?y484 ?y485 ?y486 ?y487
                      case y482 => exact PySem.F.plainAttrs_list
                      case y483 => exact PySem.F.slot_list_extend
                      case y484 => exact PySem.F.type_list_extend
                      case y485 => exact mt_extend
                      case y486 => exact (pv 6)
                      case y487 =>
                        refine' pa_c ?y480 ?y481
                        case y480 =>
                          refine' pe_lst ?y479
                          case y479 =>
                            refine' pa_c ?y477 ?y478
                            case y477 =>
                              refine' pe_tup ?y467
                              case y467 =>
                                refine' pa_c ?y465 ?y466
                                case y465 => exact pe_str
                                case y466 =>
                                  refine' pa_c ?y463 ?y464
                                  case y463 => exact (pv 5)
                                  case y464 =>
                                    refine' pa_c ?y461 ?y462
                                    case y461 => exact (pe_tup (pa_c pe_bl pa_nil))
                                    case y462 => exact pa_nil
                            case y478 =>
                              refine' pa_c ?y475 ?y476
                              case y475 =>
                                refine' pe_tup ?y474
                                case y474 =>
                                  refine' pa_c ?y472 ?y473
                                  case y472 => exact pe_str
                                  case y473 =>
                                    refine' pa_c ?y470 ?y471
                                    case y470 => exact (pv 5)
                                    case y471 =>
                                      refine' pa_c ?y468 ?y469
                                      case y468 => exact (pe_tup (pa_c pe_int pa_nil))
                                      case y469 => exact pa_nil
                              case y476 => exact pa_nil
                        case y481 => exact pa_nil
                  case y787 =>
                    refine' pss_cons ?y784 ?y785
                    case y784 =>
                      refine' ps_expr ?y540
                      case y540 =>
                        refine' pe_bm ?y534 ?y535 ?y536 ?y537 ?y538 ?y539
                        case y534 => exact PySem.F.plainAttrs_list
                        case y535 => exact PySem.F.slot_list_extend
                        case y536 => exact PySem.F.type_list_extend
                        case y537 => exact mt_extend
                        case y538 => exact (pv 6)
                        case y539 =>
                          refine' pa_c ?y532 ?y533
                          case y532 =>
                            refine' pe_lst ?y531
                            case y531 =>
                              refine' pa_c ?y529 ?y530
                              case y529 =>
                                refine' pe_tup ?y500
                                case y500 =>
                                  refine' pa_c ?y498 ?y499
                                  case y498 => exact pe_str
                                  case y499 =>
                                    refine' pa_c ?y496 ?y497
                                    case y496 => exact (pv 3)
                                    case y497 =>
                                      refine' pa_c ?y494 ?y495
                                      case y494 =>
                                        refine' pe_tup ?y493
                                        case y493 =>
                                          refine' pa_c ?y491 ?y492
                                          case y491 => exact pe_int
                                          case y492 =>
                                            refine' pa_c ?y489 ?y490
                                            case y489 => exact (pe_tup (pa_c pe_str (pa_c pe_int pa_nil)))
                                            case y490 => exact pa_nil
                                      case y495 => exact pa_nil
                              case y530 =>
                                refine' pa_c ?y527 ?y528
                                case y527 =>
                                  refine' pe_tup ?y512
                                  case y512 =>
                                    refine' pa_c ?y510 ?y511
                                    case y510 => exact pe_str
                                    case y511 =>
                                      refine' pa_c ?y508 ?y509
                                      case y508 => exact (pv 3)
                                      case y509 =>
                                        refine' pa_c ?y506 ?y507
                                        case y506 =>
                                          refine' pe_tup ?y505
                                          case y505 =>
                                            refine' pa_c ?y503 ?y504
                                            case y503 => exact pe_int
                                            case y504 =>
                                              refine' pa_c ?y501 ?y502
                                              case y501 => exact (pe_tup (pa_c pe_str (pa_c pe_int pa_nil)))
                                              case y502 => exact pa_nil
                                        case y507 => exact pa_nil
                                case y528 =>
                                  refine' pa_c ?y525 ?y526
                                  case y525 =>
                                    refine' pe_tup ?y524
                                    case y524 =>
                                      refine' pa_c ?y522 ?y523
                                      case y522 => exact pe_str
                                      case y523 =>
                                        refine' pa_c ?y520 ?y521
                                        case y520 => exact (pv 3)
                                        case y521 =>
                                          refine' pa_c ?y518 ?y519
                                          case y518 =>
                                            refine' pe_tup ?y517
                                            case y517 =>
                                              refine' pa_c ?y515 ?y516
                                              case y515 => exact (pe_tup (pa_c pe_str (pa_c pe_int pa_nil)))
                                              case y516 =>
                                                refine' pa_c ?y513 ?y514
                                                case y513 => exact pe_int
                                                case y514 => exact pa_nil
                                          case y519 => exact pa_nil
                                  case y526 => exact pa_nil
                          case y533 => exact pa_nil
                    case y785 =>
                      refine' pss_cons ?y782 ?y783
                      case y782 =>
                        refine' ps_expr ?y573
                        case y573 =>
                          refine' pe_bm ?y567 ?y568 ?y569 ?y570 ?y571 ?y572
                          case y567 => exact PySem.F.plainAttrs_list
                          case y568 => exact PySem.F.slot_list_extend
                          case y569 => exact PySem.F.type_list_extend
                          case y570 => exact mt_extend
                          case y571 => exact (pv 6)
                          case y572 =>
                            refine' pa_c ?y565 ?y566
                            case y565 =>
                              refine' pe_lst ?y564
                              case y564 =>
                                refine' pa_c ?y562 ?y563
                                case y562 =>
                                  refine' pe_tup ?y552
                                  case y552 =>
                                    refine' pa_c ?y550 ?y551
                                    case y550 => exact pe_str
                                    case y551 =>
                                      refine' pa_c ?y548 ?y549
                                      case y548 => exact (pv 3)
                                      case y549 =>
                                        refine' pa_c ?y546 ?y547
                                        case y546 =>
                                          refine' pe_tup ?y545
                                          case y545 =>
                                            refine' pa_c ?y543 ?y544
                                            case y543 => exact pe_int
                                            case y544 =>
                                              refine' pa_c ?y541 ?y542
                                              case y541 => exact (pe_tup (pa_c pe_str (pa_c pe_int pa_nil)))
                                              case y542 => exact pa_nil
                                        case y547 => exact pa_nil
                                case y563 =>
                                  refine' pa_c ?y560 ?y561
                                  case y560 =>
                                    refine' pe_tup ?y559
                                    case y559 =>
                                      refine' pa_c ?y557 ?y558
                                      case y557 => exact pe_str
                                      case y558 =>
                                        refine' pa_c ?y555 ?y556
                                        case y555 => exact (pv 4)
                                        case y556 =>
                                          refine' pa_c ?y553 ?y554
                                          case y553 => exact (pe_tup (pa_c pe_int pa_nil))
                                          case y554 => exact pa_nil
                                  case y561 => exact pa_nil
                            case y566 => exact pa_nil
                      case y783 =>
                        refine' pss_cons ?y780 ?y781
                        case y780 =>
                          refine' ps_expr ?y608
                          case y608 =>
                            refine' pe_bm ?y602 ?y603 ?y604 ?y605 ?y606 ?y607
                            case y602 => exact PySem.F.plainAttrs_list
                            case y603 => exact PySem.F.slot_list_extend
                            case y604 => exact PySem.F.type_list_extend
                            case y605 => exact mt_extend
                            case y606 => exact (pv 6)
                            case y607 =>
                              refine' pa_c ?y600 ?y601
                              case y600 =>
                                refine' pe_lst ?y599
                                case y599 =>
                                  refine' pa_c ?y597 ?y598
                                  case y597 =>
                                    refine' pe_tup ?y587
                                    case y587 =>
                                      refine' pa_c ?y585 ?y586
                                      case y585 => exact pe_str
                                      case y586 =>
                                        refine' pa_c ?y583 ?y584
                                        case y583 =>
                                          refine' pe_tup ?y580
                                          case y580 =>
                                            refine' pa_c ?y578 ?y579
                                            case y578 => exact pe_str
                                            case y579 =>
                                              refine' pa_c ?y576 ?y577
                                              case y576 => exact (pe_tup (pa_c pe_str (pa_c pe_int pa_nil)))
                                              case y577 =>
                                                refine' pa_c ?y574 ?y575
                                                case y574 => exact (pv 2)
                                                case y575 => exact pa_nil
                                        case y584 =>
                                          refine' pa_c ?y581 ?y582
                                          case y581 => exact (pe_tup (pa_c pe_int pa_nil))
                                          case y582 => exact pa_nil
                                  case y598 =>
                                    refine' pa_c ?y595 ?y596
                                    case y595 =>
                                      refine' pe_tup ?y594
                                      case y594 =>
                                        refine' pa_c ?y592 ?y593
                                        case y592 => exact pe_str
                                        case y593 =>
                                          refine' pa_c ?y590 ?y591
                                          case y590 => exact (pe_tup (pa_c pe_str (pa_c (pv 2) (pa_c (pv 2) pa_nil))))
                                          case y591 =>
                                            refine' pa_c ?y588 ?y589
                                            case y588 => exact (pe_tup (pa_c pe_int pa_nil))
                                            case y589 => exact pa_nil
                                    case y596 => exact pa_nil
                              case y601 => exact pa_nil
                        case y781 =>
                          refine' pss_cons ?y778 ?y779
                          case y778 =>
                            refine' ps_expr ?y643
                            case y643 =>
                              refine' pe_bm ?y637 ?y638 ?y639 ?y640 ?y641 ?y642
                              case y637 => exact PySem.F.plainAttrs_list
                              case y638 => exact PySem.F.slot_list_extend
                              case y639 => exact PySem.F.type_list_extend
                              case y640 => exact mt_extend
                              case y641 => exact (pv 6)
                              case y642 =>
                                refine' pa_c ?y635 ?y636
                                case y635 =>
                                  refine' pe_lst ?y634
                                  case y634 =>
                                    refine' pa_c ?y632 ?y633
                                    case y632 =>
                                      refine' pe_tup ?y622
                                      case y622 =>
                                        refine' pa_c ?y620 ?y621
                                        case y620 => exact pe_str
                                        case y621 =>
                                          refine' pa_c ?y618 ?y619
                                          case y618 =>
                                            refine' pe_tup ?y615
                                            case y615 =>
                                              refine' pa_c ?y613 ?y614
                                              case y613 => exact pe_str
                                              case y614 =>
                                                refine' pa_c ?y611 ?y612
                                                case y611 => exact (pv 2)
                                                case y612 =>
                                                  refine' pa_c ?y609 ?y610
                                                  case y609 => exact (pe_tup (pa_c pe_str (pa_c pe_int pa_nil)))
                                                  case y610 => exact pa_nil
                                          case y619 =>
                                            refine' pa_c ?y616 ?y617
                                            case y616 => exact (pe_tup (pa_c pe_int pa_nil))
                                            case y617 => exact pa_nil
                                    case y633 =>
                                      refine' pa_c ?y630 ?y631
                                      case y630 =>
                                        refine' pe_tup ?y629
                                        case y629 =>
                                          refine' pa_c ?y627 ?y628
                                          case y627 => exact pe_str
                                          case y628 =>
                                            refine' pa_c ?y625 ?y626
                                            case y625 => exact (pe_tup (pa_c pe_str (pa_c (pv 2) (pa_c (pv 2) (pa_c (pv 2) pa_nil)))))
                                            case y626 =>
                                              refine' pa_c ?y623 ?y624
                                              case y623 => exact (pe_tup (pa_c pe_int pa_nil))
                                              case y624 => exact pa_nil
                                      case y631 => exact pa_nil
                                case y636 => exact pa_nil
                          case y779 =>
                            refine' pss_cons ?y776 ?y777
                            case y776 =>
                              refine' ps_expr ?y680
                              case y680 =>
                                refine' pe_bm ?y674 ?y675 ?y676 ?y677 ?y678 ?y679
                                case y674 => exact PySem.F.plainAttrs_list
                                case y675 => exact PySem.F.slot_list_extend
                                case y676 => exact PySem.F.type_list_extend
                                case y677 => exact mt_extend
                                case y678 => exact (pv 6)
                                case y679 =>
                                  refine' pa_c ?y672 ?y673
                                  case y672 =>
                                    refine' pe_lst ?y671
                                    case y671 =>
                                      refine' pa_c ?y669 ?y670
                                      case y669 =>
                                        refine' pe_tup ?y650
                                        case y650 =>
                                          refine' pa_c ?y648 ?y649
                                          case y648 => exact pe_str
                                          case y649 =>
                                            refine' pa_c ?y646 ?y647
                                            case y646 => exact (pe_tup (pa_c pe_str (pa_c pe_int pa_nil)))
                                            case y647 =>
                                              refine' pa_c ?y644 ?y645
                                              case y644 => exact (pe_tup (pa_c pe_int (pa_c pe_int pa_nil)))
                                              case y645 => exact pa_nil
                                      case y670 =>
                                        refine' pa_c ?y667 ?y668
                                        case y667 =>
                                          refine' pe_tup ?y657
                                          case y657 =>
                                            refine' pa_c ?y655 ?y656
                                            case y655 => exact pe_str
                                            case y656 =>
                                              refine' pa_c ?y653 ?y654
                                              case y653 => exact (pe_tup (pa_c pe_str (pa_c pe_int (pa_c pe_int pa_nil))))
                                              case y654 =>
                                                refine' pa_c ?y651 ?y652
                                                case y651 => exact (pe_tup (pa_c pe_int (pa_c pe_int pa_nil)))
                                                case y652 => exact pa_nil
                                        case y668 =>
                                          refine' pa_c ?y665 ?y666
                                          case y665 =>
                                            refine' pe_tup ?y664
                                            case y664 =>
                                              refine' pa_c ?y662 ?y663
                                              case y662 => exact pe_str
                                              case y663 =>
                                                refine' pa_c ?y660 ?y661
                                                case y660 => exact (pe_tup (pa_c pe_str (pa_c pe_int (pa_c pe_int pa_nil))))
                                                case y661 =>
                                                  refine' pa_c ?y658 ?y659
                                                  case y658 => exact (pe_tup (pa_c pe_int (pa_c pe_int pa_nil)))
                                                  case y659 => exact pa_nil
                                          case y666 => exact pa_nil
                                  case y673 => exact pa_nil
                            case y777 =>
                              refine' pss_cons ?y774 ?y775
                              case y774 =>
                                refine' ps_expr ?y708
                                case y708 =>
                                  refine' pe_bm ?y702 ?y703 ?y704 ?y705 ?y706 ?y707
                                  case y702 => exact PySem.F.plainAttrs_list
                                  case y703 => exact PySem.F.slot_list_extend
                                  case y704 => exact PySem.F.type_list_extend
                                  case y705 => exact mt_extend
                                  case y706 => exact (pv 6)
                                  case y707 =>
                                    refine' pa_c ?y700 ?y701
                                    case y700 =>
                                      refine' pe_lst ?y699
                                      case y699 =>
                                        refine' pa_c ?y697 ?y698
                                        case y697 =>
                                          refine' pe_tup ?y687
                                          case y687 =>
                                            refine' pa_c ?y685 ?y686
                                            case y685 => exact pe_str
                                            case y686 =>
                                              refine' pa_c ?y683 ?y684
                                              case y683 => exact (pe_tup (pa_c pe_str (pa_c pe_int pa_nil)))
                                              case y684 =>
                                                refine' pa_c ?y681 ?y682
                                                case y681 => exact (pe_tup (pa_c pe_int (pa_c pe_int pa_nil)))
                                                case y682 => exact pa_nil
                                        case y698 =>
                                          refine' pa_c ?y695 ?y696
                                          case y695 =>
                                            refine' pe_tup ?y694
                                            case y694 =>
                                              refine' pa_c ?y692 ?y693
                                              case y692 => exact pe_str
                                              case y693 =>
                                                refine' pa_c ?y690 ?y691
                                                case y690 => exact (pe_tup (pa_c pe_str (pa_c (pe_un un_neg pe_int) pa_nil)))
                                                case y691 =>
                                                  refine' pa_c ?y688 ?y689
                                                  case y688 => exact (pe_tup (pa_c pe_int (pa_c pe_int pa_nil)))
                                                  case y689 => exact pa_nil
                                          case y696 => exact pa_nil
                                    case y701 => exact pa_nil
                              case y775 =>
                                refine' pss_cons ?y772 ?y773
                                case y772 =>
                                  refine' ps_expr ?y738
                                  case y738 =>
                                    refine' pe_bm ?y732 ?y733 ?y734 ?y735 ?y736 ?y737
                                    case y732 => exact PySem.F.plainAttrs_list
                                    case y733 => exact PySem.F.slot_list_append
                                    case y734 => exact PySem.F.type_list_append
                                    case y735 => exact mt_append
                                    case y736 => exact (pv 6)
                                    case y737 =>
                                      refine' pa_c ?y730 ?y731
                                      case y730 =>
                                        refine' pe_tup ?y729
                                        case y729 =>
                                          refine' pa_c ?y727 ?y728
                                          case y727 => exact pe_str
                                          case y728 =>
                                            refine' pa_c ?y725 ?y726
                                            case y725 =>
                                              refine' pe_tup ?y722
                                              case y722 =>
                                                refine' pa_c ?y720 ?y721
                                                case y720 => exact pe_str
                                                case y721 =>
                                                  refine' pa_c ?y718 ?y719
                                                  case y718 =>
                                                    refine' pe_tup ?y715
                                                    case y715 =>
                                                      refine' pa_c ?y713 ?y714
                                                      case y713 => exact pe_str
                                                      case y714 =>
                                                        refine' pa_c ?y711 ?y712
                                                        case y711 => exact (pe_tup (pa_c pe_str (pa_c (pv 2) (pa_c (pv 3) pa_nil))))
                                                        case y712 =>
                                                          refine' pa_c ?y709 ?y710
                                                          case y709 => exact (pe_tup (pa_c pe_str (pa_c pe_int pa_nil)))
                                                          case y710 => exact pa_nil
                                                  case y719 =>
                                                    refine' pa_c ?y716 ?y717
                                                    case y716 => exact (pe_tup (pa_c pe_str (pa_c pe_int pa_nil)))
                                                    case y717 => exact pa_nil
                                            case y726 =>
                                              refine' pa_c ?y723 ?y724
                                              case y723 => exact (pe_tup (pa_c pe_int pa_nil))
                                              case y724 => exact pa_nil
                                      case y731 => exact pa_nil
                                case y773 =>
                                  refine' pss_cons ?y770 ?y771
                                  case y770 =>
                                    refine' ps_expr ?y768
                                    case y768 =>
                                      refine' pe_bm ?y762 ?y763 ?y764 ?y765 ?y766 ?y767
                                      case y762 => exact PySem.F.plainAttrs_list
                                      case y763 => exact PySem.F.slot_list_append
                                      case y764 => exact PySem.F.type_list_append
                                      case y765 => exact mt_append
                                      case y766 => exact (pv 6)
                                      case y767 =>
                                        refine' pa_c ?y760 ?y761
                                        case y760 =>
                                          refine' pe_tup ?y759
                                          case y759 =>
                                            refine' pa_c ?y757 ?y758
                                            case y757 => exact pe_str
                                            case y758 =>
                                              refine' pa_c ?y755 ?y756
                                              case y755 =>
                                                refine' pe_tup ?y752
                                                case y752 =>
                                                  refine' pa_c ?y750 ?y751
                                                  case y750 => exact pe_str
                                                  case y751 =>
                                                    refine' pa_c ?y748 ?y749
                                                    case y748 =>
                                                      refine' pe_tup ?y745
                                                      case y745 =>
                                                        refine' pa_c ?y743 ?y744
                                                        case y743 => exact pe_str
                                                        case y744 =>
                                                          refine' pa_c ?y741 ?y742
                                                          case y741 => exact (pv 2)
                                                          case y742 =>
                                                            refine' pa_c ?y739 ?y740
                                                            case y739 => exact (pe_tup (pa_c pe_str (pa_c pe_int pa_nil)))
                                                            case y740 => exact pa_nil
                                                    case y749 =>
                                                      refine' pa_c ?y746 ?y747
                                                      case y746 => exact (pe_tup (pa_c pe_str (pa_c pe_int pa_nil)))
                                                      case y747 => exact pa_nil
                                              case y756 =>
                                                refine' pa_c ?y753 ?y754
                                                case y753 => exact (pe_tup (pa_c pe_int (pa_c pe_int pa_nil)))
                                                case y754 => exact pa_nil
                                        case y761 => exact pa_nil
                                  case y771 =>
                                    refine' pss_one ?y769
                                    case y769 => exact (ps_ret (pe_call F__law_pick hr rfl T.m__law_pick T.f__law_pick.kp (b__law_pick T) .nil pass0 (pa_c (pv 0) (pa_c (pv 1) (pa_c (pv 6) pa_nil)))))
  case yread =>
    refine rs_unp3 (K := K) (d := .tup [.str "hole", .int 0]) (e := .tup [.str "gap", .int 0, .int 99]) (f := .tup [.str "slot", .int 0]) (re_tup (ra_cons (re_tup (ra_cons re_str (ra_cons re_int ra_nil))) (ra_cons (re_tup (ra_cons re_str (ra_cons re_int (ra_cons re_int ra_nil)))) (ra_cons (re_tup (ra_cons re_str (ra_cons re_int ra_nil))) ra_nil)))) fun vh vg vs_ H1 s1 dh dg dsl => ?_
    refine rs_setr (K := K) (d := .tup [.str "add", .tup [.str "hole", .int 0], .tup [.str "hole", .int 1]]) (re_tup (ra_cons re_str (ra_cons (re_var dh) (ra_cons (re_tup (ra_cons re_str (ra_cons re_int ra_nil))) ra_nil)))) fun vt H2 s2 dt => ?_
    have dh := s2.dat dh
    have dg := s2.dat dg
    have dsl := s2.dat dsl
    refine rs_setC (K := K) (rc_lst (ra_cons re_non (ra_cons (re_tup ra_nil) (ra_cons (re_tup (ra_cons re_str (ra_cons (re_var dt) ra_nil))) (ra_cons (re_tup (ra_cons re_str (ra_cons (re_var dt) (ra_cons (re_tup (ra_cons re_int ra_nil)) ra_nil)))) (ra_cons (re_tup (ra_cons re_str (ra_cons (re_var dt) (ra_cons (re_tup (ra_cons re_int ra_nil)) ra_nil)))) (ra_cons (re_tup (ra_cons re_str (ra_cons (re_var dt) (ra_cons (re_tup (ra_cons re_int ra_nil)) ra_nil)))) ra_nil))))))) fun lb x0 G0 hb s3 h0 e0 => ?_
    have hlb : H lb = none := (s1.trans s2).free hb
    have dh := s3.dat dh
    have dg := s3.dat dg
    have dsl := s3.dat dsl
    have dt := s3.dat dt
    have bb0 : But lb H G0 := (s1.trans (s2.trans s3)).but
    have l0 := e0.length
    simp only [List.length_cons, List.length_nil, List.length_append] at l0
    refine rs_extl (K := K) (ra_cons (re_tup (ra_cons re_str (ra_cons (re_var dt) (ra_cons (re_tup (ra_cons re_int ra_nil)) ra_nil)))) (ra_cons (re_lst (ra_cons re_str (ra_cons (re_var dt) (ra_cons (re_tup (ra_cons re_int ra_nil)) ra_nil)))) ra_nil)) h0 (by first | omega | (simp only [List.length_append, List.length_cons, List.length_nil]; omega)) fun x1 G1 b1 h1 e1' => ?_
    have g1 : Grow K _ G1 := b1.grow h0 h1
    have dh := Dat.mono g1 _ dh
    have dg := Dat.mono g1 _ dg
    have dsl := Dat.mono g1 _ dsl
    have dt := Dat.mono g1 _ dt
    have e1 := Dats.append (Dats.mono g1 _ e0) e1'
    have l1 := e1.length
    have bb1 := bb0.trans b1
    simp only [List.length_cons, List.length_nil, List.length_append] at l1
    refine rs_extl (K := K) (ra_cons (re_tup (ra_cons re_str (ra_cons (re_var dh) (ra_cons (re_tup (ra_cons re_int ra_nil)) ra_nil)))) (ra_cons (re_tup (ra_cons re_str (ra_cons (re_var dt) (ra_cons (re_tup ra_nil) ra_nil)))) (ra_cons (re_tup (ra_cons re_str (ra_cons (re_var dt) (ra_cons (re_lst (ra_cons re_int ra_nil)) ra_nil)))) (ra_cons (re_tup (ra_cons re_str (ra_cons (re_var dt) (ra_cons (re_tup (ra_cons re_int (ra_cons re_int ra_nil))) ra_nil)))) (ra_cons (re_tup (ra_cons re_str (ra_cons (re_var dt) (ra_cons (re_tup (ra_cons re_int ra_nil)) ra_nil)))) ra_nil))))) h1 (by first | omega | (simp only [List.length_append, List.length_cons, List.length_nil]; omega)) fun x2 G2 b2 h2 e2' => ?_
    have g2 : Grow K _ G2 := b2.grow h1 h2
    have dh := Dat.mono g2 _ dh
    have dg := Dat.mono g2 _ dg
    have dsl := Dat.mono g2 _ dsl
    have dt := Dat.mono g2 _ dt
    have e2 := Dats.append (Dats.mono g2 _ e1) e2'
    have l2 := e2.length
    have bb2 := bb1.trans b2
    simp only [List.length_cons, List.length_nil, List.length_append] at l2
    refine rs_extl (K := K) (ra_cons (re_tup (ra_cons re_str (ra_cons (re_var dt) (ra_cons (re_tup (ra_cons re_int (ra_cons re_int (ra_cons re_int ra_nil)))) ra_nil)))) ra_nil) h2 (by first | omega | (simp only [List.length_append, List.length_cons, List.length_nil]; omega)) fun x3 G3 b3 h3 e3' => ?_
    have g3 : Grow K _ G3 := b3.grow h2 h3
    have dh := Dat.mono g3 _ dh
    have dg := Dat.mono g3 _ dg
    have dsl := Dat.mono g3 _ dsl
    have dt := Dat.mono g3 _ dt
    have e3 := Dats.append (Dats.mono g3 _ e2) e3'
    have l3 := e3.length
    have bb3 := bb2.trans b3
    simp only [List.length_cons, List.length_nil, List.length_append] at l3
    refine rs_extl (K := K) (ra_cons (re_tup (ra_cons re_str (ra_cons (re_var dt) (ra_cons (re_tup (ra_cons re_int ra_nil)) ra_nil)))) (ra_cons (re_tup (ra_cons re_str (ra_cons (re_var dt) (ra_cons (re_tup (ra_cons re_int (ra_cons re_int ra_nil))) ra_nil)))) (ra_cons (re_tup (ra_cons re_str (ra_cons (re_var dt) (ra_cons (RE.as (d' := .tup [.int 4, .int 4, .int 4, .int 4, .int 4, .int 4, .int 4, .int 4, .int 4, .int 4, .int 4, .int 4, .int 4]) (re_repN (i := 13) (re_tup (ra_cons re_int ra_nil))) rfl) ra_nil)))) (ra_cons (re_tup (ra_cons re_str (ra_cons (re_var dt) (ra_cons (re_tup (ra_cons re_int ra_nil)) ra_nil)))) ra_nil)))) h3 (by first | omega | (simp only [List.length_append, List.length_cons, List.length_nil]; omega)) fun x4 G4 b4 h4 e4' => ?_
    have g4 : Grow K _ G4 := b4.grow h3 h4
    have dh := Dat.mono g4 _ dh
    have dg := Dat.mono g4 _ dg
    have dsl := Dat.mono g4 _ dsl
    have dt := Dat.mono g4 _ dt
    have e4 := Dats.append (Dats.mono g4 _ e3) e4'
    have l4 := e4.length
    have bb4 := bb3.trans b4
    simp only [List.length_cons, List.length_nil, List.length_append] at l4
    refine rs_extl (K := K) (ra_cons (re_tup (ra_cons re_str (ra_cons (re_var dt) (ra_cons (re_tup (ra_cons re_bl ra_nil)) ra_nil)))) (ra_cons (re_tup (ra_cons re_str (ra_cons (re_var dt) (ra_cons (re_tup (ra_cons re_int ra_nil)) ra_nil)))) ra_nil)) h4 (by first | omega | (simp only [List.length_append, List.length_cons, List.length_nil]; omega)) fun x5 G5 b5 h5 e5' => ?_
    have g5 : Grow K _ G5 := b5.grow h4 h5
    have dh := Dat.mono g5 _ dh
    have dg := Dat.mono g5 _ dg
    have dsl := Dat.mono g5 _ dsl
    have dt := Dat.mono g5 _ dt
    have e5 := Dats.append (Dats.mono g5 _ e4) e5'
    have l5 := e5.length
    have bb5 := bb4.trans b5
    simp only [List.length_cons, List.length_nil, List.length_append] at l5
    refine rs_extl (K := K) (ra_cons (re_tup (ra_cons re_str (ra_cons (re_var dg) (ra_cons (re_tup (ra_cons re_int (ra_cons (re_tup (ra_cons re_str (ra_cons re_int ra_nil))) ra_nil))) ra_nil)))) (ra_cons (re_tup (ra_cons re_str (ra_cons (re_var dg) (ra_cons (re_tup (ra_cons re_int (ra_cons (re_tup (ra_cons re_str (ra_cons re_int ra_nil))) ra_nil))) ra_nil)))) (ra_cons (re_tup (ra_cons re_str (ra_cons (re_var dg) (ra_cons (re_tup (ra_cons (re_tup (ra_cons re_str (ra_cons re_int ra_nil))) (ra_cons re_int ra_nil))) ra_nil)))) ra_nil))) h5 (by first | omega | (simp only [List.length_append, List.length_cons, List.length_nil]; omega)) fun x6 G6 b6 h6 e6' => ?_
    have g6 : Grow K _ G6 := b6.grow h5 h6
    have dh := Dat.mono g6 _ dh
    have dg := Dat.mono g6 _ dg
    have dsl := Dat.mono g6 _ dsl
    have dt := Dat.mono g6 _ dt
    have e6 := Dats.append (Dats.mono g6 _ e5) e6'
    have l6 := e6.length
    have bb6 := bb5.trans b6
    simp only [List.length_cons, List.length_nil, List.length_append] at l6
    refine rs_extl (K := K) (ra_cons (re_tup (ra_cons re_str (ra_cons (re_var dg) (ra_cons (re_tup (ra_cons re_int (ra_cons (re_tup (ra_cons re_str (ra_cons re_int ra_nil))) ra_nil))) ra_nil)))) (ra_cons (re_tup (ra_cons re_str (ra_cons (re_var dsl) (ra_cons (re_tup (ra_cons re_int ra_nil)) ra_nil)))) ra_nil)) h6 (by first | omega | (simp only [List.length_append, List.length_cons, List.length_nil]; omega)) fun x7 G7 b7 h7 e7' => ?_
    have g7 : Grow K _ G7 := b7.grow h6 h7
    have dh := Dat.mono g7 _ dh
    have dg := Dat.mono g7 _ dg
    have dsl := Dat.mono g7 _ dsl
    have dt := Dat.mono g7 _ dt
    have e7 := Dats.append (Dats.mono g7 _ e6) e7'
    have l7 := e7.length
    have bb7 := bb6.trans b7
    simp only [List.length_cons, List.length_nil, List.length_append] at l7
    refine rs_extl (K := K) (ra_cons (re_tup (ra_cons re_str (ra_cons (re_tup (ra_cons re_str (ra_cons (re_tup (ra_cons re_str (ra_cons re_int ra_nil))) (ra_cons (re_var dh) ra_nil)))) (ra_cons (re_tup (ra_cons re_int ra_nil)) ra_nil)))) (ra_cons (re_tup (ra_cons re_str (ra_cons (re_tup (ra_cons re_str (ra_cons (re_var dh) (ra_cons (re_var dh) ra_nil)))) (ra_cons (re_tup (ra_cons re_int ra_nil)) ra_nil)))) ra_nil)) h7 (by first | omega | (simp only [List.length_append, List.length_cons, List.length_nil]; omega)) fun x8 G8 b8 h8 e8' => ?_
    have g8 : Grow K _ G8 := b8.grow h7 h8
    have dh := Dat.mono g8 _ dh
    have dg := Dat.mono g8 _ dg
    have dsl := Dat.mono g8 _ dsl
    have dt := Dat.mono g8 _ dt
    have e8 := Dats.append (Dats.mono g8 _ e7) e8'
    have l8 := e8.length
    have bb8 := bb7.trans b8
    simp only [List.length_cons, List.length_nil, List.length_append] at l8
    refine rs_extl (K := K) (ra_cons (re_tup (ra_cons re_str (ra_cons (re_tup (ra_cons re_str (ra_cons (re_var dh) (ra_cons (re_tup (ra_cons re_str (ra_cons re_int ra_nil))) ra_nil)))) (ra_cons (re_tup (ra_cons re_int ra_nil)) ra_nil)))) (ra_cons (re_tup (ra_cons re_str (ra_cons (re_tup (ra_cons re_str (ra_cons (re_var dh) (ra_cons (re_var dh) (ra_cons (re_var dh) ra_nil))))) (ra_cons (re_tup (ra_cons re_int ra_nil)) ra_nil)))) ra_nil)) h8 (by first | omega | (simp only [List.length_append, List.length_cons, List.length_nil]; omega)) fun x9 G9 b9 h9 e9' => ?_
    have g9 : Grow K _ G9 := b9.grow h8 h9
    have dh := Dat.mono g9 _ dh
    have dg := Dat.mono g9 _ dg
    have dsl := Dat.mono g9 _ dsl
    have dt := Dat.mono g9 _ dt
    have e9 := Dats.append (Dats.mono g9 _ e8) e9'
    have l9 := e9.length
    have bb9 := bb8.trans b9
    simp only [List.length_cons, List.length_nil, List.length_append] at l9
    refine rs_extl (K := K) (ra_cons (re_tup (ra_cons re_str (ra_cons (re_tup (ra_cons re_str (ra_cons re_int ra_nil))) (ra_cons (re_tup (ra_cons re_int (ra_cons re_int ra_nil))) ra_nil)))) (ra_cons (re_tup (ra_cons re_str (ra_cons (re_tup (ra_cons re_str (ra_cons re_int (ra_cons re_int ra_nil)))) (ra_cons (re_tup (ra_cons re_int (ra_cons re_int ra_nil))) ra_nil)))) (ra_cons (re_tup (ra_cons re_str (ra_cons (re_tup (ra_cons re_str (ra_cons re_int (ra_cons re_int ra_nil)))) (ra_cons (re_tup (ra_cons re_int (ra_cons re_int ra_nil))) ra_nil)))) ra_nil))) h9 (by first | omega | (simp only [List.length_append, List.length_cons, List.length_nil]; omega)) fun x10 G10 b10 h10 e10' => ?_
    have g10 : Grow K _ G10 := b10.grow h9 h10
    have dh := Dat.mono g10 _ dh
    have dg := Dat.mono g10 _ dg
    have dsl := Dat.mono g10 _ dsl
    have dt := Dat.mono g10 _ dt
    have e10 := Dats.append (Dats.mono g10 _ e9) e10'
    have l10 := e10.length
    have bb10 := bb9.trans b10
    simp only [List.length_cons, List.length_nil, List.length_append] at l10
    refine rs_extl (K := K) (ra_cons (re_tup (ra_cons re_str (ra_cons (re_tup (ra_cons re_str (ra_cons re_int ra_nil))) (ra_cons (re_tup (ra_cons re_int (ra_cons re_int ra_nil))) ra_nil)))) (ra_cons (re_tup (ra_cons re_str (ra_cons (re_tup (ra_cons re_str (ra_cons (re_un re_int) ra_nil))) (ra_cons (re_tup (ra_cons re_int (ra_cons re_int ra_nil))) ra_nil)))) ra_nil)) h10 (by first | omega | (simp only [List.length_append, List.length_cons, List.length_nil]; omega)) fun x11 G11 b11 h11 e11' => ?_
    have g11 : Grow K _ G11 := b11.grow h10 h11
    have dh := Dat.mono g11 _ dh
    have dg := Dat.mono g11 _ dg
    have dsl := Dat.mono g11 _ dsl
    have dt := Dat.mono g11 _ dt
    have e11 := Dats.append (Dats.mono g11 _ e10) e11'
    have l11 := e11.length
    have bb11 := bb10.trans b11
    simp only [List.length_cons, List.length_nil, List.length_append] at l11
    refine rs_appl (K := K) (re_tup (ra_cons re_str (ra_cons (re_tup (ra_cons re_str (ra_cons (re_tup (ra_cons re_str (ra_cons (re_tup (ra_cons re_str (ra_cons (re_var dh) (ra_cons (re_var dg) ra_nil)))) (ra_cons (re_tup (ra_cons re_str (ra_cons re_int ra_nil))) ra_nil)))) (ra_cons (re_tup (ra_cons re_str (ra_cons re_int ra_nil))) ra_nil)))) (ra_cons (re_tup (ra_cons re_int ra_nil)) ra_nil)))) h11 (by first | omega | (simp only [List.length_append, List.length_cons, List.length_nil]; omega)) fun y12 G12 b12 h12 e12' => ?_
    have g12 : Grow K _ G12 := b12.grow h11 h12
    have dh := Dat.mono g12 _ dh
    have dg := Dat.mono g12 _ dg
    have dsl := Dat.mono g12 _ dsl
    have dt := Dat.mono g12 _ dt
    have e12 := Dats.append (Dats.mono g12 _ e11) (Dats.cons e12' Dats.nil)
    have l12 := e12.length
    have bb12 := bb11.trans b12
    simp only [List.length_cons, List.length_nil, List.length_append] at l12
    refine rs_appl (K := K) (re_tup (ra_cons re_str (ra_cons (re_tup (ra_cons re_str (ra_cons (re_tup (ra_cons re_str (ra_cons (re_var dh) (ra_cons (re_tup (ra_cons re_str (ra_cons re_int ra_nil))) ra_nil)))) (ra_cons (re_tup (ra_cons re_str (ra_cons re_int ra_nil))) ra_nil)))) (ra_cons (re_tup (ra_cons re_int (ra_cons re_int ra_nil))) ra_nil)))) h12 (by first | omega | (simp only [List.length_append, List.length_cons, List.length_nil]; omega)) fun y13 G13 b13 h13 e13' => ?_
    have g13 : Grow K _ G13 := b13.grow h12 h13
    have dh := Dat.mono g13 _ dh
    have dg := Dat.mono g13 _ dg
    have dsl := Dat.mono g13 _ dsl
    have dt := Dat.mono g13 _ dt
    have e13 := Dats.append (Dats.mono g13 _ e12) (Dats.cons e13' Dats.nil)
    have l13 := e13.length
    have bb13 := bb12.trans b13
    have sm : Same H G13 := fun b o hbo => bb13 b o (ne_of_none hbo hlb) hbo
    have nlb : lb ≠ t := fun z => by rw [z, hT] at hlb; cases hlb
    refine ⟨_, rfl, _, rfl, _, rfl, a, t, lb, ns, _, p, q, rest, rfl, hS.same sm, SqL.of h13, nlb, ?_, ?_, sm _ _ hT, hp, fun i x H' p' q' bt t' g' hx => ?_⟩
    · rw [← e13.length]; simp
    · rw [← e13.length]; simp
    · obtain ⟨d, ed, hd⟩ := e13.getV hx
      exact post x H' d p' q' (sm.but.trans bt) t' g' (List.mem_of_getElem? (show badsP[i]? = some d from ed)) (Dat.mono (bt.grow (sm _ _ hT) t') _ hd)
end
end My
end
section
set_option Elab.async false
set_option linter.all false
set_option maxRecDepth 100000
set_option maxHeartbeats 4000000
namespace My
open PySem L2 PyProof.Rows
section
variable {P : Program} {w : World} {K : PySem.W.Frag} {mg : Str → Option Value} {base : Heap} {k : Nat}

/-- BASIC and some pieces more, drawn -/
def spSet (K : PySem.W.Frag) : Sp := fun vs H Q _ => ∃ (a t : Addr) (ns : List Int) (p q : Int) (rest : List V), vs = [.ref a, .ref t] ∧ Scr K H a ns ∧ H t = some (.lst (.int p :: .int q :: rest)) ∧ 0 ≤ p ∧
  ∀ (sub : List D) (l : Addr) (ys : List V) (H' : Hp) (p' q' : Int), But t H H' → H' t = some (.lst (.int p' :: .int q' :: rest)) → 0 ≤ p' → sub.Sublist LPD → H l = none → H' l = some (.lst ys) → Dats K H' (BAS ++ sub) ys → Q (.ref l) H'
theorem ok__law_set (T : Txt P w K mg) (F__law_pieces : FnOk P w K mg base CX0 k T.a__law_pieces T.d__law_pieces [] (spDL K fun ds es => ds = [] ∧ es = LPD)) (F__law_draw : FnOk P w K mg base CX0 k T.a__law_draw T.d__law_draw ["_law_script", "_law_town", "_law_many"] (spDraw K)) : FnOk P w K mg base CX0 (k + 1) T.a__law_set T.d__law_set ["_law_script", "_law_town"] (spSet K) := by
  refine T.f__law_set.ok sc__law_set (fun vs H Q E h => ?_) (fun cdv A outer s H vs Q E hr h => ?_)
  · obtain ⟨a, t, ns, p, q, rest, rfl, _⟩ := h; rfl
  have nd := sc__law_set.nd
  obtain ⟨a, t, ns, p, q, rest, rfl, hS, hT, hp, post⟩ := h
  refine ⟨_, (pss_cons (ps_setComp (i := 2) (own := ["_law_piece"]) (fr := [0, 1]) (N' := ["_law_piece", "_law_script", "_law_town"]) (pi_list (pe_call0 F__law_pieces hr rfl T.m__law_pieces T.f__law_pieces.kp (b__law_pieces T) .nil pass0)) rfl (by show blkChk ["_law_script", "_law_town", "_law_more"] (fun x => (defScope s__law_set).names.lookup x) _ _ _ _ = true; decide +kernel) rfl (fun _ _ _ _ _ => (pg_name (i := 0) (by show List.Nodup [("_law_piece" : Str), ("_law_script" : Str), ("_law_town" : Str)]; decide +kernel) rfl (Or.inl rfl))) (fun _ _ _ _ _ => (pifs_one (pt_cmpR op_eq (pe_call F__law_draw hr rfl T.m__law_draw T.f__law_draw.kp (b__law_draw T) .nil pass0 (pa_c (pv 1) (pa_c (pv 2) (pa_c pe_int pa_nil)))) pe_int (nomark _)))) (fun _ _ _ _ _ => (pv 0)) nd rfl rfl rfl)
  (pss_one (ps_ret (pe_op op_catK (pe_glob (v := .ref T.a_BASIC) rfl T.g_BASIC rfl) (pv 2))))), ?_⟩
  refine rs_asg (rcomp_listF (K := K) (fun r us H1 => Same H H1 ∧ H r = none ∧ Dats K H1 LPD us) (fun R hR => ⟨[], LPD, Dats.nil, ⟨rfl, rfl⟩, fun r us H1 s1 hr hr0 hd => hR r us H1 hr ⟨s1, hr0, hd⟩⟩) rfl (fun r us H1 l hr hM hl => ?_))
  obtain ⟨s1, hr0, hd⟩ := hM
  have hT1 := s1 _ _ hT
  have nrt : r ≠ t := Ne.symm (ne_of_none hT hr0)
  have nlt : l ≠ t := Ne.symm (ne_of_none hT1 hl)
  have nlr : r ≠ l := ne_of_none hr hl
  have lu := hd.length
  have lu8 : us.length = 8 := by rw [← lu]; rfl
  refine ⟨
    (fun i G => ∃ (sub : List D) (ys : List V) (p' q' : Int), But t H1 G ∧ G t = some (.lst (.int p' :: .int q' :: rest)) ∧ 0 ≤ p' ∧ sub.Sublist (LPD.take i) ∧ G l = some (.lst ys) ∧ Dats K G sub ys ∧ sub.length ≤ i), ?_, (fun i G hi ⟨_, _, _, _, b, _⟩ => SqL.of (b _ _ nrt hr)), (fun i G hi pn => ?_), (fun G pn => ?_)⟩
  · exact ⟨[], [], p, q, (same_new hl _).but, by rw [upd_ne (Ne.symm nlt)]; exact hT1, hp, List.nil_sublist _, upd_same, Dats.nil, Nat.le_refl _⟩
  · obtain ⟨sub, ys, p', q', bG, tG, gp, hsub, hlG, dG, lsub⟩ := pn
    have ly := dG.length
    have gG : Grow K H1 G := bG.grow hT1 tG
    have hdG : Dats K G LPD us := Dats.mono gG _ hd
    obtain ⟨dx, ex, hx⟩ := hdG.getV (List.getElem?_eq_getElem hi)
    have et : LPD.take (i + 1) = LPD.take i ++ [dx] := by rw [List.take_add_one, ex]; rfl
    have hitem : us.getD i .non = us[i] := by rw [List.getD_eq_getElem?_getD, List.getElem?_eq_getElem hi]; rfl
    refine ⟨_, rfl, _, rfl, a, t, ns, 2, p', q', rest, rfl, hS.but (s1.but.trans bG) hT, tG, gp, by decide, by decide, fun r3 G3 p3 q3 b3 t3 g3 r3a r3b => ?_⟩
    refine ⟨rfl, _, rfl, ?_⟩
    have hl3 := b3 _ _ nlt hlG
    have g3' : Grow K G G3 := b3.grow tG t3
    refine ite2 (fun c => ?_) (fun c => ?_)
    · refine ⟨_, rfl, ys, hl3, small1000 (by omega), ⟨_, rfl⟩, ?_⟩
      rw [hitem]
      have b4 : But l G3 (upd G3 l (.lst (ys ++ [us[i]]))) := But.upd (Same.refl _).but
      have g4 : Grow K G3 (upd G3 l (.lst (ys ++ [us[i]]))) := b4.grow hl3 upd_same
      refine ⟨sub ++ [dx], ys ++ [us[i]], p3, q3, fun b o nb hb => b4 b o (ne_of_none hb hl) (b3 b o nb (bG b o nb hb)), b4 _ _ (Ne.symm nlt) t3, g3, ?_, upd_same, ?_, ?_⟩
      · rw [et]; exact hsub.append (List.Sublist.refl _)
      · exact Dats.append (Dats.mono g4 _ (Dats.mono g3' _ dG)) (Dats.cons (Dat.mono g4 _ (Dat.mono g3' _ hx)) Dats.nil)
      · rw [List.length_append]
        simp
        omega
    · refine ⟨⟨_, rfl⟩, sub, ys, p3, q3, bG.trans b3, t3, g3, ?_, hl3, Dats.mono g3' _ dG, by omega⟩
      rw [et]
      exact hsub.trans (List.sublist_append_left _ _)
  · obtain ⟨sub, ys, p', q', bG, tG, gp, hsub, hlG, dG, lsub⟩ := pn
    have hL : LD K G sub (.ref l) := LD.of hlG dG
    have hsub' : sub.Sublist LPD := hsub.trans (List.take_sublist _ _)
    refine rs_rt (RC.use (K := K) (rc_catK (rl_con T.c_BASIC) (rl_var (k := 2) hL) (by show 8 + sub.length ≤ 1000; omega)) fun lz zs G2 hlz s2 hzs dzs => ?_)
    refine post sub lz zs G2 p' q' ((s1.but.trans bG).trans s2.but) (s2 _ _ tG) gp hsub' ?_ hzs dzs
    cases h : H lz with
    | none => rfl
    | some o =>
      have h1 := s1 _ _ h
      by_cases e : lz = t
      · rw [e, tG] at hlz; cases hlz
      · rw [bG _ _ e h1] at hlz; cases hlz
end
end My
end
section
set_option Elab.async false
set_option linter.all false
set_option maxRecDepth 100000
set_option maxHeartbeats 4000000
namespace My
open PySem L2 PyProof.Rows
section
variable {P : Program} {w : World} {K : PySem.W.Frag} {mg : Str → Option Value} {base : Heap} {k : Nat}

theorem for_enum {a : Addr} {xs : List V} {g : TG} {tb : TS} {En : Ends} {σ : L2.St} {H : Hp} (Pv : Nat → L2.St → Hp → Prop) (h0 : Pv 0 σ H) (hl : ∀ i σ H, i ≤ xs.length → Pv i σ H → SqT K H a xs)
    (hs : ∀ i y p σ H, xs[i]? = some y → Pv i σ H → H p = none → g (.ref p) σ (upd H p (.tup [.int i, y])) fun σ2 H2 => tb { En with nx := Pv (i + 1), ct := Pv (i + 1), bk := En.nx } σ2 H2) (hd : ∀ σ H, Pv xs.length σ H → En.nx σ H) :
    ∃ W : Nat → Nat → L2.St → Hp → Prop, (∃ m, W 0 m σ H) ∧ ∀ i m σ H, W i m σ H →
      ((Ite K a xs).stop i H ∧ En.nx σ H) ∨ ((Ite K a xs).go i H ∧ ∃ N : L2.St → Hp → Prop, (∀ σ' H', N σ' H' → ∃ m', m' < m ∧ W (i + 1) m' σ' H') ∧ ∀ x H', (Ite K a xs).yld i H x H' → g x σ H' fun σ2 H2 => tb { En with nx := N, ct := N, bk := En.nx } σ2 H2) := by
  refine ⟨fun i m σ H => m = xs.length - i ∧ i ≤ xs.length ∧ Pv i σ H, ⟨xs.length, by simp, Nat.zero_le _, h0⟩, ?_⟩
  rintro i m σ H ⟨rfl, hi, p⟩
  have q := hl i σ H hi p
  by_cases hlt : i < xs.length
  · refine .inr ⟨⟨hlt, q⟩, Pv (i + 1), fun σ' H' p' => ⟨xs.length - (i + 1), by omega, rfl, hlt, p'⟩, fun x H' y => ?_⟩
    obtain ⟨pp, yy, hn, rfl, hy, rfl⟩ := y
    exact hs i yy pp σ H hy p hn
  · have e : i = xs.length := by omega
    subst e
    exact .inl ⟨⟨rfl, q⟩, hd σ H p⟩
abbrev fourS : List Str := ["add", "sub", "mul", "less"]
abbrev fourD (s : Str) (i : Nat) : D := .tup [.str s, .tup [.str s, .tup [.str "hole", .int 0], .tup [.str "hole", .int 1]], .tup [.int (4 + (i : Int))]]
abbrev madeD (i : Nat) : List D := [.tup [.str "one", .tup [.str "gap", .int 0, .int 99], .tup [.int 1, .tup [.str "low", .int 0]]], .tup [.str "two", .tup [.str "gap", .int 0, .int 9999], .tup [.int 2, .tup [.str "low", .int 0], .tup [.str "high", .int 0]]], .tup [.str "slot", .tup [.str "slot", .int 0], .tup [.int 3, .tup [.str "arg", .int 0]]]] ++ ((fourS.zipIdx).map fun p => fourD p.1 p.2).take i
theorem made_all : madeD 4 ++ [.tup [.str "more", .tup [.str "add", .tup [.str "hole", .int 0], .tup [.str "gap", .int 0, .int 99]], .tup [.int 12, .tup [.str "low", .int 0]]]] = BAS := rfl
theorem made_succ {i : Nat} {s : Str} (h : fourS[i]? = some s) : madeD (i + 1) = madeD i ++ [fourD s i] := by
  match i, h with
  | 0, h => cases h; rfl
  | 1, h => cases h; rfl
  | 2, h => cases h; rfl
  | 3, h => cases h; rfl
  | n + 4, h => cases h
theorem made_len (i : Nat) : (madeD i).length ≤ 7 := by
  simp only [madeD, List.length_append, List.length_take, List.length_map, List.length_cons, List.length_nil, List.length_zipIdx, fourS]
  omega
end
end My
end
section
set_option Elab.async false
set_option linter.all false
set_option maxRecDepth 100000
set_option maxHeartbeats 4000000
namespace My
open PySem L2 PyProof.Rows
section
variable {P : Program} {w : World} {K : PySem.W.Frag} {mg : Str → Option Value} {base : Heap} {k : Nat}

theorem gr_trans {H1 H2 H3 : Hp} (a : Grow K H1 H2) (b : Grow K H2 H3) : Grow K H1 H3 := ⟨fun x xs h => b.tup _ _ (a.tup _ _ h), fun x xs h => by
  obtain ⟨ys, h2⟩ := a.lst x xs h
  exact b.lst x ys h2⟩
theorem ok__law_basic (T : Txt P w K mg)  : FnOk P w K mg base CX0 (k + 1) T.a__law_basic T.d__law_basic [] (spDL K fun ds es => ds = [] ∧ es = BAS) := by
  refine T.f__law_basic.ok sc__law_basic (fun vs H Q E h => ?_) (fun cdv A outer s H vs Q E hr h => ?_)
  · obtain ⟨ds, es, hd, ⟨rfl, rfl⟩, _⟩ := h; exact hd.length.symm
  have nd := sc__law_basic.nd
  obtain ⟨ds, es, hd, ⟨rfl, rfl⟩, post⟩ := h
  have ez := hd.nilE
  subst ez
  refine' ⟨_, ?ybody, ?yread⟩
  case ybody =>
    refine' pss_cons ?y74 ?y75
    case y74 =>
      refine' ps_asg ?y6 ?y7 ?y8 ?y9
      case y6 =>
        refine' pe_tup ?y5
        case y5 =>
          refine' pa_c ?y3 ?y4
          case y3 => exact (pe_tup (pa_c pe_str (pa_c pe_int pa_nil)))
          case y4 =>
            refine' pa_c ?y1 ?y2
            case y1 => exact (pe_tup (pa_c pe_str (pa_c pe_int pa_nil)))
            case y2 => exact pa_nil
      case y7 => exact (pg_tup rfl (pgs_cons (pg_name (i := 0) nd rfl (Or.inl rfl)) (pgs_cons (pg_name (i := 1) nd rfl (Or.inl rfl)) pgs_nil)))
      case y8 => rfl
      case y9 => kernel_rfl
    case y75 =>
      refine' pss_cons ?y72 ?y73
      case y72 =>
        refine' ps_set (i := 2) ?y41 ?y42 ?y43 ?y44
        case y41 => exact nd
        case y42 => exact rfl
        case y43 => exact Or.inl rfl
        case y44 =>
          refine' pe_lst ?y40
          case y40 =>
            refine' pa_c ?y38 ?y39
            case y38 =>
              refine' pe_tup ?y21
              case y21 =>
                refine' pa_c ?y19 ?y20
                case y19 => exact pe_str
                case y20 =>
                  refine' pa_c ?y17 ?y18
                  case y17 => exact (pe_tup (pa_c pe_str (pa_c pe_int (pa_c pe_int pa_nil))))
                  case y18 =>
                    refine' pa_c ?y15 ?y16
                    case y15 =>
                      refine' pe_tup ?y14
                      case y14 =>
                        refine' pa_c ?y12 ?y13
                        case y12 => exact pe_int
                        case y13 =>
                          refine' pa_c ?y10 ?y11
                          case y10 => exact (pe_tup (pa_c pe_str (pa_c pe_int pa_nil)))
                          case y11 => exact pa_nil
                    case y16 => exact pa_nil
            case y39 =>
              refine' pa_c ?y36 ?y37
              case y36 =>
                refine' pe_tup ?y35
                case y35 =>
                  refine' pa_c ?y33 ?y34
                  case y33 => exact pe_str
                  case y34 =>
                    refine' pa_c ?y31 ?y32
                    case y31 => exact (pe_tup (pa_c pe_str (pa_c pe_int (pa_c pe_int pa_nil))))
                    case y32 =>
                      refine' pa_c ?y29 ?y30
                      case y29 =>
                        refine' pe_tup ?y28
                        case y28 =>
                          refine' pa_c ?y26 ?y27
                          case y26 => exact pe_int
                          case y27 =>
                            refine' pa_c ?y24 ?y25
                            case y24 => exact (pe_tup (pa_c pe_str (pa_c pe_int pa_nil)))
                            case y25 =>
                              refine' pa_c ?y22 ?y23
                              case y22 => exact (pe_tup (pa_c pe_str (pa_c pe_int pa_nil)))
                              case y23 => exact pa_nil
                      case y30 => exact pa_nil
              case y37 => exact pa_nil
      case y73 =>
        refine' pss_cons ?y70 ?y71
        case y70 =>
          refine' ps_expr ?y65
          case y65 =>
            refine' pe_bm ?y59 ?y60 ?y61 ?y62 ?y63 ?y64
            case y59 => exact PySem.F.plainAttrs_list
            case y60 => exact PySem.F.slot_list_append
            case y61 => exact PySem.F.type_list_append
            case y62 => exact mt_append
            case y63 => exact (pv 2)
            case y64 =>
              refine' pa_c ?y57 ?y58
              case y57 =>
                refine' pe_tup ?y56
                case y56 =>
                  refine' pa_c ?y54 ?y55
                  case y54 => exact pe_str
                  case y55 =>
                    refine' pa_c ?y52 ?y53
                    case y52 => exact (pe_tup (pa_c pe_str (pa_c pe_int pa_nil)))
                    case y53 =>
                      refine' pa_c ?y50 ?y51
                      case y50 =>
                        refine' pe_tup ?y49
                        case y49 =>
                          refine' pa_c ?y47 ?y48
                          case y47 => exact pe_int
                          case y48 =>
                            refine' pa_c ?y45 ?y46
                            case y45 => exact (pe_tup (pa_c pe_str (pa_c pe_int pa_nil)))
                            case y46 => exact pa_nil
                      case y51 => exact pa_nil
              case y58 => exact pa_nil
        case y71 =>
          refine' pss_cons ?y68 ?y69
          case y68 => exact (ps_for PassesOwn.never rfl (pi_enum rfl T.n_enumerate (pa_c (pe_tup (pa_c pe_str (pa_c pe_str (pa_c pe_str (pa_c pe_str pa_nil))))) pa_nil)) (pg_tup rfl (pgs_cons (pg_name (i := 3) nd rfl (Or.inl rfl)) (pgs_cons (pg_name (i := 4) nd rfl (Or.inl rfl)) pgs_nil))) (pss_one (ps_expr (pe_bm PySem.F.plainAttrs_list PySem.F.slot_list_append PySem.F.type_list_append mt_append (pv 2) (pa_c (pe_tup (pa_c (pv 4) (pa_c (pe_tup (pa_c (pv 4) (pa_c (pv 0) (pa_c (pv 1) pa_nil)))) (pa_c (pe_tup (pa_c (pe_op op_add pe_int (pv 3)) pa_nil)) pa_nil)))) pa_nil)))))
          case y69 =>
            refine' pss_one ?y67
            case y67 =>
              refine' ps_ret ?y66
              case y66 => exact (pe_op op_catK (pv 2) (pe_lst (pa_c (pe_tup (pa_c pe_str (pa_c (pe_tup (pa_c pe_str (pa_c (pv 0) (pa_c (pe_tup (pa_c pe_str (pa_c pe_int (pa_c pe_int pa_nil)))) pa_nil)))) (pa_c (pe_tup (pa_c pe_int (pa_c (pe_tup (pa_c pe_str (pa_c pe_int pa_nil))) pa_nil))) pa_nil)))) pa_nil)))
  case yread =>
    refine rs_unp2 (K := K) (d := .tup [.str "hole", .int 0]) (e := .tup [.str "hole", .int 1]) (re_tup (ra_cons (re_tup (ra_cons re_str (ra_cons re_int ra_nil))) (ra_cons (re_tup (ra_cons re_str (ra_cons re_int ra_nil))) ra_nil))) fun vh vo H1 s1 dh do_ => ?_
    refine rs_setC (K := K) (rc_lst (ra_cons (re_tup (ra_cons re_str (ra_cons (re_tup (ra_cons re_str (ra_cons re_int (ra_cons re_int ra_nil)))) (ra_cons (re_tup (ra_cons re_int (ra_cons (re_tup (ra_cons re_str (ra_cons re_int ra_nil))) ra_nil))) ra_nil)))) (ra_cons (re_tup (ra_cons re_str (ra_cons (re_tup (ra_cons re_str (ra_cons re_int (ra_cons re_int ra_nil)))) (ra_cons (re_tup (ra_cons re_int (ra_cons (re_tup (ra_cons re_str (ra_cons re_int ra_nil))) (ra_cons (re_tup (ra_cons re_str (ra_cons re_int ra_nil))) ra_nil)))) ra_nil)))) ra_nil))) fun lb x0 G0 hb s2 h0 e0 => ?_
    have hlb : H lb = none := s1.free hb
    have dh := s2.dat dh
    have do_ := s2.dat do_
    have bb0 : But lb H G0 := (s1.trans s2).but
    have l0 : x0.length = 2 := e0.length.symm
    refine rs_appl (K := K) (re_tup (ra_cons re_str (ra_cons (re_tup (ra_cons re_str (ra_cons re_int ra_nil))) (ra_cons (re_tup (ra_cons re_int (ra_cons (re_tup (ra_cons re_str (ra_cons re_int ra_nil))) ra_nil))) ra_nil)))) h0 (by omega) fun y1 G1 b1 h1 e1 => ?_
    have g1 : Grow K G0 G1 := b1.grow h0 h1
    have dh := Dat.mono g1 _ dh
    have do_ := Dat.mono g1 _ do_
    have z1 := Dats.append (Dats.mono g1 _ e0) (Dats.cons e1 Dats.nil)
    have d1 : Dats K G1 (madeD 0) (x0 ++ [y1]) := z1
    have bb1 := bb0.trans b1
    refine rs_seq (RE.use (K := K) (d := .tup (fourS.map D.str)) (re_tup (ra_cons re_str (ra_cons re_str (ra_cons re_str (ra_cons re_str ra_nil))))) fun vt G2 s3 q3 => ?_)
    obtain ⟨a, vs, ea, hq, hds⟩ := q3.tupE
    subst ea
    have lv : vs.length = 4 := hds.length.symm
    refine ⟨a, vs, rfl, hq, for_enum (K := K) (xs := vs) (fun i σ G => ∃ (z3 z4 : Option V) (ys : List V), σ = [some vh, some vo, some (.ref lb), z3, z4] ∧ But lb H G ∧ Grow K G2 G ∧ G lb = some (.lst ys) ∧ Dats K G (madeD i) ys ∧ SqT K G a vs) ?_ (fun i σ G _ ⟨_, _, _, _, _, _, _, _, z⟩ => z) ?_ ?_⟩
    · exact ⟨none, none, _, rfl, bb1.trans s3.but, (Same.refl _).grow, s3 _ _ h1, s3.dats d1, hq⟩
    · rintro i y p σ G hi ⟨z3, z4, ys, rfl, bG, gG, hG, dG, tG⟩ hp
      obtain ⟨dy, ey, hy⟩ := hds.getV hi
      rw [List.getElem?_map] at ey
      cases hs : fourS[i]? with
      | none => rw [hs] at ey; cases ey
      | some sx =>
        rw [hs] at ey
        cases ey
        have ey := hy.strE
        subst ey
        have sn : Same G (upd G p (.tup [.int i, .str sx])) := same_new hp _
        have gn : Grow K G2 (upd G p (.tup [.int i, .str sx])) := gr_trans gG sn.grow
        refine ⟨p, _, rfl, SqT.of upd_same, rfl, _, _, rfl, _, _, rfl, rfl, ?_⟩
        have hGn := sn _ _ hG
        have ly := dG.length
        have lm := made_len i
        refine ⟨_, rfl, .inl ⟨rfl, _, SqL.of hGn⟩, RE.use (K := K) (d := fourD sx i) (re_tup (ra_cons (re_var (Dat.strI _)) (ra_cons (re_tup (ra_cons (re_var (Dat.strI _)) (ra_cons (re_var (Dat.mono gn _ (s3.dat dh))) (ra_cons (re_var (Dat.mono gn _ (s3.dat do_))) ra_nil)))) (ra_cons (re_tup (ra_cons (re_add re_int (re_var (Dat.intI (i : Int)))) ra_nil)) ra_nil)))) fun v G3 s4 q4 => ?_⟩
        have hG3 := s4 _ _ hGn
        refine ⟨lb, ys, v, rfl, rfl, hG3, small1000 (by omega), ?_⟩
        have b5 : But lb G3 (upd G3 lb (.lst (ys ++ [v]))) := But.upd (Same.refl _).but
        have g5 : Grow K G3 (upd G3 lb (.lst (ys ++ [v]))) := b5.grow hG3 upd_same
        have gt : Grow K G2 (upd G3 lb (.lst (ys ++ [v]))) := gr_trans gn (gr_trans s4.grow g5)
        refine ⟨_, _, ys ++ [v], rfl, (bG.trans (sn.trans s4).but).trans b5, gt, upd_same, ?_, gt.tup _ _ hq⟩
        rw [made_succ hs]
        exact Dats.append (Dats.mono g5 _ (s4.dats (sn.dats dG))) (Dats.cons (Dat.mono g5 _ q4) Dats.nil)
    · rintro σ G ⟨z3, z4, ys, rfl, bG, gG, hG, dG, tG⟩
      rw [lv] at dG
      have sm : Same H G := fun b o hbo => bG b o (ne_of_none hbo hlb) hbo
      have dh := Dat.mono gG _ (s3.dat dh)
      refine rs_rt (RC.use (K := K) (rc_catK (rl_var (k := 2) (LD.of hG dG)) (rl_of (rc_lst (ra_cons (re_tup (ra_cons re_str (ra_cons (re_tup (ra_cons re_str (ra_cons (re_var dh) (ra_cons (re_tup (ra_cons re_str (ra_cons re_int (ra_cons re_int ra_nil)))) ra_nil)))) (ra_cons (re_tup (ra_cons re_int (ra_cons (re_tup (ra_cons re_str (ra_cons re_int ra_nil))) ra_nil))) ra_nil)))) ra_nil))) (by have := made_len 4; simp only [List.length_cons, List.length_nil]; omega)) fun lz zs G3 hlz s5 hzs dzs => ?_)
      rw [made_all] at dzs
      exact post lz zs G3 (sm.trans s5) hzs (sm.free hlz) dzs
end
end My
end
section
set_option Elab.async false
set_option linter.all false
set_option maxRecDepth 100000
set_option maxHeartbeats 4000000
namespace My
open PySem L2 PyProof.Rows
section
variable {P : Program} {w : World} {K : PySem.W.Frag} {mg : Str → Option Value} {base : Heap} {k : Nat}

abbrev manyD : List D := [.tup [.str "pa", .tup [.str "gap", .int 0, .int 0], .tup [.int 1, .tup [.str "low", .int 0]]], .tup [.str "pb", .tup [.str "gap", .int 0, .int 1], .tup [.int 1, .tup [.str "low", .int 0]]], .tup [.str "pc", .tup [.str "gap", .int 0, .int 2], .tup [.int 1, .tup [.str "low", .int 0]]], .tup [.str "pd", .tup [.str "gap", .int 0, .int 3], .tup [.int 1, .tup [.str "low", .int 0]]], .tup [.str "pe", .tup [.str "gap", .int 0, .int 4], .tup [.int 1, .tup [.str "low", .int 0]]], .tup [.str "pf", .tup [.str "gap", .int 0, .int 5], .tup [.int 1, .tup [.str "low", .int 0]]], .tup [.str "pg", .tup [.str "gap", .int 0, .int 6], .tup [.int 1, .tup [.str "low", .int 0]]], .tup [.str "ph", .tup [.str "gap", .int 0, .int 7], .tup [.int 1, .tup [.str "low", .int 0]]], .tup [.str "pi", .tup [.str "gap", .int 0, .int 8], .tup [.int 1, .tup [.str "low", .int 0]]], .tup [.str "pj", .tup [.str "gap", .int 0, .int 9], .tup [.int 1, .tup [.str "low", .int 0]]], .tup [.str "pk", .tup [.str "gap", .int 0, .int 10], .tup [.int 1, .tup [.str "low", .int 0]]], .tup [.str "pl", .tup [.str "gap", .int 0, .int 11], .tup [.int 1, .tup [.str "low", .int 0]]], .tup [.str "pm", .tup [.str "gap", .int 0, .int 12], .tup [.int 1, .tup [.str "low", .int 0]]], .tup [.str "pn", .tup [.str "gap", .int 0, .int 13], .tup [.int 1, .tup [.str "low", .int 0]]], .tup [.str "po", .tup [.str "gap", .int 0, .int 14], .tup [.int 1, .tup [.str "low", .int 0]]], .tup [.str "pp", .tup [.str "gap", .int 0, .int 15], .tup [.int 1, .tup [.str "low", .int 0]]], .tup [.str "pq", .tup [.str "gap", .int 0, .int 16], .tup [.int 1, .tup [.str "low", .int 0]]]]
abbrev ADDX : D := .tup [.str "add", .tup [.str "slot", .int 0], .tup [.int 3, .tup [.str "arg", .int 0]]]
abbrev B0 : D := .tup [.str "one", .tup [.str "gap", .int 0, .int 99], .tup [.int 1, .tup [.str "low", .int 0]]]
abbrev B2 : D := .tup [.str "slot", .tup [.str "slot", .int 0], .tup [.int 3, .tup [.str "arg", .int 0]]]
theorem bas0 : BAS[0]? = some B0 := rfl
theorem bas2 : BAS[2]? = some B2 := rfl
theorem ok_all {ds : List D} (h : (ds.all fun x => match x with | .tup (.str y :: _) => decide (y.length ≤ 100) | _ => true) = true) : ∀ x ∈ ds, okNm x := fun x hx => okNm_of (List.all_eq_true.mp h x hx)
theorem all_ok : ∀ x ∈ BAS ++ LPD, okNm x := ok_all (by decide +kernel)
theorem all_piece : ∀ x ∈ BAS ++ LPD, pieceB x = true := by decide +kernel
theorem all_nd : ((BAS ++ LPD).map nmOf).Nodup := by decide +kernel
theorem sub_mem {sub : List D} (h : sub.Sublist LPD) : (BAS ++ sub).Sublist (BAS ++ LPD) := (List.Sublist.refl BAS).append h
theorem sub_set {sub : List D} (h : sub.Sublist LPD) : setB (BAS ++ sub) = true := by
  have hs := sub_mem h
  have hl := h.length_le
  have e8 : BAS.length = 8 := rfl
  have el : LPD.length = 8 := rfl
  refine set_yes (by rw [List.length_append]; omega) (by rw [List.length_append]; omega) (fun x hx => all_piece x (hs.subset hx)) ((hs.map nmOf).nodup all_nd)
theorem bas_set : setB BAS = true := by
  have h := sub_set (List.nil_sublist LPD)
  rw [List.append_nil] at h
  exact h
theorem many_ok : ∀ x ∈ manyD, okNm x := ok_all (by decide +kernel)
theorem many_no : setB manyD = false := by
  unfold setB
  rw [show decide ((manyD.length : Int) ≤ 16) = false from rfl, Bool.and_false, Bool.false_and]
theorem many_yes : setB (manyD.take 16) = true := set_yes (by decide) (by decide) (by decide +kernel) (by decide +kernel)
theorem dup_no {ds : List D} (h : ¬ (ds.map nmOf).Nodup) : setB ds = false := by
  unfold setB
  have e : decide ((dedN (ds.map nmOf) : Int) = (ds.length : Int)) = false := by
    apply decide_eq_false
    intro z
    apply h
    apply (dedN_eq _).mp
    rw [List.length_map]
    omega
  rw [e, Bool.and_false, Bool.and_false]
theorem nil_no : setB [] = false := rfl
/-- what is wrong as a set -/
def badA : Ar → Prop
  | .d x => isiD x "list" = false
  | .l ds => (∀ x ∈ ds, okNm x) ∧ setB ds = false
theorem b2_no : badA (.l (BAS ++ [B2])) := ⟨ok_all (by decide +kernel), dup_no (by decide +kernel)⟩
theorem ad_no : badA (.l (BAS ++ [ADDX])) := ⟨ok_all (by decide +kernel), dup_no (by decide +kernel)⟩
theorem re_setL {σ : L2.St} {H : Hp} {t : TE} {E : XK} {ds : List D} (h : RL K t σ H ds) (ok : ∀ x ∈ ds, okNm x) : RE K (tCall (spA K Rset) [] E (tCons t tNil)) σ H (.bl (setB ds)) :=
  re_callA (R := Rset) (rb_l h rb_nil) (.inr ⟨ds, rfl, ok, rfl⟩)
theorem re_tupleL {σ : L2.St} {H : Hp} {t : TE} {es : List D} (h : RL K t σ H es) : RE K (tCB (fun xs H Q => ∃ p ys, xs = [.ref p] ∧ ((SqL K H p ys ∧ ∀ l, H l = none → Q (.ref l) (upd H l (.tup ys))) ∨ (SqT K H p ys ∧ Q (.ref p) H))) (tCons t tNil)) σ H (.tup es) := fun H1 s Q q =>
  r_cb1 ((h.mono s).use fun v H' s' hd => by
    obtain ⟨l, ys, rfl, hy, hd⟩ := hd
    exact ⟨l, ys, rfl, .inl ⟨hy.sqL, fun p hp => q _ _ (s'.trans (same_new hp _)) (Dat.tupI (SqT.of upd_same) ((same_new hp _).dats hd))⟩⟩)
theorem ars_get {H : Hp} : ∀ {as : List Ar} {vs : List V} {i : Nat} {v : V}, Ars K H as vs → vs[i]? = some v → ∃ a, a ∈ as ∧ ArI K H a v
  | _, _, _, _, .nil, h => by simp at h
  | a :: as, _, 0, v, .cons h1 h2, h => by
    simp at h
    subst h
    exact ⟨a, List.mem_cons_self, h1⟩
  | a :: as, _, i + 1, v, .cons h1 h2, h => by
    simp at h
    obtain ⟨b, hb, hv⟩ := ars_get h2 h
    exact ⟨b, List.mem_cons_of_mem _ hb, hv⟩
theorem ars_same {H H' : Hp} (s : Same H H') : ∀ {as : List Ar} {vs : List V}, Ars K H as vs → Ars K H' as vs
  | _, _, .nil => .nil
  | _, _, .cons h1 h2 => .cons (s.ari h1) (ars_same s h2)
theorem rb_use {σ : L2.St} {H : Hp} {Q : List V → Hp → Prop} {tA : TA} {as : List Ar} (h : RB K tA σ H as) (q : ∀ vs H', Same H H' → Ars K H' as vs → Q vs H') : tA σ H Q := h.use q
/-- the names of the many pieces -/
theorem re_name {σ : L2.St} {H : Hp} {k i : Nat} {x : Str} (hv : σ[k]? = some (some (.int i))) (c : Nat) (hc : atI (("abcdefghijklmnopq" : Str).cps.toList) (i : Int) = some c) (e : (("p" : Str) ++ (⟨#[c]⟩ : Str)) = x) :
    RE K (tOp (fun x y H Q => ∃ i j, x = .str i ∧ y = .str j ∧ i.length + j.length ≤ sizeLine ∧ Q (.str (i ++ j)) H) (tC (.str "p")) (tOp rIxS (tC (.str "abcdefghijklmnopq")) (tVar k))) σ H (.str x) := fun H1 s Q q => by
  refine ⟨_, hv, _, (i : Int), c, rfl, rfl, by decide, hc, ("p" : Str), _, rfl, rfl, ?_, ?_⟩
  · exact Nat.le_trans (show ("p" : Str).length + (⟨#[c]⟩ : Str).length ≤ 2 from Nat.le_refl _) (by decide)
  · rw [e]; exact q _ _ (Same.refl _) (Dat.strI _)
theorem ari_but {G G' : Hp} {t : Addr} {u v : V} {zs : List V} {A : Ar} {x : V} (b : But t G G') (ht : G t = some (.lst [u, v])) (ht' : G' t = some (.lst zs)) (n2 : ∀ ds, A = .l ds → ds.length ≠ 2) (h : ArI K G A x) : ArI K G' A x := by
  have g : Grow K G G' := b.grow ht ht'
  cases A with
  | d y => exact Dat.mono g _ h
  | l ds =>
    obtain ⟨a, vs, e, h1, h2⟩ := h
    refine ⟨a, vs, e, ?_, Dats.mono g _ h2⟩
    rcases h1 with z | z
    · by_cases ha : a = t
      · rw [ha, ht] at z
        cases z
        exact absurd h2.length (n2 ds rfl)
      · exact .inl (b _ _ ha z)
    · exact .inr z
theorem rset_bad {A : Ar} (b : badA A) : Rset [A] (.bl false) := by
  cases A with
  | d x => exact .inl ⟨x, rfl, b, rfl⟩
  | l ds => exact .inr ⟨ds, rfl, b.1, by rw [b.2]⟩
theorem r_ext2 {t1 t2 : TE} {us : TS} {En : Ends} {σ : L2.St} {G : Hp} {j : Nat} {l : Addr} {xs : List V} (hv : σ[j]? = some (some (.ref l))) (hl : G l = some (.lst xs))
    (h : t1 σ G fun x H1 => t2 σ H1 fun y H2 => [x, y].length ≤ sizeLine ∧ ∀ p, H2 p = none → rExtend (.ref l) [.ref p] (upd H2 p (.lst [x, y])) fun _ H3 => us En σ H3) : tSeq (tDrop (tBM K "list" rExtend (tVar j) (tCons (tLst (tCons t1 (tCons t2 tNil))) tNil))) us En σ G :=
  ⟨_, hv, .inl ⟨rfl, _, SqL.of hl⟩, h⟩
def spLaw (K : PySem.W.Frag) : Sp := fun vs H Q _ => ∃ (a : Addr) (ns : List Int), vs = [.ref a] ∧ Scr K H a ns ∧ ∀ H', Q (.bl true) H'
theorem rs_next' {En : Ends} {σ : L2.St} {H : Hp} (h : En.nx σ H) : tNext En σ H := h
theorem bas_noL : noLs BAS = true := by decide +kernel
theorem bas_deep : deepDs BAS ≤ 20 := by decide +kernel
end
end My
end
section
set_option Elab.async false
set_option linter.all false
set_option maxRecDepth 100000
set_option maxHeartbeats 4000000
namespace My
open PySem L2 PyProof.Rows
section
variable {P : Program} {w : World} {K : PySem.W.Frag} {mg : Str → Option Value} {base : Heap} {k : Nat}
theorem ok_law (T : Txt P w K mg) (F_is_set : FnOk P w K mg base CX0 k T.a_is_set T.d_is_set ["thing"] (spA K Rset)) (F_is_piece : FnOk P w K mg base CX0 k T.a_is_piece T.d_is_piece ["thing"] (spD K Rpiece)) (F__law_set : FnOk P w K mg base CX0 k T.a__law_set T.d__law_set ["_law_script", "_law_town"] (spSet K)) (F__law_basic : FnOk P w K mg base CX0 k T.a__law_basic T.d__law_basic [] (spDL K fun ds es => ds = [] ∧ es = BAS)) (F__law_no_piece : FnOk P w K mg base CX0 k T.a__law_no_piece T.d__law_no_piece ["_law_script", "_law_town"] (spNoPiece K)) (F__law_pick : FnOk P w K mg base CX0 k T.a__law_pick T.d__law_pick ["_law_script", "_law_town", "_law_some"] (spPick K)) : FnOk P w K mg base CX0 (k + 1) T.a_law T.d_law ["_law_script"] (spLaw K) := by
  refine T.f_law.ok sc_law (fun vs H Q E h => ?_) (fun cdv A outer s H vs Q E hr h => ?_)
  · obtain ⟨a, ns, rfl, _⟩ := h; rfl
  have nd := sc_law.nd
  obtain ⟨a, ns, rfl, hS, post⟩ := h
  refine' ⟨_, ?ybody, ?yread⟩
  case ybody =>
    refine' pss_cons ?y59 ?y60
    case y59 => exact (ps_set (i := 1) nd rfl (Or.inl rfl) (pe_lst (pa_c pe_int (pa_c pe_int pa_nil))))
    case y60 =>
      refine' pss_cons ?y57 ?y58
      case y57 => exact (ps_par (i := 2) (j := 3) rfl nd rfl rfl (by decide) rfl rfl (pa_c (pe_callTy call_list_of rfl T.n_list bo_list (pa_c (pe_glob (v := .ref T.a_BASIC) rfl T.g_BASIC rfl) pa_nil)) (pa_c (pe_call F__law_set hr rfl T.m__law_set T.f__law_set.kp (b__law_set T) .nil pass0 (pa_c (pv 0) (pa_c (pv 1) pa_nil))) pa_nil)) (by kernel_rfl))
      case y58 =>
        refine' pss_cons ?y55 ?y56
        case y55 =>
          refine' ps_if ?y2 ?y3 ?y4
          case y2 => exact (PW.pt (pw_or (pt_cmpR op_isnotB (pe_call F_is_set hr rfl T.m_is_set T.f_is_set.kp (b_is_set T) .nil pass0 (pa_c (pv 2) pa_nil)) pe_bl (nomark _)) (pw_or (pt_cmpR op_isnotB (pe_call F_is_set hr rfl T.m_is_set T.f_is_set.kp (b_is_set T) .nil pass0 (pa_c (pv 3) pa_nil)) pe_bl (nomark _)) (pw_or1 (pt_truth (pe_callB (call_any rfl) rfl T.n_any bo_any (pa_c (pe_comp (own := ["_law_piece"]) (fr := []) (N' := ["_law_piece"]) (pi_list (pv 3)) rfl (by show blkChk ["_law_script", "_law_town", "_law_basic_here", "_law_some", "_law_bad", "_law_many", "_law_wrong"] (fun x => (defScope s_law).names.lookup x) _ _ _ _ = true; decide +kernel) rfl (fun _ _ _ _ _ => (pg_name (i := 0) (by show List.Nodup [("_law_piece" : Str)]; decide +kernel) rfl (Or.inl rfl))) (fun _ _ _ _ _ => pifs_nil) (fun _ _ _ _ _ => (pe_cmpR op_isnotB (pe_call F_is_piece hr rfl T.m_is_piece T.f_is_piece.kp (b_is_piece T) .nil pass0 (pa_c (pv 0) pa_nil)) pe_bl (nomark _)))) pa_nil)) (fun _ => rfl))))))
          case y3 =>
            refine' pss_one ?y1
            case y1 => exact (ps_ret pe_bl)
          case y4 => exact pss_nil
        case y56 =>
          refine' pss_cons ?y53 ?y54
          case y53 =>
            refine' ps_if ?y6 ?y7 ?y8
            case y6 => exact (pt_cmpR (op_neL hr) (pv 2) (pe_call0 F__law_basic hr rfl T.m__law_basic T.f__law_basic.kp (b__law_basic T) .nil pass0) (nomark _))
            case y7 =>
              refine' pss_one ?y5
              case y5 => exact (ps_ret pe_bl)
            case y8 => exact pss_nil
          case y54 =>
            refine' pss_cons ?y51 ?y52
            case y51 => exact (ps_set (i := 4) nd rfl (Or.inl rfl) (pe_call F__law_no_piece hr rfl T.m__law_no_piece T.f__law_no_piece.kp (b__law_no_piece T) .nil pass0 (pa_c (pv 0) (pa_c (pv 1) pa_nil))))
            case y52 =>
              refine' pss_cons ?y49 ?y50
              case y49 =>
                refine' ps_if ?y10 ?y11 ?y12
                case y10 => exact (PW.pt (pw_or (pt_cmpR op_isnotB (pe_call F_is_piece hr rfl T.m_is_piece T.f_is_piece.kp (b_is_piece T) .nil pass0 (pa_c (pv 4) pa_nil)) pe_bl (nomark _)) (pw_or1 (pt_cmpR op_isnotB (pe_call F_is_set hr rfl T.m_is_set T.f_is_set.kp (b_is_set T) .nil pass0 (pa_c (pe_lst (pa_c (pe_ix ix_list (pe_glob (v := .ref T.a_BASIC) rfl T.g_BASIC rfl) pe_int (fun _ _ => rfl)) (pa_c (pv 4) pa_nil))) pa_nil)) pe_bl (nomark _)))))
                case y11 =>
                  refine' pss_one ?y9
                  case y9 => exact (ps_ret pe_bl)
                case y12 => exact pss_nil
              case y50 =>
                refine' pss_cons ?y47 ?y48
                case y47 => exact (ps_setComp (i := 5) (own := ["_law_k"]) (fr := []) (N' := ["_law_k"]) (pi_range1 rfl T.n_range (pa_c pe_int pa_nil)) rfl (by show blkChk ["_law_script", "_law_town", "_law_basic_here", "_law_some", "_law_bad", "_law_many", "_law_wrong"] (fun x => (defScope s_law).names.lookup x) _ _ _ _ = true; decide +kernel) rfl (fun _ _ _ _ _ => (pg_name (i := 0) (by show List.Nodup [("_law_k" : Str)]; decide +kernel) rfl (Or.inl rfl))) (fun _ _ _ _ _ => pifs_nil) (fun _ _ _ _ _ => (pe_tup (pa_c (pe_op op_add_str pe_str (pe_ix ix_str pe_str (pv 0) (fun _ _ => rfl))) (pa_c (pe_tup (pa_c pe_str (pa_c pe_int (pa_c (pv 0) pa_nil)))) (pa_c (pe_tup (pa_c pe_int (pa_c (pe_tup (pa_c pe_str (pa_c pe_int pa_nil))) pa_nil))) pa_nil))))) nd rfl rfl rfl)
                case y48 =>
                  refine' pss_cons ?y45 ?y46
                  case y45 =>
                    refine' ps_set (i := 6) ?y24 ?y25 ?y26 ?y27
                    case y24 => exact nd
                    case y25 => exact rfl
                    case y26 => exact Or.inl rfl
                    case y27 =>
                      refine' pe_lst ?y23
                      case y23 =>
                        refine' pa_c ?y21 ?y22
                        case y21 => exact pe_non
                        case y22 =>
                          refine' pa_c ?y19 ?y20
                          case y19 => exact (pe_lst pa_nil)
                          case y20 =>
                            refine' pa_c ?y17 ?y18
                            case y17 => exact (pe_callTy call_tuple_of rfl T.n_tuple bo_tuple (pa_c (pe_glob (v := .ref T.a_BASIC) rfl T.g_BASIC rfl) pa_nil))
                            case y18 =>
                              refine' pa_c ?y15 ?y16
                              case y15 => exact (pv 5)
                              case y16 =>
                                refine' pa_c ?y13 ?y14
                                case y13 => exact (pe_op op_catK (pe_glob (v := .ref T.a_BASIC) rfl T.g_BASIC rfl) (pe_lst (pa_c (pe_ix ix_list (pe_glob (v := .ref T.a_BASIC) rfl T.g_BASIC rfl) pe_int (fun _ _ => rfl)) pa_nil)))
                                case y14 => exact pa_nil
                  case y46 =>
                    refine' pss_cons ?y43 ?y44
                    case y43 =>
                      refine' ps_expr ?y41
                      case y41 =>
                        refine' pe_bm ?y35 ?y36 ?y37 ?y38 ?y39 ?y40
                        case y35 => exact PySem.F.plainAttrs_list
                        case y36 => exact PySem.F.slot_list_extend
                        case y37 => exact PySem.F.type_list_extend
                        case y38 => exact mt_extend
                        case y39 => exact (pv 6)
                        case y40 =>
                          refine' pa_c ?y33 ?y34
                          case y33 =>
                            refine' pe_lst ?y32
                            case y32 =>
                              refine' pa_c ?y30 ?y31
                              case y30 => exact (pe_op op_catK (pe_glob (v := .ref T.a_BASIC) rfl T.g_BASIC rfl) (pe_lst (pa_c (pe_tup (pa_c pe_str (pa_c (pe_tup (pa_c pe_str (pa_c pe_int pa_nil))) (pa_c (pe_tup (pa_c pe_int (pa_c (pe_tup (pa_c pe_str (pa_c pe_int pa_nil))) pa_nil))) pa_nil)))) pa_nil)))
                              case y31 =>
                                refine' pa_c ?y28 ?y29
                                case y28 => exact (pe_ix ix_list (pe_glob (v := .ref T.a_BASIC) rfl T.g_BASIC rfl) pe_int (fun _ _ => rfl))
                                case y29 => exact pa_nil
                          case y34 => exact pa_nil
                    case y44 =>
                      refine' pss_one ?y42
                      case y42 => exact (ps_ret (pe_and (pe_cmpR op_isB (pe_call F_is_set hr rfl T.m_is_set T.f_is_set.kp (b_is_set T) .nil pass0 (pa_c (pe_call F__law_pick hr rfl T.m__law_pick T.f__law_pick.kp (b__law_pick T) .nil pass0 (pa_c (pv 0) (pa_c (pv 1) (pa_c (pv 6) pa_nil)))) pa_nil)) pe_bl (nomark _)) (pe_one (pe_cmpR op_isB (pe_call F_is_set hr rfl T.m_is_set T.f_is_set.kp (b_is_set T) .nil pass0 (pa_c (pe_slice sl_list (pv 5) po_none (po_some pe_int)) pa_nil)) pe_bl (nomark _)))))
  case yread =>
    refine rs_asg ⟨small (by decide), fun t ht => ?_⟩
    have hS1 := hS.same (same_new ht (.lst [.int 0, .int 0]))
    refine rs_seq (RC.use (K := K) (rc_listofL (rl_con T.c_BASIC)) fun lb xb H1 hlb s1 hb db => ⟨_, rfl, _, rfl, a, t, ns, 0, 0, [], rfl, hS1.same s1, s1 _ _ upd_same, by decide, fun sub ls ys H2 p2 q2 b2 t2 g2 hsub hls hl2 hd2 => ⟨.ref lb, .ref ls, rfl, ?_⟩⟩)
    have nlb : lb ≠ t := fun z => by rw [z, upd_same] at hlb; cases hlb
    have tt1 := s1 _ _ (show upd H t (.lst [.int 0, .int 0]) t = some (.lst [.int 0, .int 0]) from upd_same)
    have hb2 := b2 _ _ nlb hb
    have db2 : Dats K H2 BAS xb := Dats.mono (b2.grow tt1 t2) _ db
    have hS2 := (hS1.same s1).but b2 tt1
    have L2b : LD K H2 BAS (.ref lb) := LD.of hb2 db2
    have L2s : LD K H2 (BAS ++ sub) (.ref ls) := LD.of hl2 hd2
    have okS : ∀ x ∈ BAS ++ sub, okNm x := fun x hx => all_ok x ((sub_mem hsub).subset hx)
    have okB : ∀ x ∈ BAS, okNm x := fun x hx => all_ok x (List.mem_append_left _ hx)
    have l16 : (BAS ++ sub).length ≤ 16 := by
      have h1 := hsub.length_le
      have e8 : BAS.length = 8 := rfl
      have el : LPD.length = 8 := rfl
      rw [List.length_append]
      omega
    dsimp only
    refine rs_ifr (K := K) (b := false) ?_ (fun c => nomatch c) (fun _ H3 s3 => ?_)
    · refine RT.as (rt_or (b := false) (RT.as (rt_test (re_isnotB (re_setL (rl_var L2b) okB) re_bl)) (by rw [bas_set]; rfl)) fun _ => rt_or (b := false) (RT.as (rt_test (re_isnotB (re_setL (rl_var L2s) okS) re_bl)) (by rw [sub_set hsub]; rfl)) fun _ => rt_truth (re_anyC (bs := (BAS ++ sub).map fun _ => false) (rc_listL (rl_var L2s) (by omega) _ (by simp) rfl (fun G1 j x v d s1 hc hd hv => ?_)))) ?_
      · simp only [List.getElem?_map] at hd
        rw [hc] at hd
        cases hd
        have hx := List.mem_of_getElem? hc
        refine RE.as (re_isnotB (re_call (R := Rpiece) (ra_cons (re_var (k := 0) hv) ra_nil) ⟨x, true, rfl, okS x hx, all_piece x ((sub_mem hsub).subset hx), rfl⟩) re_bl) rfl
      · rw [List.any_map]
        simp
    have hS3 := hS2.same s3
    have t3 := s3 _ _ t2
    have hb3 := s3 _ _ hb2
    refine rs_seq ⟨_, rfl, [], BAS, Dats.nil, ⟨rfl, rfl⟩, fun r us H4 s4 hr4 hr0 hd4 => ?_⟩
    refine ⟨lb, r, xb, us, BAS, BAS, rfl, rfl, SqL.of (s4 _ _ hb3), SqL.of hr4, s4.dats (s3.dats db2), hd4, bas_noL, bas_noL, bas_deep, _, rfl, ?_⟩
    rw [eqDs_refl _ bas_noL]
    refine iteF (rs_next' ?_)
    dsimp only
    have hS4 := hS3.same s4
    have t4 := s4 _ _ t3
    refine rs_asg ⟨_, rfl, _, rfl, a, t, ns, p2, q2, [], rfl, hS4, t4, g2, fun v H5 d p5 q5 b5 t5 g5 hd5 dd => ?_⟩
    have hS5 := hS4.but b5 t4
    refine rs_ifr (K := K) (b := false) ?_ (fun c => nomatch c) (fun _ H6 s6 => ?_)
    · refine RT.as (rt_or (b := false) (RT.as (rt_test (re_isnotB (re_call (R := Rpiece) (ra_cons (re_var (k := 4) dd) ra_nil) ⟨d, false, rfl, badsP_ok d hd5, badsP_no d hd5, rfl⟩) re_bl)) rfl) fun _ => rt_test (re_isnotB (re_setL (ds := [B0, d]) (rl_of (rc_lst (ra_cons (re_ixL (k := 0) (rl_con T.c_BASIC) re_int bas0) (ra_cons (re_var (k := 4) dd) ra_nil)))) ?_) re_bl)) ?_
      · intro x hx
        rcases List.mem_cons.mp hx with z | z
        · rw [z]; exact okB B0 (List.mem_of_getElem? bas0)
        · rw [List.mem_singleton.mp z]; exact badsP_ok d hd5
      · rw [set_no (x := d) (by simp) (badsP_no d hd5)]
        rfl
    have hS6 := hS5.same s6
    have t6 := s6 _ _ t5
    refine rs_asg (rcomp_rng (K := K) (n := 17) (ra_cons re_int ra_nil) (by decide) manyD rfl rfl (fun G i d sG hd => ?_) (fun lm ym H7 hlm s7 hm dm => ?_))
    · match i, hd with
        | 0, hd => cases hd; exact re_tup (ra_cons (re_name rfl 97 (by decide +kernel) (by decide +kernel)) (ra_cons (re_tup (ra_cons re_str (ra_cons re_int (ra_cons (re_var (Dat.intI _)) ra_nil)))) (ra_cons (re_tup (ra_cons re_int (ra_cons (re_tup (ra_cons re_str (ra_cons re_int ra_nil))) ra_nil))) ra_nil)))
        | 1, hd => cases hd; exact re_tup (ra_cons (re_name rfl 98 (by decide +kernel) (by decide +kernel)) (ra_cons (re_tup (ra_cons re_str (ra_cons re_int (ra_cons (re_var (Dat.intI _)) ra_nil)))) (ra_cons (re_tup (ra_cons re_int (ra_cons (re_tup (ra_cons re_str (ra_cons re_int ra_nil))) ra_nil))) ra_nil)))
        | 2, hd => cases hd; exact re_tup (ra_cons (re_name rfl 99 (by decide +kernel) (by decide +kernel)) (ra_cons (re_tup (ra_cons re_str (ra_cons re_int (ra_cons (re_var (Dat.intI _)) ra_nil)))) (ra_cons (re_tup (ra_cons re_int (ra_cons (re_tup (ra_cons re_str (ra_cons re_int ra_nil))) ra_nil))) ra_nil)))
        | 3, hd => cases hd; exact re_tup (ra_cons (re_name rfl 100 (by decide +kernel) (by decide +kernel)) (ra_cons (re_tup (ra_cons re_str (ra_cons re_int (ra_cons (re_var (Dat.intI _)) ra_nil)))) (ra_cons (re_tup (ra_cons re_int (ra_cons (re_tup (ra_cons re_str (ra_cons re_int ra_nil))) ra_nil))) ra_nil)))
        | 4, hd => cases hd; exact re_tup (ra_cons (re_name rfl 101 (by decide +kernel) (by decide +kernel)) (ra_cons (re_tup (ra_cons re_str (ra_cons re_int (ra_cons (re_var (Dat.intI _)) ra_nil)))) (ra_cons (re_tup (ra_cons re_int (ra_cons (re_tup (ra_cons re_str (ra_cons re_int ra_nil))) ra_nil))) ra_nil)))
        | 5, hd => cases hd; exact re_tup (ra_cons (re_name rfl 102 (by decide +kernel) (by decide +kernel)) (ra_cons (re_tup (ra_cons re_str (ra_cons re_int (ra_cons (re_var (Dat.intI _)) ra_nil)))) (ra_cons (re_tup (ra_cons re_int (ra_cons (re_tup (ra_cons re_str (ra_cons re_int ra_nil))) ra_nil))) ra_nil)))
        | 6, hd => cases hd; exact re_tup (ra_cons (re_name rfl 103 (by decide +kernel) (by decide +kernel)) (ra_cons (re_tup (ra_cons re_str (ra_cons re_int (ra_cons (re_var (Dat.intI _)) ra_nil)))) (ra_cons (re_tup (ra_cons re_int (ra_cons (re_tup (ra_cons re_str (ra_cons re_int ra_nil))) ra_nil))) ra_nil)))
        | 7, hd => cases hd; exact re_tup (ra_cons (re_name rfl 104 (by decide +kernel) (by decide +kernel)) (ra_cons (re_tup (ra_cons re_str (ra_cons re_int (ra_cons (re_var (Dat.intI _)) ra_nil)))) (ra_cons (re_tup (ra_cons re_int (ra_cons (re_tup (ra_cons re_str (ra_cons re_int ra_nil))) ra_nil))) ra_nil)))
        | 8, hd => cases hd; exact re_tup (ra_cons (re_name rfl 105 (by decide +kernel) (by decide +kernel)) (ra_cons (re_tup (ra_cons re_str (ra_cons re_int (ra_cons (re_var (Dat.intI _)) ra_nil)))) (ra_cons (re_tup (ra_cons re_int (ra_cons (re_tup (ra_cons re_str (ra_cons re_int ra_nil))) ra_nil))) ra_nil)))
        | 9, hd => cases hd; exact re_tup (ra_cons (re_name rfl 106 (by decide +kernel) (by decide +kernel)) (ra_cons (re_tup (ra_cons re_str (ra_cons re_int (ra_cons (re_var (Dat.intI _)) ra_nil)))) (ra_cons (re_tup (ra_cons re_int (ra_cons (re_tup (ra_cons re_str (ra_cons re_int ra_nil))) ra_nil))) ra_nil)))
        | 10, hd => cases hd; exact re_tup (ra_cons (re_name rfl 107 (by decide +kernel) (by decide +kernel)) (ra_cons (re_tup (ra_cons re_str (ra_cons re_int (ra_cons (re_var (Dat.intI _)) ra_nil)))) (ra_cons (re_tup (ra_cons re_int (ra_cons (re_tup (ra_cons re_str (ra_cons re_int ra_nil))) ra_nil))) ra_nil)))
        | 11, hd => cases hd; exact re_tup (ra_cons (re_name rfl 108 (by decide +kernel) (by decide +kernel)) (ra_cons (re_tup (ra_cons re_str (ra_cons re_int (ra_cons (re_var (Dat.intI _)) ra_nil)))) (ra_cons (re_tup (ra_cons re_int (ra_cons (re_tup (ra_cons re_str (ra_cons re_int ra_nil))) ra_nil))) ra_nil)))
        | 12, hd => cases hd; exact re_tup (ra_cons (re_name rfl 109 (by decide +kernel) (by decide +kernel)) (ra_cons (re_tup (ra_cons re_str (ra_cons re_int (ra_cons (re_var (Dat.intI _)) ra_nil)))) (ra_cons (re_tup (ra_cons re_int (ra_cons (re_tup (ra_cons re_str (ra_cons re_int ra_nil))) ra_nil))) ra_nil)))
        | 13, hd => cases hd; exact re_tup (ra_cons (re_name rfl 110 (by decide +kernel) (by decide +kernel)) (ra_cons (re_tup (ra_cons re_str (ra_cons re_int (ra_cons (re_var (Dat.intI _)) ra_nil)))) (ra_cons (re_tup (ra_cons re_int (ra_cons (re_tup (ra_cons re_str (ra_cons re_int ra_nil))) ra_nil))) ra_nil)))
        | 14, hd => cases hd; exact re_tup (ra_cons (re_name rfl 111 (by decide +kernel) (by decide +kernel)) (ra_cons (re_tup (ra_cons re_str (ra_cons re_int (ra_cons (re_var (Dat.intI _)) ra_nil)))) (ra_cons (re_tup (ra_cons re_int (ra_cons (re_tup (ra_cons re_str (ra_cons re_int ra_nil))) ra_nil))) ra_nil)))
        | 15, hd => cases hd; exact re_tup (ra_cons (re_name rfl 112 (by decide +kernel) (by decide +kernel)) (ra_cons (re_tup (ra_cons re_str (ra_cons re_int (ra_cons (re_var (Dat.intI _)) ra_nil)))) (ra_cons (re_tup (ra_cons re_int (ra_cons (re_tup (ra_cons re_str (ra_cons re_int ra_nil))) ra_nil))) ra_nil)))
        | 16, hd => cases hd; exact re_tup (ra_cons (re_name rfl 113 (by decide +kernel) (by decide +kernel)) (ra_cons (re_tup (ra_cons re_str (ra_cons re_int (ra_cons (re_var (Dat.intI _)) ra_nil)))) (ra_cons (re_tup (ra_cons re_int (ra_cons (re_tup (ra_cons re_str (ra_cons re_int ra_nil))) ra_nil))) ra_nil)))
        | n + 17, hd => cases hd
    have hS7 := hS6.same s7
    have t7 := s7 _ _ t6
    have Lm : LD K H7 manyD (.ref lm) := LD.of hm dm
    refine rs_seq (rb_use (K := K) (as := [.d .non, .l [], .d (.tup BAS), .l manyD, .l (BAS ++ [B2])]) (rb_d re_non (rb_l (rl_of (rc_lst ra_nil)) (rb_d (re_tupleL (rl_con T.c_BASIC)) (rb_l (rl_var Lm) (rb_l (rl_of (rc_catK (rl_con T.c_BASIC) (rl_of (rc_lst (ra_cons (re_ixL (k := 2) (rl_con T.c_BASIC) re_int bas2) ra_nil))) (by decide))) rb_nil))))) fun x0 H8 s8 A8 => ⟨by rw [← A8.length]; decide, fun lw hlw => ?_⟩)
    have lx : x0.length = 5 := A8.length.symm
    have s9 : Same H8 (upd H8 lw (.lst x0)) := same_new hlw _
    have A9 := ars_same s9 A8
    have hw9 : upd H8 lw (.lst x0) lw = some (.lst x0) := upd_same
    have hfree : H7 lw = none := s8.free hlw
    refine r_ext2 (K := K) rfl hw9 (RC.use (K := K) (rc_catK (rl_con T.c_BASIC) (rl_of (rc_lst (ra_cons (RE.as (d' := ADDX) (re_tup (ra_cons re_str (ra_cons (re_tup (ra_cons re_str (ra_cons re_int ra_nil))) (ra_cons (re_tup (ra_cons re_int (ra_cons (re_tup (ra_cons re_str (ra_cons re_int ra_nil))) ra_nil))) ra_nil)))) rfl) ra_nil))) (by decide)) fun la ya G1 hla s10 hla1 dla => RE.use (K := K) (d := B0) (re_ixL (k := 0) (rl_con T.c_BASIC) re_int bas0) fun vb G2 s11 qb => ⟨small (by simp), fun pe hpe => ?_⟩)
    have hwG := (s10.trans s11) _ _ hw9
    have nla : la ≠ lw := fun z => by rw [z, hw9] at hla; cases hla
    have npe : lw ≠ pe := ne_of_none hwG hpe
    have s12 : Same G2 (upd G2 pe (.lst [.ref la, vb])) := same_new hpe _
    refine ⟨lw, pe, x0, [.ref la, vb], rfl, rfl, s12 _ _ hwG, upd_same, by simp only [List.length_cons, List.length_nil]; exact small (by omega), ?_⟩
    generalize hG : upd G2 pe (.lst [.ref la, vb]) = G3 at s12
    have hwG3 : G3 lw = some (.lst x0) := s12 _ _ hwG
    have b13 : But lw G3 (upd G3 lw (.lst (x0 ++ [.ref la, vb]))) := But.upd (Same.refl _).but
    have g13 : Grow K G3 (upd G3 lw (.lst (x0 ++ [.ref la, vb]))) := b13.grow hwG3 upd_same
    have sAll : Same H8 (upd G3 lw (.lst (x0 ++ [.ref la, vb]))) := fun b o hb => b13 b o (ne_of_none hb hlw) (s12 _ _ (s11 _ _ (s10 _ _ (s9 _ _ hb))))
    have A13 : Ars K (upd G3 lw (.lst (x0 ++ [.ref la, vb]))) [.d .non, .l [], .d (.tup BAS), .l manyD, .l (BAS ++ [B2])] x0 := ars_same sAll A8
    have L13 : LD K (upd G3 lw (.lst (x0 ++ [.ref la, vb]))) (BAS ++ [ADDX]) (.ref la) := LD.of (b13 _ _ nla (s12 _ _ (s11 _ _ hla1))) (Dats.mono g13 _ (s12.dats (s11.dats dla)))
    have D13 : Dat K (upd G3 lw (.lst (x0 ++ [.ref la, vb]))) B0 vb := Dat.mono g13 _ (s12.dat qb)
    have s713 : Same H7 (upd G3 lw (.lst (x0 ++ [.ref la, vb]))) := s8.trans sAll
    have hw13 : upd G3 lw (.lst (x0 ++ [.ref la, vb])) lw = some (.lst (x0 ++ [.ref la, vb])) := upd_same
    generalize upd G3 lw (.lst (x0 ++ [.ref la, vb])) = G4 at A13 L13 D13 s713 hw13
    have hS13 := hS7.same s713
    have t13 := s713 _ _ t7
    have nlw : lw ≠ t := fun z => by rw [z, t7] at hfree; cases hfree
    have each : ∀ (i : Nat) (x : V), (x0 ++ [.ref la, vb])[i]? = some x → ∃ A, badA A ∧ (∀ ds, A = .l ds → ds.length ≠ 2) ∧ ArI K G4 A x := by
      intro i x hx
      by_cases hi : i < x0.length
      · rw [List.getElem?_append_left hi] at hx
        obtain ⟨A, hA, hv⟩ := ars_get A13 hx
        simp only [List.mem_cons, List.not_mem_nil, or_false] at hA
        rcases hA with rfl | rfl | rfl | rfl | rfl
        · exact ⟨_, (show badA (.d .non) from rfl), (fun ds e => nomatch e), hv⟩
        · exact ⟨_, (show badA (.l []) from ⟨fun x hx => absurd hx (by simp), nil_no⟩), (fun ds e => by cases e; decide), hv⟩
        · exact ⟨_, (show badA (.d (.tup BAS)) from rfl), (fun ds e => nomatch e), hv⟩
        · exact ⟨_, (show badA (.l manyD) from ⟨many_ok, many_no⟩), (fun ds e => by cases e; decide), hv⟩
        · exact ⟨_, b2_no, (fun ds e => by cases e; decide), hv⟩
      · rw [List.getElem?_append_right (by omega)] at hx
        match i - x0.length, hx with
        | 0, hx => cases hx; exact ⟨_, ad_no, (fun ds e => by cases e; decide), L13⟩
        | 1, hx => cases hx; exact ⟨.d B0, rfl, (fun ds e => nomatch e), D13⟩
        | n + 2, hx => cases hx
    refine rs_rt ?_
    refine ⟨_, rfl, _, rfl, _, rfl, a, t, lw, ns, x0 ++ [.ref la, vb], p5, q5, [], rfl, hS13, SqL.of hw13, nlw, by simp, by rw [List.length_append]; simp; omega, t13, g5, fun i x H14 p14 q14 b14 t14 g14 hx => ?_⟩
    obtain ⟨A, bA, n2, hA⟩ := each i x hx
    refine ⟨[A], .bl false, .cons (ari_but b14 t13 t14 n2 hA) .nil, rset_bad bA, fun v15 H15 s15 q15 => ?_⟩
    refine ⟨false, false, q15.blE, rfl, true, rfl, ?_⟩
    have b715 : But t H7 H15 := (s713.but.trans b14).trans s15.but
    have nlm : lm ≠ t := fun z => by rw [z, t6] at hlm; cases hlm
    have Lm15 : LD K H15 manyD (.ref lm) := LD.of (b715 _ _ nlm hm) (Dats.mono (b715.grow t7 (s15 _ _ t14)) _ dm)
    refine iteT (RE.use (K := K) (d := .bl true) (RE.as (re_isB (re_setL (rl_of (rc_cutTo (n := 16) (rl_var (k := 5) Lm15) re_int)) fun x hx => many_ok x (List.mem_of_mem_take hx)) re_bl) (by rw [many_yes]; rfl)) fun v16 H16 s16 q16 => ?_)
    rw [q16.blE]
    exact post _
end
end My
end
section
set_option Elab.async false
set_option linter.all false
set_option maxRecDepth 100000
set_option maxHeartbeats 4000000
open PySem PySem.W PyProof.Rows
section
local macro_rules | `(tactic| o_head $H:term) => `(tactic| (have _hook := $H; assumption))
theorem My.k0 (h : PySem.Challenge.rw_piecelay_k09_pieces.row.Holds) : PySem.Challenge.rw_piecelay_k09_pieces.row.Holds := by
  k_head
end
namespace My
def view : Program := { PySem.Challenge.pw_piecelay_k09_pieces with main := { PySem.Challenge.pw_piecelay_k09_pieces.main with body := [top 1, top 2, top 4, top 5, top 6, top 7, top 9, top 10, top 11, top 12, top 14, top 15, top 16, top 18, top 19, top 20, top 21, top 22, top 23, top 24, top 25, top 26, top 27, top 28, top 29, top 30, top 31, top 32, top 33, top 34, top 35, top 37, top 38, top 39, top 40, top 41, top 42, top 43] } }
abbrev PRG : Program := PySem.Challenge.pw_piecelay_k09_pieces
abbrev loose : List Str := ["MOST_IN_LEAF", "TREES_IN_BRANCH", "MARK_LENGTHS", "FILLED_FROM", "BASIC"]
abbrev xt (s : Shared) : Bool := xlAt view [] s && recOk (RowW.records (OpenRow.toRowW (OpenLaw.row PySem.Challenge.rw_piecelay_k09_pieces))) s
abbrev kas : List Addr := [2, 3, 15, 22, 23, 24, 25, 28, 35, 37, 38, 40, 41, 42, 43, 44, 47, 49, 50, 52, 53, 54, 56, 57, 59, 60, 61, 64, 65, 66, 67, 68, 70, 71, 73, 74, 75, 77, 78, 80, 81, 82, 83, 84, 85, 86, 87, 88, 89, 90, 91, 92, 93, 94, 95, 96, 97, 98, 99, 100, 102, 103, 105, 106, 107, 108, 109, 110, 111, 112, 113, 114, 115, 116, 117, 118, 119, 120, 121, 122, 123, 124, 125, 126, 127, 128, 129, 130, 131, 132, 133, 134, 135, 136, 137, 138, 139, 140, 141, 142, 143, 144, 145, 146, 147, 148, 149, 150, 152, 153, 155, 156, 157, 160, 161, 162, 164, 165, 167, 168, 169, 172, 173, 174, 177, 178, 179, 181, 182, 184, 185, 186, 188, 189, 191, 192, 193, 196, 197, 198, 200, 201, 203, 204, 205, 208, 209, 210, 212, 213, 215, 216, 217, 219, 220, 222, 223, 224, 226, 227, 229, 230, 231, 234, 235, 236, 238, 239, 241, 242, 243, 245, 246, 248, 249, 250, 253, 254]
theorem kas_ok : ∀ P, kas = (My.k0.heap_1 P).map (·.1) := fun _ => by kernel_rfl
noncomputable abbrev hk : Hook := kHook My.k0.heap_1 kas kas_ok
abbrev NN : Nat := 9000
abbrev ranSo (w : World) (os : OsState) : Prop := (LT.ran PRG w 11 (some (.ref 6)) NN (LT.boot w.params os) (topStub PRG)).map (fun s => (LT.seenT PRG view loose xt w.params s.abs, Hook.obs hk s.abs)) = some ((true, openGood view loose), Hook.val hk w)
set_option maxHeartbeats 0 in
theorem ra : ∀ (w : World) (os : OsState), ranSo (w.withFollow "special-get-raises" false) os := fun w os => by unfold ranSo; kernel_rfl
set_option maxHeartbeats 0 in
theorem rb : ∀ (w : World) (os : OsState), ranSo (w.withFollow "special-get-raises" true) os := fun w os => by unfold ranSo; kernel_rfl
theorem left : LeftO PRG view loose xt (Hook.obs hk) (Hook.val hk) NN :=
  LT.left (by rfl) (by decide) (fun s => by rfl) fun w os => byRow2 "special-get-raises" (P := fun w => ranSo w os) (fun w => ra w os) (fun w => rb w os) w
end My
end
set_option Elab.async false
set_option linter.all false
set_option maxRecDepth 100000
set_option maxHeartbeats 4000000
namespace My
open PySem L2 PyProof.Rows

section
variable {P : Program} {w : World} {K : PySem.W.Frag} {mg : Str → Option Value} {base : Heap}
theorem no_prev0 (vs : List V) (H : Hp) (Q : VK) (E : XK) : ¬ spD K (Rprev 0) vs H Q E := fun ⟨ds, es, _, h, _⟩ => h
theorem no_marks0 (vs : List V) (H : Hp) (Q : VK) (E : XK) : ¬ spDL K (Rmarks 0) vs H Q E := fun ⟨ds, es, _, ⟨x, k, _, _, h, _⟩, _⟩ => nomatch h
theorem chain (T : Txt P w K mg) : FnOk P w K mg base CX0 14 T.a_law T.d_law ["_law_script"] (spLaw K) := by
  have w1 := ok_is_whole (P := P) (w := w) (base := base) (k := 0) T
  have g1 := ok_is_tagged (P := P) (w := w) (base := base) (k := 0) T
  have n2 := ok_is_node (k := 1) T g1 w1
  have wi := ok_trees_within (P := P) (w := w) (base := base) (k := 0) T
  have nm := ok_is_name (P := P) (w := w) (base := base) (k := 0) T
  have mk := ok_is_mark (k := 1) T g1 w1
  have pp : ∀ n : Nat, FnOk P w K mg base CX0 (n + 3) T.a_is_pattern_part T.d_is_pattern_part ["thing", "deep"] (spD K (Rpp n)) := by
    intro n
    induction n with
    | zero => exact ok_is_pattern_part (k := 2) (n := 0) T mk n2 (wi.mono (by decide)) (fn_false no_prev0)
    | succ n ih => exact ok_is_pattern_part (k := n + 3) (n := n + 1) T (mk.mono (by omega)) (n2.mono (by omega)) (wi.mono (by omega)) ih
  have ma : ∀ n : Nat, FnOk P w K mg base CX0 (n + 1) T.a_marks_in T.d_marks_in ["pattern", "kind"] (spDL K (Rmarks n)) := by
    intro n
    induction n with
    | zero => exact fn_false no_marks0
    | succ n ih => exact ok_marks_in (k := n + 1) T (wi.mono (by omega)) ih
  have nu := ok_is_numbered (k := 4) T (ma 3)
  have pa := ok_is_pattern (k := 6) T (pp 3) (nu.mono (by decide))
  have fi := ok_is_filling (k := 4) T (g1.mono (by decide)) (ma 3) (w1.mono (by decide))
  have ce := ok_is_cell (k := 5) T (w1.mono (by decide)) fi
  have ini := ok_Fault__init (P := P) (w := w) (base := base) (k := 0) T
  have ins := ok_instruction_at (k := 1) T ini
  have ai := ok_are_instructions (k := 6) T (w1.mono (by decide)) (ins.mono (by decide)) ce
  have pc := ok_is_piece (k := 7) T (nm.mono (by decide)) pa ai
  have st := ok_is_set (k := 9) T (pc.mono (by decide))
  have lp := ok__law_pieces (P := P) (w := w) (base := base) (k := 0) T
  have dr := ok__law_draw (P := P) (w := w) (base := base) (k := 0) T
  have pk := ok__law_pick (k := 1) T dr
  have ls := ok__law_set (k := 1) T (lp.mono (by decide)) (dr.mono (by decide))
  have ba := ok__law_basic (P := P) (w := w) (base := base) (k := 0) T
  have no := ok__law_no_piece (k := 2) T pk
  exact ok_law (k := 13) T (st.mono (by decide)) (pc.mono (by decide)) (ls.mono (by decide)) (ba.mono (by decide)) (no.mono (by decide)) (pk.mono (by decide))
end
theorem all_mk {l : PySem.W.OpenLaw} {w : World} {K : PySem.W.Frag} {h : Heap} {mg : Str → Option Value} {fa : Addr} (X : K.In h) (G : h.Ns mainGlobals mg) (hfa : mg "law" = some (.ref fa))
    {f1 : Addr} {od1 an1 : Option Addr} {sl1 : Array (Option Value)} {oc1 kV1 dc1 pm1 cd1 ct1 : Value}
    {f2 : Addr} {od2 an2 : Option Addr} {sl2 : Array (Option Value)} {oc2 kV2 dc2 pm2 cd2 ct2 : Value}
    {f3 : Addr} {od3 an3 : Option Addr} {sl3 : Array (Option Value)} {oc3 kV3 dc3 pm3 cd3 ct3 : Value}
    {f4 : Addr} {od4 an4 : Option Addr} {sl4 : Array (Option Value)} {oc4 kV4 dc4 pm4 cd4 ct4 : Value}
    {f5 : Addr} {od5 an5 : Option Addr} {sl5 : Array (Option Value)} {oc5 kV5 dc5 pm5 cd5 ct5 : Value}
    {f6 : Addr} {od6 an6 : Option Addr} {sl6 : Array (Option Value)} {oc6 kV6 dc6 pm6 cd6 ct6 : Value}
    {f7 : Addr} {od7 an7 : Option Addr} {sl7 : Array (Option Value)} {oc7 kV7 dc7 pm7 cd7 ct7 : Value}
    {f8 : Addr} {od8 an8 : Option Addr} {sl8 : Array (Option Value)} {oc8 kV8 dc8 pm8 cd8 ct8 : Value}
    {f9 : Addr} {od9 an9 : Option Addr} {sl9 : Array (Option Value)} {oc9 kV9 dc9 pm9 cd9 ct9 : Value}
    {f10 : Addr} {od10 an10 : Option Addr} {sl10 : Array (Option Value)} {oc10 kV10 dc10 pm10 cd10 ct10 : Value}
    {f11 : Addr} {od11 an11 : Option Addr} {sl11 : Array (Option Value)} {oc11 kV11 dc11 pm11 cd11 ct11 : Value}
    {f12 : Addr} {od12 an12 : Option Addr} {sl12 : Array (Option Value)} {oc12 kV12 dc12 pm12 cd12 ct12 : Value}
    {f13 : Addr} {od13 an13 : Option Addr} {sl13 : Array (Option Value)} {oc13 kV13 dc13 pm13 cd13 ct13 : Value}
    {f14 : Addr} {od14 an14 : Option Addr} {sl14 : Array (Option Value)} {oc14 kV14 dc14 pm14 cd14 ct14 : Value}
    {f15 : Addr} {od15 an15 : Option Addr} {sl15 : Array (Option Value)} {oc15 kV15 dc15 pm15 cd15 ct15 : Value}
    {f16 : Addr} {od16 an16 : Option Addr} {sl16 : Array (Option Value)} {oc16 kV16 dc16 pm16 cd16 ct16 : Value}
    {f17 : Addr} {od17 an17 : Option Addr} {sl17 : Array (Option Value)} {oc17 kV17 dc17 pm17 cd17 ct17 : Value}
    {f18 : Addr} {od18 an18 : Option Addr} {sl18 : Array (Option Value)} {oc18 kV18 dc18 pm18 cd18 ct18 : Value}
    {f19 : Addr} {od19 an19 : Option Addr} {sl19 : Array (Option Value)} {oc19 kV19 dc19 pm19 cd19 ct19 : Value}
    {f20 : Addr} {od20 an20 : Option Addr} {sl20 : Array (Option Value)} {oc20 kV20 dc20 pm20 cd20 ct20 : Value}
    {f21 : Addr} {od21 an21 : Option Addr} {sl21 : Array (Option Value)} {oc21 kV21 dc21 pm21 cd21 ct21 : Value}
    {f22 : Addr} {od22 an22 : Option Addr} {sl22 : Array (Option Value)} {oc22 kV22 dc22 pm22 cd22 ct22 : Value}
    {f23 : Addr} {od23 an23 : Option Addr} {sl23 : Array (Option Value)} {oc23 kV23 dc23 pm23 cd23 ct23 : Value}
    {t_LONGEST_NAME : Tok}
    {t_MOST_CELL : Tok}
    {t_MOST_PATTERN_DEEP : Tok}
    {t_MOST_GAP : Tok}
    {t_MOST_PIECE_CELLS : Tok}
    {t_MOST_PIECES : Tok}
    {d_MOST_IN_LEAF : Addr}
    {d_TREES_IN_BRANCH : Addr}
    {d_MARK_LENGTHS : Addr}
    {d_FILLED_FROM : Addr}
    {d_INSTRUCTIONS : Addr}
    {d_STRAIGHT : Addr}
    {d_BASIC : Addr}
    {ob_MARK_LENGTHS : Obj}
    {d_Fault : Addr}
    {ii_Fault : Addr} {iod_Fault ian_Fault : Option Addr} {isl_Fault : Array (Option Value)} {ioc_Fault ikV_Fault idc_Fault ipm_Fault icd_Fault ict_Fault : Value}
    (a1 : PySem.W.nsIn K mainGlobals "is_whole" = some (some (.ref f1))) (l1 : K.lookup f1 = some ⟨oc1, od1, .func (PySem.W.fnOf "is_whole" "is_whole" (defArgs s_is_whole) (defBody s_is_whole) (defScope s_is_whole) .none kV1 dc1 pm1 an1 cd1 ct1), sl1⟩) (c1 : PySem.W.codeIn K cd1 "is_whole" = true) (k1 : PySem.W.keepIn K (.ref f1) = true)
    (a2 : PySem.W.nsIn K mainGlobals "is_tagged" = some (some (.ref f2))) (l2 : K.lookup f2 = some ⟨oc2, od2, .func (PySem.W.fnOf "is_tagged" "is_tagged" (defArgs s_is_tagged) (defBody s_is_tagged) (defScope s_is_tagged) .none kV2 dc2 pm2 an2 cd2 ct2), sl2⟩) (c2 : PySem.W.codeIn K cd2 "is_tagged" = true) (k2 : PySem.W.keepIn K (.ref f2) = true)
    (a3 : PySem.W.nsIn K mainGlobals "is_node" = some (some (.ref f3))) (l3 : K.lookup f3 = some ⟨oc3, od3, .func (PySem.W.fnOf "is_node" "is_node" (defArgs s_is_node) (defBody s_is_node) (defScope s_is_node) .none kV3 dc3 pm3 an3 cd3 ct3), sl3⟩) (c3 : PySem.W.codeIn K cd3 "is_node" = true) (k3 : PySem.W.keepIn K (.ref f3) = true)
    (a4 : PySem.W.nsIn K mainGlobals "trees_within" = some (some (.ref f4))) (l4 : K.lookup f4 = some ⟨oc4, od4, .func (PySem.W.fnOf "trees_within" "trees_within" (defArgs s_trees_within) (defBody s_trees_within) (defScope s_trees_within) .none kV4 dc4 pm4 an4 cd4 ct4), sl4⟩) (c4 : PySem.W.codeIn K cd4 "trees_within" = true) (k4 : PySem.W.keepIn K (.ref f4) = true)
    (a5 : PySem.W.nsIn K mainGlobals "is_name" = some (some (.ref f5))) (l5 : K.lookup f5 = some ⟨oc5, od5, .func (PySem.W.fnOf "is_name" "is_name" (defArgs s_is_name) (defBody s_is_name) (defScope s_is_name) .none kV5 dc5 pm5 an5 cd5 ct5), sl5⟩) (c5 : PySem.W.codeIn K cd5 "is_name" = true) (k5 : PySem.W.keepIn K (.ref f5) = true)
    (a6 : PySem.W.nsIn K mainGlobals "instruction_at" = some (some (.ref f6))) (l6 : K.lookup f6 = some ⟨oc6, od6, .func (PySem.W.fnOf "instruction_at" "instruction_at" (defArgs s_instruction_at) (defBody s_instruction_at) (defScope s_instruction_at) .none kV6 dc6 pm6 an6 cd6 ct6), sl6⟩) (c6 : PySem.W.codeIn K cd6 "instruction_at" = true) (k6 : PySem.W.keepIn K (.ref f6) = true)
    (a7 : PySem.W.nsIn K mainGlobals "is_mark" = some (some (.ref f7))) (l7 : K.lookup f7 = some ⟨oc7, od7, .func (PySem.W.fnOf "is_mark" "is_mark" (defArgs s_is_mark) (defBody s_is_mark) (defScope s_is_mark) .none kV7 dc7 pm7 an7 cd7 ct7), sl7⟩) (c7 : PySem.W.codeIn K cd7 "is_mark" = true) (k7 : PySem.W.keepIn K (.ref f7) = true)
    (a8 : PySem.W.nsIn K mainGlobals "is_pattern_part" = some (some (.ref f8))) (l8 : K.lookup f8 = some ⟨oc8, od8, .func (PySem.W.fnOf "is_pattern_part" "is_pattern_part" (defArgs s_is_pattern_part) (defBody s_is_pattern_part) (defScope s_is_pattern_part) .none kV8 dc8 pm8 an8 cd8 ct8), sl8⟩) (c8 : PySem.W.codeIn K cd8 "is_pattern_part" = true) (k8 : PySem.W.keepIn K (.ref f8) = true)
    (a9 : PySem.W.nsIn K mainGlobals "marks_in" = some (some (.ref f9))) (l9 : K.lookup f9 = some ⟨oc9, od9, .func (PySem.W.fnOf "marks_in" "marks_in" (defArgs s_marks_in) (defBody s_marks_in) (defScope s_marks_in) .none kV9 dc9 pm9 an9 cd9 ct9), sl9⟩) (c9 : PySem.W.codeIn K cd9 "marks_in" = true) (k9 : PySem.W.keepIn K (.ref f9) = true)
    (a10 : PySem.W.nsIn K mainGlobals "is_numbered" = some (some (.ref f10))) (l10 : K.lookup f10 = some ⟨oc10, od10, .func (PySem.W.fnOf "is_numbered" "is_numbered" (defArgs s_is_numbered) (defBody s_is_numbered) (defScope s_is_numbered) .none kV10 dc10 pm10 an10 cd10 ct10), sl10⟩) (c10 : PySem.W.codeIn K cd10 "is_numbered" = true) (k10 : PySem.W.keepIn K (.ref f10) = true)
    (a11 : PySem.W.nsIn K mainGlobals "is_pattern" = some (some (.ref f11))) (l11 : K.lookup f11 = some ⟨oc11, od11, .func (PySem.W.fnOf "is_pattern" "is_pattern" (defArgs s_is_pattern) (defBody s_is_pattern) (defScope s_is_pattern) .none kV11 dc11 pm11 an11 cd11 ct11), sl11⟩) (c11 : PySem.W.codeIn K cd11 "is_pattern" = true) (k11 : PySem.W.keepIn K (.ref f11) = true)
    (a12 : PySem.W.nsIn K mainGlobals "is_filling" = some (some (.ref f12))) (l12 : K.lookup f12 = some ⟨oc12, od12, .func (PySem.W.fnOf "is_filling" "is_filling" (defArgs s_is_filling) (defBody s_is_filling) (defScope s_is_filling) .none kV12 dc12 pm12 an12 cd12 ct12), sl12⟩) (c12 : PySem.W.codeIn K cd12 "is_filling" = true) (k12 : PySem.W.keepIn K (.ref f12) = true)
    (a13 : PySem.W.nsIn K mainGlobals "is_cell" = some (some (.ref f13))) (l13 : K.lookup f13 = some ⟨oc13, od13, .func (PySem.W.fnOf "is_cell" "is_cell" (defArgs s_is_cell) (defBody s_is_cell) (defScope s_is_cell) .none kV13 dc13 pm13 an13 cd13 ct13), sl13⟩) (c13 : PySem.W.codeIn K cd13 "is_cell" = true) (k13 : PySem.W.keepIn K (.ref f13) = true)
    (a14 : PySem.W.nsIn K mainGlobals "are_instructions" = some (some (.ref f14))) (l14 : K.lookup f14 = some ⟨oc14, od14, .func (PySem.W.fnOf "are_instructions" "are_instructions" (defArgs s_are_instructions) (defBody s_are_instructions) (defScope s_are_instructions) .none kV14 dc14 pm14 an14 cd14 ct14), sl14⟩) (c14 : PySem.W.codeIn K cd14 "are_instructions" = true) (k14 : PySem.W.keepIn K (.ref f14) = true)
    (a15 : PySem.W.nsIn K mainGlobals "is_piece" = some (some (.ref f15))) (l15 : K.lookup f15 = some ⟨oc15, od15, .func (PySem.W.fnOf "is_piece" "is_piece" (defArgs s_is_piece) (defBody s_is_piece) (defScope s_is_piece) .none kV15 dc15 pm15 an15 cd15 ct15), sl15⟩) (c15 : PySem.W.codeIn K cd15 "is_piece" = true) (k15 : PySem.W.keepIn K (.ref f15) = true)
    (a16 : PySem.W.nsIn K mainGlobals "is_set" = some (some (.ref f16))) (l16 : K.lookup f16 = some ⟨oc16, od16, .func (PySem.W.fnOf "is_set" "is_set" (defArgs s_is_set) (defBody s_is_set) (defScope s_is_set) .none kV16 dc16 pm16 an16 cd16 ct16), sl16⟩) (c16 : PySem.W.codeIn K cd16 "is_set" = true) (k16 : PySem.W.keepIn K (.ref f16) = true)
    (a17 : PySem.W.nsIn K mainGlobals "_law_draw" = some (some (.ref f17))) (l17 : K.lookup f17 = some ⟨oc17, od17, .func (PySem.W.fnOf "_law_draw" "_law_draw" (defArgs s__law_draw) (defBody s__law_draw) (defScope s__law_draw) .none kV17 dc17 pm17 an17 cd17 ct17), sl17⟩) (c17 : PySem.W.codeIn K cd17 "_law_draw" = true) (k17 : PySem.W.keepIn K (.ref f17) = true)
    (a18 : PySem.W.nsIn K mainGlobals "_law_pick" = some (some (.ref f18))) (l18 : K.lookup f18 = some ⟨oc18, od18, .func (PySem.W.fnOf "_law_pick" "_law_pick" (defArgs s__law_pick) (defBody s__law_pick) (defScope s__law_pick) .none kV18 dc18 pm18 an18 cd18 ct18), sl18⟩) (c18 : PySem.W.codeIn K cd18 "_law_pick" = true) (k18 : PySem.W.keepIn K (.ref f18) = true)
    (a19 : PySem.W.nsIn K mainGlobals "_law_pieces" = some (some (.ref f19))) (l19 : K.lookup f19 = some ⟨oc19, od19, .func (PySem.W.fnOf "_law_pieces" "_law_pieces" (defArgs s__law_pieces) (defBody s__law_pieces) (defScope s__law_pieces) .none kV19 dc19 pm19 an19 cd19 ct19), sl19⟩) (c19 : PySem.W.codeIn K cd19 "_law_pieces" = true) (k19 : PySem.W.keepIn K (.ref f19) = true)
    (a20 : PySem.W.nsIn K mainGlobals "_law_set" = some (some (.ref f20))) (l20 : K.lookup f20 = some ⟨oc20, od20, .func (PySem.W.fnOf "_law_set" "_law_set" (defArgs s__law_set) (defBody s__law_set) (defScope s__law_set) .none kV20 dc20 pm20 an20 cd20 ct20), sl20⟩) (c20 : PySem.W.codeIn K cd20 "_law_set" = true) (k20 : PySem.W.keepIn K (.ref f20) = true)
    (a21 : PySem.W.nsIn K mainGlobals "_law_no_piece" = some (some (.ref f21))) (l21 : K.lookup f21 = some ⟨oc21, od21, .func (PySem.W.fnOf "_law_no_piece" "_law_no_piece" (defArgs s__law_no_piece) (defBody s__law_no_piece) (defScope s__law_no_piece) .none kV21 dc21 pm21 an21 cd21 ct21), sl21⟩) (c21 : PySem.W.codeIn K cd21 "_law_no_piece" = true) (k21 : PySem.W.keepIn K (.ref f21) = true)
    (a22 : PySem.W.nsIn K mainGlobals "_law_basic" = some (some (.ref f22))) (l22 : K.lookup f22 = some ⟨oc22, od22, .func (PySem.W.fnOf "_law_basic" "_law_basic" (defArgs s__law_basic) (defBody s__law_basic) (defScope s__law_basic) .none kV22 dc22 pm22 an22 cd22 ct22), sl22⟩) (c22 : PySem.W.codeIn K cd22 "_law_basic" = true) (k22 : PySem.W.keepIn K (.ref f22) = true)
    (a23 : PySem.W.nsIn K mainGlobals "law" = some (some (.ref f23))) (l23 : K.lookup f23 = some ⟨oc23, od23, .func (PySem.W.fnOf "law" "law" (defArgs s_law) (defBody s_law) (defScope s_law) .none kV23 dc23 pm23 an23 cd23 ct23), sl23⟩) (c23 : PySem.W.codeIn K cd23 "law" = true) (k23 : PySem.W.keepIn K (.ref f23) = true)
    (g_LONGEST_NAME : PySem.W.nsIn K mainGlobals "LONGEST_NAME" = some (some (.int 8 t_LONGEST_NAME)))
    (g_MOST_CELL : PySem.W.nsIn K mainGlobals "MOST_CELL" = some (some (.int 99 t_MOST_CELL)))
    (g_MOST_PATTERN_DEEP : PySem.W.nsIn K mainGlobals "MOST_PATTERN_DEEP" = some (some (.int 3 t_MOST_PATTERN_DEEP)))
    (g_MOST_GAP : PySem.W.nsIn K mainGlobals "MOST_GAP" = some (some (.int 9999 t_MOST_GAP)))
    (g_MOST_PIECE_CELLS : PySem.W.nsIn K mainGlobals "MOST_PIECE_CELLS" = some (some (.int 12 t_MOST_PIECE_CELLS)))
    (g_MOST_PIECES : PySem.W.nsIn K mainGlobals "MOST_PIECES" = some (some (.int 16 t_MOST_PIECES)))
    (g_MOST_IN_LEAF : PySem.W.nsIn K mainGlobals "MOST_IN_LEAF" = some (some (.ref d_MOST_IN_LEAF))) (t_MOST_IN_LEAF : KTD.tabLook (KTD.datLooks fun b => K.lookup b) (fun b => K.lookup b) d_MOST_IN_LEAF TL = true)
    (g_TREES_IN_BRANCH : PySem.W.nsIn K mainGlobals "TREES_IN_BRANCH" = some (some (.ref d_TREES_IN_BRANCH))) (t_TREES_IN_BRANCH : KTD.tabLook (KTD.datLooks fun b => K.lookup b) (fun b => K.lookup b) d_TREES_IN_BRANCH TB = true)
    (g_MARK_LENGTHS : PySem.W.nsIn K mainGlobals "MARK_LENGTHS" = some (some (.ref d_MARK_LENGTHS))) (t_MARK_LENGTHS : KTD.tabLook (KTD.datLooks fun b => K.lookup b) (fun b => K.lookup b) d_MARK_LENGTHS TM = true)
    (g_FILLED_FROM : PySem.W.nsIn K mainGlobals "FILLED_FROM" = some (some (.ref d_FILLED_FROM))) (t_FILLED_FROM : KTD.tabLook (KTD.datLooks fun b => K.lookup b) (fun b => K.lookup b) d_FILLED_FROM TF = true)
    (g_INSTRUCTIONS : PySem.W.nsIn K mainGlobals "INSTRUCTIONS" = some (some (.ref d_INSTRUCTIONS))) (y_INSTRUCTIONS : datOk K (.tup INS) (.ref d_INSTRUCTIONS) = true)
    (g_STRAIGHT : PySem.W.nsIn K mainGlobals "STRAIGHT" = some (some (.ref d_STRAIGHT))) (y_STRAIGHT : datOk K (.tup STR) (.ref d_STRAIGHT) = true)
    (g_BASIC : PySem.W.nsIn K mainGlobals "BASIC" = some (some (.ref d_BASIC))) (y_BASIC : lstKOk K BAS d_BASIC = true)
    (o_MARK_LENGTHS : K.lookup d_MARK_LENGTHS = some ob_MARK_LENGTHS) (e_MARK_LENGTHS : KTD.tabLook KTD.flatLooks (fun b => K.lookup b) d_MARK_LENGTHS ([("hole", .int 2), ("gap", .int 3), ("slot", .int 2)] : List (Str × PyData)) = true) (q_MARK_LENGTHS : KTD.hashesOf (fun b => K.lookup b) d_MARK_LENGTHS = ([("hole", .int 2), ("gap", .int 3), ("slot", .int 2)] : List (Str × PyData)).map fun p => (PySem.strKind l.prog w).hash p.1)
    (g_Fault : PySem.W.nsIn K mainGlobals "Fault" = some (some (.ref d_Fault)))
    (if_Fault : PySem.W.findIn K (.ref d_Fault) "__init__" = some (some (.ref ii_Fault))) (il_Fault : K.lookup ii_Fault = some ⟨ioc_Fault, iod_Fault, .func (PySem.W.fnOf "__init__" "Fault.__init__" (defArgs s_Fault__init) (defBody s_Fault__init) (defScope s_Fault__init) .none ikV_Fault idc_Fault ipm_Fault ian_Fault icd_Fault ict_Fault), isl_Fault⟩) (ic_Fault : PySem.W.codeIn K icd_Fault "Fault.__init__" = true) (ik_Fault : PySem.W.keepIn K (.ref ii_Fault) = true)
    (ix_Fault : IniK K d_Fault ii_Fault) (is_Fault : StoK K d_Fault "place")
    (e_Fault_Fault : PySem.W.exmOne K (.ref d_Fault) (.ref d_Fault) = some true)
    (z_len : PySem.W.nsIn K mainGlobals "len" = some none)
    (z_isinstance : PySem.W.nsIn K mainGlobals "isinstance" = some none)
    (z_int : PySem.W.nsIn K mainGlobals "int" = some none)
    (z_bool : PySem.W.nsIn K mainGlobals "bool" = some none)
    (z_str : PySem.W.nsIn K mainGlobals "str" = some none)
    (z_tuple : PySem.W.nsIn K mainGlobals "tuple" = some none)
    (z_list : PySem.W.nsIn K mainGlobals "list" = some none)
    (z_range : PySem.W.nsIn K mainGlobals "range" = some none)
    (z_all : PySem.W.nsIn K mainGlobals "all" = some none)
    (z_any : PySem.W.nsIn K mainGlobals "any" = some none)
    (z_set : PySem.W.nsIn K mainGlobals "set" = some none)
    (z_enumerate : PySem.W.nsIn K mainGlobals "enumerate" = some none) :
    ∃ fd : FuncData, (∀ (s : Shared) (v : Value), BindsTo s fd ⟨[v], []⟩ [("_law_script", v)]) ∧ ∀ base : Heap, K.In base → base.Ns mainGlobals mg → FnOk l.prog w K mg base CX0 14 fa fd ["_law_script"] (spLaw K) := by
  have e := hfa.symm.trans (PySem.W.mg_of X G a23)
  cases e
  let T : Txt l.prog w K mg :=
    { a_is_whole := f1, d_is_whole := PySem.W.fnOf "is_whole" "is_whole" (defArgs s_is_whole) (defBody s_is_whole) (defScope s_is_whole) .none kV1 dc1 pm1 an1 cd1 ct1, f_is_whole := fun_mk (st := s_is_whole) l1 c1 k1, m_is_whole := PySem.W.mg_of X G a1,
      a_is_tagged := f2, d_is_tagged := PySem.W.fnOf "is_tagged" "is_tagged" (defArgs s_is_tagged) (defBody s_is_tagged) (defScope s_is_tagged) .none kV2 dc2 pm2 an2 cd2 ct2, f_is_tagged := fun_mk (st := s_is_tagged) l2 c2 k2, m_is_tagged := PySem.W.mg_of X G a2,
      a_is_node := f3, d_is_node := PySem.W.fnOf "is_node" "is_node" (defArgs s_is_node) (defBody s_is_node) (defScope s_is_node) .none kV3 dc3 pm3 an3 cd3 ct3, f_is_node := fun_mk (st := s_is_node) l3 c3 k3, m_is_node := PySem.W.mg_of X G a3,
      a_trees_within := f4, d_trees_within := PySem.W.fnOf "trees_within" "trees_within" (defArgs s_trees_within) (defBody s_trees_within) (defScope s_trees_within) .none kV4 dc4 pm4 an4 cd4 ct4, f_trees_within := fun_mk (st := s_trees_within) l4 c4 k4, m_trees_within := PySem.W.mg_of X G a4,
      a_is_name := f5, d_is_name := PySem.W.fnOf "is_name" "is_name" (defArgs s_is_name) (defBody s_is_name) (defScope s_is_name) .none kV5 dc5 pm5 an5 cd5 ct5, f_is_name := fun_mk (st := s_is_name) l5 c5 k5, m_is_name := PySem.W.mg_of X G a5,
      a_instruction_at := f6, d_instruction_at := PySem.W.fnOf "instruction_at" "instruction_at" (defArgs s_instruction_at) (defBody s_instruction_at) (defScope s_instruction_at) .none kV6 dc6 pm6 an6 cd6 ct6, f_instruction_at := fun_mk (st := s_instruction_at) l6 c6 k6, m_instruction_at := PySem.W.mg_of X G a6,
      a_is_mark := f7, d_is_mark := PySem.W.fnOf "is_mark" "is_mark" (defArgs s_is_mark) (defBody s_is_mark) (defScope s_is_mark) .none kV7 dc7 pm7 an7 cd7 ct7, f_is_mark := fun_mk (st := s_is_mark) l7 c7 k7, m_is_mark := PySem.W.mg_of X G a7,
      a_is_pattern_part := f8, d_is_pattern_part := PySem.W.fnOf "is_pattern_part" "is_pattern_part" (defArgs s_is_pattern_part) (defBody s_is_pattern_part) (defScope s_is_pattern_part) .none kV8 dc8 pm8 an8 cd8 ct8, f_is_pattern_part := fun_mk (st := s_is_pattern_part) l8 c8 k8, m_is_pattern_part := PySem.W.mg_of X G a8,
      a_marks_in := f9, d_marks_in := PySem.W.fnOf "marks_in" "marks_in" (defArgs s_marks_in) (defBody s_marks_in) (defScope s_marks_in) .none kV9 dc9 pm9 an9 cd9 ct9, f_marks_in := fun_mk (st := s_marks_in) l9 c9 k9, m_marks_in := PySem.W.mg_of X G a9,
      a_is_numbered := f10, d_is_numbered := PySem.W.fnOf "is_numbered" "is_numbered" (defArgs s_is_numbered) (defBody s_is_numbered) (defScope s_is_numbered) .none kV10 dc10 pm10 an10 cd10 ct10, f_is_numbered := fun_mk (st := s_is_numbered) l10 c10 k10, m_is_numbered := PySem.W.mg_of X G a10,
      a_is_pattern := f11, d_is_pattern := PySem.W.fnOf "is_pattern" "is_pattern" (defArgs s_is_pattern) (defBody s_is_pattern) (defScope s_is_pattern) .none kV11 dc11 pm11 an11 cd11 ct11, f_is_pattern := fun_mk (st := s_is_pattern) l11 c11 k11, m_is_pattern := PySem.W.mg_of X G a11,
      a_is_filling := f12, d_is_filling := PySem.W.fnOf "is_filling" "is_filling" (defArgs s_is_filling) (defBody s_is_filling) (defScope s_is_filling) .none kV12 dc12 pm12 an12 cd12 ct12, f_is_filling := fun_mk (st := s_is_filling) l12 c12 k12, m_is_filling := PySem.W.mg_of X G a12,
      a_is_cell := f13, d_is_cell := PySem.W.fnOf "is_cell" "is_cell" (defArgs s_is_cell) (defBody s_is_cell) (defScope s_is_cell) .none kV13 dc13 pm13 an13 cd13 ct13, f_is_cell := fun_mk (st := s_is_cell) l13 c13 k13, m_is_cell := PySem.W.mg_of X G a13,
      a_are_instructions := f14, d_are_instructions := PySem.W.fnOf "are_instructions" "are_instructions" (defArgs s_are_instructions) (defBody s_are_instructions) (defScope s_are_instructions) .none kV14 dc14 pm14 an14 cd14 ct14, f_are_instructions := fun_mk (st := s_are_instructions) l14 c14 k14, m_are_instructions := PySem.W.mg_of X G a14,
      a_is_piece := f15, d_is_piece := PySem.W.fnOf "is_piece" "is_piece" (defArgs s_is_piece) (defBody s_is_piece) (defScope s_is_piece) .none kV15 dc15 pm15 an15 cd15 ct15, f_is_piece := fun_mk (st := s_is_piece) l15 c15 k15, m_is_piece := PySem.W.mg_of X G a15,
      a_is_set := f16, d_is_set := PySem.W.fnOf "is_set" "is_set" (defArgs s_is_set) (defBody s_is_set) (defScope s_is_set) .none kV16 dc16 pm16 an16 cd16 ct16, f_is_set := fun_mk (st := s_is_set) l16 c16 k16, m_is_set := PySem.W.mg_of X G a16,
      a__law_draw := f17, d__law_draw := PySem.W.fnOf "_law_draw" "_law_draw" (defArgs s__law_draw) (defBody s__law_draw) (defScope s__law_draw) .none kV17 dc17 pm17 an17 cd17 ct17, f__law_draw := fun_mk (st := s__law_draw) l17 c17 k17, m__law_draw := PySem.W.mg_of X G a17,
      a__law_pick := f18, d__law_pick := PySem.W.fnOf "_law_pick" "_law_pick" (defArgs s__law_pick) (defBody s__law_pick) (defScope s__law_pick) .none kV18 dc18 pm18 an18 cd18 ct18, f__law_pick := fun_mk (st := s__law_pick) l18 c18 k18, m__law_pick := PySem.W.mg_of X G a18,
      a__law_pieces := f19, d__law_pieces := PySem.W.fnOf "_law_pieces" "_law_pieces" (defArgs s__law_pieces) (defBody s__law_pieces) (defScope s__law_pieces) .none kV19 dc19 pm19 an19 cd19 ct19, f__law_pieces := fun_mk (st := s__law_pieces) l19 c19 k19, m__law_pieces := PySem.W.mg_of X G a19,
      a__law_set := f20, d__law_set := PySem.W.fnOf "_law_set" "_law_set" (defArgs s__law_set) (defBody s__law_set) (defScope s__law_set) .none kV20 dc20 pm20 an20 cd20 ct20, f__law_set := fun_mk (st := s__law_set) l20 c20 k20, m__law_set := PySem.W.mg_of X G a20,
      a__law_no_piece := f21, d__law_no_piece := PySem.W.fnOf "_law_no_piece" "_law_no_piece" (defArgs s__law_no_piece) (defBody s__law_no_piece) (defScope s__law_no_piece) .none kV21 dc21 pm21 an21 cd21 ct21, f__law_no_piece := fun_mk (st := s__law_no_piece) l21 c21 k21, m__law_no_piece := PySem.W.mg_of X G a21,
      a__law_basic := f22, d__law_basic := PySem.W.fnOf "_law_basic" "_law_basic" (defArgs s__law_basic) (defBody s__law_basic) (defScope s__law_basic) .none kV22 dc22 pm22 an22 cd22 ct22, f__law_basic := fun_mk (st := s__law_basic) l22 c22 k22, m__law_basic := PySem.W.mg_of X G a22,
      a_law := fa, d_law := PySem.W.fnOf "law" "law" (defArgs s_law) (defBody s_law) (defScope s_law) .none kV23 dc23 pm23 an23 cd23 ct23, f_law := fun_mk (st := s_law) l23 c23 k23, m_law := PySem.W.mg_of X G a23,
      t_LONGEST_NAME := t_LONGEST_NAME, g_LONGEST_NAME := PySem.W.mg_of X G g_LONGEST_NAME,
      t_MOST_CELL := t_MOST_CELL, g_MOST_CELL := PySem.W.mg_of X G g_MOST_CELL,
      t_MOST_PATTERN_DEEP := t_MOST_PATTERN_DEEP, g_MOST_PATTERN_DEEP := PySem.W.mg_of X G g_MOST_PATTERN_DEEP,
      t_MOST_GAP := t_MOST_GAP, g_MOST_GAP := PySem.W.mg_of X G g_MOST_GAP,
      t_MOST_PIECE_CELLS := t_MOST_PIECE_CELLS, g_MOST_PIECE_CELLS := PySem.W.mg_of X G g_MOST_PIECE_CELLS,
      t_MOST_PIECES := t_MOST_PIECES, g_MOST_PIECES := PySem.W.mg_of X G g_MOST_PIECES,
      a_MOST_IN_LEAF := d_MOST_IN_LEAF, g_MOST_IN_LEAF := PySem.W.mg_of X G g_MOST_IN_LEAF, t_MOST_IN_LEAF := fun h x => PySem.W.kt_text_in x t_MOST_IN_LEAF,
      a_TREES_IN_BRANCH := d_TREES_IN_BRANCH, g_TREES_IN_BRANCH := PySem.W.mg_of X G g_TREES_IN_BRANCH, t_TREES_IN_BRANCH := fun h x => PySem.W.kt_text_in x t_TREES_IN_BRANCH,
      a_MARK_LENGTHS := d_MARK_LENGTHS, g_MARK_LENGTHS := PySem.W.mg_of X G g_MARK_LENGTHS, t_MARK_LENGTHS := fun h x => PySem.W.kt_text_in x t_MARK_LENGTHS,
      a_FILLED_FROM := d_FILLED_FROM, g_FILLED_FROM := PySem.W.mg_of X G g_FILLED_FROM, t_FILLED_FROM := fun h x => PySem.W.kt_text_in x t_FILLED_FROM,
      a_INSTRUCTIONS := d_INSTRUCTIONS, g_INSTRUCTIONS := PySem.W.mg_of X G g_INSTRUCTIONS, c_INSTRUCTIONS := y_INSTRUCTIONS,
      a_STRAIGHT := d_STRAIGHT, g_STRAIGHT := PySem.W.mg_of X G g_STRAIGHT, c_STRAIGHT := y_STRAIGHT,
      a_BASIC := d_BASIC, g_BASIC := PySem.W.mg_of X G g_BASIC, c_BASIC := y_BASIC,
      k_MARK_LENGTHS := ⟨⟨_, o_MARK_LENGTHS⟩, fun h x => ⟨_, PySem.W.kt_tab_in l.prog w x e_MARK_LENGTHS (by decide +kernel) q_MARK_LENGTHS, rfl⟩⟩,
      a_Fault := d_Fault, g_Fault := PySem.W.mg_of X G g_Fault,
      i_Fault := ii_Fault, di_Fault := PySem.W.fnOf "__init__" "Fault.__init__" (defArgs s_Fault__init) (defBody s_Fault__init) (defScope s_Fault__init) .none ikV_Fault idc_Fault ipm_Fault ian_Fault icd_Fault ict_Fault, fi_Fault := fun_mk (st := s_Fault__init) il_Fault ic_Fault ik_Fault, c_Fault := ix_Fault, so_Fault := is_Fault,
      e_Fault_Fault := e_Fault_Fault,
      n_len := PySem.W.mg_none_of X G z_len,
      n_isinstance := PySem.W.mg_none_of X G z_isinstance,
      n_int := PySem.W.mg_none_of X G z_int,
      n_bool := PySem.W.mg_none_of X G z_bool,
      n_str := PySem.W.mg_none_of X G z_str,
      n_tuple := PySem.W.mg_none_of X G z_tuple,
      n_list := PySem.W.mg_none_of X G z_list,
      n_range := PySem.W.mg_none_of X G z_range,
      n_all := PySem.W.mg_none_of X G z_all,
      n_any := PySem.W.mg_none_of X G z_any,
      n_set := PySem.W.mg_none_of X G z_set,
      n_enumerate := PySem.W.mg_none_of X G z_enumerate }
  exact ⟨_, fun s v => .of_eq rfl, fun base _ _ => chain T⟩
theorem walk {l : PySem.W.OpenLaw} {q : Program} {loose : List Str} {XP : (Str → Option Value) → Heap → Prop} {YP : World → Heap → Prop} {d : DefRec} {K : Params → PySem.W.Frag} (hn : l.most = some 63) (hdf : d.params.defaults = [])
    (hY : ∀ (w : World) (h : Heap), YP w h → (K w.params).In h)
    (F : ∀ (w : World) (mg : Str → Option Value) (fa : Addr) (h : Heap), (K w.params).In h → h.Ns mainGlobals mg → mg d.name = some (.ref fa) →
      ∃ fd : FuncData, (∀ (s : Shared) (u : Value), BindsTo s fd ⟨[u], []⟩ [("_law_script", u)]) ∧ ∀ base : Heap, (K w.params).In base → base.Ns mainGlobals mg → FnOk l.prog w (K w.params) mg base CX0 14 fa fd ["_law_script"] (spLaw (K w.params))) :
    PySem.W.WalkO q loose XP YP l.row.toRowW d [] (fun f vs => PySem.call f vs) :=
  L2.walk_of (n := 63) (k := 14) (x := "_law_script") (CX := fun _ => CX0) (sp := fun w => spLaw (K w.params)) hn (by decide) hdf ⟨rfl, by decide, by decide⟩ hY F (fun _ _ a ns hl hO hS => ⟨a, ns, rfl, scr_of hO hS, fun _ => rfl⟩) fun _ _ _ _ _ z => z
end My
open PySem PySem.W PyProof.Rows
set_option maxRecDepth 100000 in
set_option maxHeartbeats 0 in
theorem PySem.Challenge.cw_piecelay_k09_pieces_holds : PySem.Challenge.rw_piecelay_k09_pieces.Holds := by
  w_on; o_law
  refine holds_open (q := My.view) (loose := My.loose) (Xt := My.xt) (XP := XL My.view []) (Yf := Hook.obs (kHook My.k0.heap_1 My.kas My.kas_ok)) (Ya := Hook.val (kHook My.k0.heap_1 My.kas My.kas_ok)) (YP := Hook.says (kHook My.k0.heap_1 My.kas My.kas_ok)) (N := My.NN) My.left (Hook.of (kHook My.k0.heap_1 My.kas My.kas_ok)) (Hook.keeps (kHook My.k0.heap_1 My.kas My.kas_ok)) (fun s e => xl_of s (Bool.and_eq_true_iff.mp e).1) XL.keeps (by rfl) (by rfl) (by rfl) (fun s e => recFacts_of (Bool.and_eq_true_iff.mp e).2) (by rfl) (by first | assumption | decide +kernel) (by decide +kernel) ⟨rfl, rfl, rfl, rfl, rfl, by decide +kernel⟩ ?hw ?hc
  case hw => w_witness2
  k_fill
  refine My.walk (l := PySem.Challenge.rw_piecelay_k09_pieces) rfl rfl (fun w h Y => PySem.W.kIn_of Y) ?F
  case F =>
    intro w mg fa h KX G hmg
    refine' My.all_mk KX G hmg ?a1 ?l1 ?c1 ?k1 ?a2 ?l2 ?c2 ?k2 ?a3 ?l3 ?c3 ?k3 ?a4 ?l4 ?c4 ?k4 ?a5 ?l5 ?c5 ?k5 ?a6 ?l6 ?c6 ?k6 ?a7 ?l7 ?c7 ?k7 ?a8 ?l8 ?c8 ?k8 ?a9 ?l9 ?c9 ?k9 ?a10 ?l10 ?c10 ?k10 ?a11 ?l11 ?c11 ?k11 ?a12 ?l12 ?c12 ?k12 ?a13 ?l13 ?c13 ?k13 ?a14 ?l14 ?c14 ?k14 ?a15 ?l15 ?c15 ?k15 ?a16 ?l16 ?c16 ?k16 ?a17 ?l17 ?c17 ?k17 ?a18 ?l18 ?c18 ?k18 ?a19 ?l19 ?c19 ?k19 ?a20 ?l20 ?c20 ?k20 ?a21 ?l21 ?c21 ?k21 ?a22 ?l22 ?c22 ?k22 ?a23 ?l23 ?c23 ?k23 ?g_LONGEST_NAME ?g_MOST_CELL ?g_MOST_PATTERN_DEEP ?g_MOST_GAP ?g_MOST_PIECE_CELLS ?g_MOST_PIECES ?g_MOST_IN_LEAF ?t_MOST_IN_LEAF ?g_TREES_IN_BRANCH ?t_TREES_IN_BRANCH ?g_MARK_LENGTHS ?t_MARK_LENGTHS ?g_FILLED_FROM ?t_FILLED_FROM ?g_INSTRUCTIONS ?y_INSTRUCTIONS ?g_STRAIGHT ?y_STRAIGHT ?g_BASIC ?y_BASIC ?o_MARK_LENGTHS ?e_MARK_LENGTHS ?q_MARK_LENGTHS ?g_Fault ?if_Fault ?il_Fault ?ic_Fault ?ik_Fault ?ix_Fault ?is_Fault ?e_Fault_Fault ?z_len ?z_isinstance ?z_int ?z_bool ?z_str ?z_tuple ?z_list ?z_range ?z_all ?z_any ?z_set ?z_enumerate
    (case a1 => k_is)
    (case l1 => k_is)
    (case c1 => k_is)
    (case k1 => k_is)
    (case a2 => k_is)
    (case l2 => k_is)
    (case c2 => k_is)
    (case k2 => k_is)
    (case a3 => k_is)
    (case l3 => k_is)
    (case c3 => k_is)
    (case k3 => k_is)
    (case a4 => k_is)
    (case l4 => k_is)
    (case c4 => k_is)
    (case k4 => k_is)
    (case a5 => k_is)
    (case l5 => k_is)
    (case c5 => k_is)
    (case k5 => k_is)
    (case a6 => k_is)
    (case l6 => k_is)
    (case c6 => k_is)
    (case k6 => k_is)
    (case a7 => k_is)
    (case l7 => k_is)
    (case c7 => k_is)
    (case k7 => k_is)
    (case a8 => k_is)
    (case l8 => k_is)
    (case c8 => k_is)
    (case k8 => k_is)
    (case a9 => k_is)
    (case l9 => k_is)
    (case c9 => k_is)
    (case k9 => k_is)
    (case a10 => k_is)
    (case l10 => k_is)
    (case c10 => k_is)
    (case k10 => k_is)
    (case a11 => k_is)
    (case l11 => k_is)
    (case c11 => k_is)
    (case k11 => k_is)
    (case a12 => k_is)
    (case l12 => k_is)
    (case c12 => k_is)
    (case k12 => k_is)
    (case a13 => k_is)
    (case l13 => k_is)
    (case c13 => k_is)
    (case k13 => k_is)
    (case a14 => k_is)
    (case l14 => k_is)
    (case c14 => k_is)
    (case k14 => k_is)
    (case a15 => k_is)
    (case l15 => k_is)
    (case c15 => k_is)
    (case k15 => k_is)
    (case a16 => k_is)
    (case l16 => k_is)
    (case c16 => k_is)
    (case k16 => k_is)
    (case a17 => k_is)
    (case l17 => k_is)
    (case c17 => k_is)
    (case k17 => k_is)
    (case a18 => k_is)
    (case l18 => k_is)
    (case c18 => k_is)
    (case k18 => k_is)
    (case a19 => k_is)
    (case l19 => k_is)
    (case c19 => k_is)
    (case k19 => k_is)
    (case a20 => k_is)
    (case l20 => k_is)
    (case c20 => k_is)
    (case k20 => k_is)
    (case a21 => k_is)
    (case l21 => k_is)
    (case c21 => k_is)
    (case k21 => k_is)
    (case a22 => k_is)
    (case l22 => k_is)
    (case c22 => k_is)
    (case k22 => k_is)
    (case a23 => k_is)
    (case l23 => k_is)
    (case c23 => k_is)
    (case k23 => k_is)
    (case g_LONGEST_NAME => k_is)
    (case g_MOST_CELL => k_is)
    (case g_MOST_PATTERN_DEEP => k_is)
    (case g_MOST_GAP => k_is)
    (case g_MOST_PIECE_CELLS => k_is)
    (case g_MOST_PIECES => k_is)
    (case g_MOST_IN_LEAF => k_is)
    (case t_MOST_IN_LEAF => first | rfl | decide +kernel)
    (case g_TREES_IN_BRANCH => k_is)
    (case t_TREES_IN_BRANCH => first | rfl | decide +kernel)
    (case g_MARK_LENGTHS => k_is)
    (case t_MARK_LENGTHS => first | rfl | decide +kernel)
    (case g_FILLED_FROM => k_is)
    (case t_FILLED_FROM => first | rfl | decide +kernel)
    (case g_INSTRUCTIONS => k_is)
    (case y_INSTRUCTIONS => first | rfl | decide +kernel)
    (case g_STRAIGHT => k_is)
    (case y_STRAIGHT => first | rfl | decide +kernel)
    (case g_BASIC => k_is)
    (case y_BASIC => first | rfl | decide +kernel)
    (case o_MARK_LENGTHS => k_is)
    (case e_MARK_LENGTHS => first | rfl | decide +kernel)
    (case q_MARK_LENGTHS => first | rfl | kernel_rfl | decide +kernel)
    (case g_Fault => k_is)
    (case if_Fault => k_is)
    (case il_Fault => k_is)
    (case ic_Fault => k_is)
    (case ik_Fault => k_is)
    (case ix_Fault => refine ⟨?_, ?_, ?_, ?_⟩ <;> (first | rfl | kernel_rfl | decide +kernel))
    (case is_Fault => refine ⟨?_, ?_, ?_, ?_, ?_⟩ <;> (first | rfl | kernel_rfl | decide +kernel))
    (case e_Fault_Fault => first | rfl | kernel_rfl | decide +kernel)
    (case z_len => k_is)
    (case z_isinstance => k_is)
    (case z_int => k_is)
    (case z_bool => k_is)
    (case z_str => k_is)
    (case z_tuple => k_is)
    (case z_list => k_is)
    (case z_range => k_is)
    (case z_all => k_is)
    (case z_any => k_is)
    (case z_set => k_is)
    (case z_enumerate => k_is)
#print axioms PySem.Challenge.cw_piecelay_k09_pieces_holds
