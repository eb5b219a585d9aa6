import PyProof.Rows.All
import Wide.All
import OpenK.AllK
import Wide.FinOn
import Lean
import PyProof.EqAt
import PyProof.EqKinds
import PyProof.TupleCall
import PySem.Challenge.RW_twoline_k12_points_read_or_refused
set_option maxHeartbeats 4000000
set_option Elab.async false
set_option linter.all false
set_option maxRecDepth 100000
/-! THE HAND LAYER, for ints, bools, texts, own classes, LISTS and tuples (index, slices, in, append, pop ..), calls, loops. Paste it whole ahead of your own text; what your proof does not reach may be deleted. -/
namespace L2
open PySem PySem.Spec PyProof.Rows

/-- a key: an int or a str -/
abbrev Key := Sum Int Str
def keyIs : Key → Value → Bool
  | .inl k, v => Value.isInt k v
  | .inr x, v => Value.isStrOf x v
def keyH (w : World) : Key → Int
  | .inl k => hashInt k
  | .inr x => hashStr w x
theorem keyIs_shape : ∀ {k : Key} {v : Value}, keyIs k v = true → (∃ i t, k = Sum.inl i ∧ v = Value.int i t) ∨ (∃ x t, k = Sum.inr x ∧ v = Value.str x t)
  | .inl i, v, h => by
    obtain ⟨t, e⟩ := Value.isInt_shape (k := i) (v := v) h
    exact .inl ⟨i, t, rfl, e⟩
  | .inr x, v, h => by
    obtain ⟨t, e⟩ := Value.isStrOf_shape (x := x) (v := v) h
    exact .inr ⟨x, t, rfl, e⟩
theorem key_ll (a b : Int) : decide ((Sum.inl a : Key) = Sum.inl b) = (a == b) := by
  by_cases e : a = b
  · subst e; simp
  · have h : ¬ (Sum.inl a : Key) = Sum.inl b := fun q => e (Sum.inl.inj q)
    rw [decide_eq_false h]
    exact (beq_eq_false_iff_ne.mpr e).symm
theorem key_rr (a b : Str) : decide ((Sum.inr a : Key) = Sum.inr b) = decide (a = b) := by
  by_cases e : a = b
  · subst e; simp
  · have h : ¬ (Sum.inr a : Key) = Sum.inr b := fun q => e (Sum.inr.inj q)
    rw [decide_eq_false h, decide_eq_false e]
theorem key_lr (a : Int) (b : Str) : decide ((Sum.inl a : Key) = Sum.inr b) = false := decide_eq_false (fun q => nomatch q)
theorem key_rl (a : Str) (b : Int) : decide ((Sum.inr a : Key) = Sum.inl b) = false := decide_eq_false (fun q => nomatch q)

def mixKind (prog : Program) (w : World) : PySem.KeyKind prog w Key where
  is := keyIs
  hash := keyH w
  inj := fun v a b ha hb => by
    rcases keyIs_shape ha with ⟨i, t, rfl, rfl⟩ | ⟨x, t, rfl, rfl⟩
    · rcases keyIs_shape hb with ⟨j, u, rfl, e⟩ | ⟨y, u, rfl, e⟩
      · injection e with e1 _; rw [e1]
      · exact nomatch e
    · rcases keyIs_shape hb with ⟨j, u, rfl, e⟩ | ⟨y, u, rfl, e⟩
      · exact nomatch e
      · injection e with e1 _; rw [e1]
  byValue := fun k v h => by
    rcases keyIs_shape h with ⟨i, t, rfl, rfl⟩ | ⟨x, t, rfl, rfl⟩ <;> rfl
  pyHash := fun hv h => by
    rcases keyIs_shape hv with ⟨i, t, rfl, rfl⟩ | ⟨x, t, rfl, rfl⟩
    · exact wpAny_pyHash_int h
    · exact wpAny_pyHash_str h
  eqBool := fun hu hv h => by
    rcases keyIs_shape hu with ⟨i, t, rfl, rfl⟩ | ⟨x, t, rfl, rfl⟩
    · rcases keyIs_shape hv with ⟨j, u, rfl, rfl⟩ | ⟨y, u, rfl, rfl⟩
      · rw [key_ll] at h; exact wpAny_eqBool_int h
      · rw [key_lr] at h; exact SeqAt.EqAt.int_str i t y u _ _ _ _ h
    · rcases keyIs_shape hv with ⟨j, u, rfl, rfl⟩ | ⟨y, u, rfl, rfl⟩
      · rw [key_rl] at h; exact SeqAt.EqAt.str_int x t j u _ _ _ _ h
      · rw [key_rr] at h; exact wpAny_eqBool_str h
  «strs» := fun k x t v h => by
    rcases keyIs_shape h with ⟨i, u, rfl, e⟩ | ⟨y, u, rfl, e⟩
    · exact nomatch e
    · injection e with e1 _
      subst e1
      cases v <;> rfl

end L2

namespace L2
open PySem PySem.Spec PyProof.Rows

/-- a value, without the heap -/
inductive V where
  | non | bl (b : Bool) | int (i : Int) | str (x : Str) | byt (b : Array UInt8) | flt (b : UInt64) | ref (a : Addr) | ty (n : String)
  deriving DecidableEq

def RelV : V → Value → Prop
  | .non, u => u = Value.none
  | .bl b, u => u = Value.bool b
  | .int i, u => ∃ t, u = Value.int i t
  | .str x, u => ∃ t, u = Value.str x t
  | .byt b, u => ∃ t, u = Value.bytes b t
  | .flt b, u => ∃ t, u = Value.float b t
  | .ref a, u => u = Value.ref a
  | .ty n, u => u = Value.type n

abbrev Vals : List V → List Value → Prop := Paired RelV
theorem Vals.length {xs : List V} {us : List Value} (r : Vals xs us) : xs.length = us.length := Paired.length r
theorem Vals.get : ∀ {xs : List V} {us : List Value} {i : Nat} {x : V}, Vals xs us → xs[i]? = some x → ∃ u, us[i]? = some u ∧ RelV x u
  | _, _, _, _, .nil, e => by simp at e
  | _, _, 0, _, .cons r _, e => by simp at e; subst e; exact ⟨_, rfl, r⟩
  | _, _, i + 1, x, .cons _ t, e => by
    obtain ⟨u, h1, h2⟩ := Vals.get (i := i) (x := x) t (by simpa using e)
    exact ⟨u, by simpa using h1, h2⟩
theorem Vals.set {x : V} {u : Value} (r : RelV x u) : ∀ {xs : List V} {us : List Value} (i : Nat), Vals xs us → Vals (xs.set i x) (us.set i u)
  | _, _, _, .nil => .nil
  | _, _, 0, .cons _ t => .cons r t
  | _, _, i + 1, .cons q t => .cons q (Vals.set r i t)
theorem Vals.append : ∀ {xs ys : List V} {us ws : List Value}, Vals xs us → Vals ys ws → Vals (xs ++ ys) (us ++ ws)
  | _, _, _, _, .nil, s => s
  | _, _, _, _, .cons r t, s => .cons r (Vals.append t s)
theorem Vals.take : ∀ {xs : List V} {us : List Value} (n : Nat), Vals xs us → Vals (xs.take n) (us.take n)
  | _, _, 0, _ => .nil
  | _, _, _ + 1, .nil => .nil
  | _, _, n + 1, .cons r t => .cons r (Vals.take n t)
theorem Vals.drop : ∀ {xs : List V} {us : List Value} (n : Nat), Vals xs us → Vals (xs.drop n) (us.drop n)
  | _, _, 0, r => r
  | _, _, _ + 1, .nil => .nil
  | _, _, n + 1, .cons _ t => Vals.drop n t
theorem Vals.none_of : ∀ {xs : List V} {us : List Value} {i : Nat}, Vals xs us → xs[i]? = none → us[i]? = none := fun {xs us i} r e => by
  have h1 := r.length
  have h2 : xs.length ≤ i := List.getElem?_eq_none_iff.mp e
  exact List.getElem?_eq_none_iff.mpr (by omega)

def RelO : Option V → Option Value → Prop
  | some v, some u => RelV v u
  | none, none => True
  | _, _ => False
def KV {κ : Type} : List (κ × V) → List (κ × Value) → Prop := Paired fun (p : κ × V) (q : κ × Value) => p.1 = q.1 ∧ RelV p.2 q.2

/-- a key of a dict (00_mix): an int or a text -/
def kV : Key → V
  | .inl i => .int i
  | .inr x => .str x

/-- what stands at a tracked address -/
inductive HO where
  /-- a list -/
  | lst (xs : List V)
  /-- a tuple (never changes) -/
  | tup (xs : List V)
  /-- a dict whose keys are ints and texts; one whose keys are tuples of ints and texts (the empty one is both) -/
  | dK (kvs : List (Key × V)) | dT (kvs : List (List Key × V))
  /-- a set of ints: its members, its size -/
  | set (S : Int → Bool) (n : Nat)
  /-- an instance of the class at C, its dict at dx, its attributes -/
  | ins (C dx : Addr) (fs : List (Str × V))
  /-- the dict of the instance at x -/
  | own (x : Addr)
  /-- the dict of an exception -/
  | xd (fs : List (Str × V))
  /-- a bound method, f of x -/
  | met (f x : Addr)
  /-- a range object lo, lo + 1, .. below hi -/
  | rng (lo hi : Int)
  /-- a thing that is known to the object (the script; a dict while a loop walks it): read, never written while it is so -/
  | frz (o : Obj) (u : HO)
  /-- a code object's table -/
  | tbl (ps : Array Value)
  /-- any other thing, by what is true of its one object (a def of one's own: SetO a S n := HO.ext fun h => ..) -/
  | ext (φ : Heap → Prop)

abbrev Hp := Addr → Option HO
def upd (H : Hp) (a : Addr) (o : HO) : Hp := fun b => if b = a then some o else H b
theorem upd_same {H : Hp} {a : Addr} {o : HO} : upd H a o a = some o := by unfold upd; rw [if_pos rfl]
theorem upd_ne {H : Hp} {a b : Addr} {o : HO} (h : b ≠ a) : upd H a o b = H b := by unfold upd; rw [if_neg h]
/-- two objects of different content stand apart -/
theorem ne_of {H : Hp} {a b : Addr} {o u : HO} (h : H a = some o) (h' : H b = some u) (d : o ≠ u) : a ≠ b := by
  intro e; subst e; rw [h] at h'; exact d (Option.some.inj h')
theorem ne_of_none {H : Hp} {a b : Addr} {o : HO} (h : H a = some o) (h' : H b = none) : a ≠ b := by
  intro e; subst e; rw [h] at h'; cases h'

section
variable (P : Program) (w : World)
def ObjOk (H : Hp) (h : Heap) (a : Addr) : HO → Prop
  | .lst xs => xs.length ≤ sizeLine ∧ ∃ (its : List Value) (n : Nat), Vals xs its ∧ h.get? a = some { cls := .type "list", data := .seq its.toArray n }
  | .tup xs => xs.length ≤ sizeLine ∧ ∃ its : List Value, Vals xs its ∧ IsTup h a its.toArray
  | .dK kvs => kvs.length ≤ sizeLine ∧ (a == sysModules) = false ∧ ∃ vs, KV kvs vs ∧ h.DictOf (mixKind P w) a vs
  | .dT kvs => kvs.length ≤ sizeLine ∧ (a == sysModules) = false ∧ ∃ xs : List (List Key × Addr × Value),
      Paired (fun (p : List Key × V) (q : List Key × Addr × Value) => p.1 = q.1 ∧ H q.2.1 = some (.tup (p.1.map kV)) ∧ RelV p.2 q.2.2) kvs xs ∧
      ∃ o es ep, h.get? a = some o ∧ o.ExactDict ∧ o.data = .dict es ep ∧ es.toList = xs.map (entryOfKey (tupleKind (mixKind P w))) ∧ (xs.map (·.1)).Nodup
  | .set S n => h.SetOf (intKind P w) a S n
  | .ins C dx fs => H dx = some (.own a) ∧ fs.length ≤ 1000 ∧ dx ≠ a ∧ h.get? a = some (PySem.W.instObj C dx) ∧
      ∃ mA, h.Ns1 dx mA ∧ (∀ f, RelO (fs.lookup f) (mA f)) ∧ PySem.Within mA (fs.map (·.1))
  | .own _ => ∃ o, h.get? a = some o
  | .xd fs => ∃ mA, h.Ns1 a mA ∧ ∀ f, RelO (fs.lookup f) (mA f)
  | .rng lo hi => ∃ t u v, h.get? a = some { cls := .type "range", data := .fields #[.int lo t, .int hi u, .int 1 v] }
  | .frz o u => h.get? a = some o ∧ ObjOk H h a u
  | .tbl ps => h.get? a = some { cls := .none, data := .fields ps }
  | .met f x => h.get? a = some (PySem.W.methodObj (.ref f) (.ref x))
  | .ext φ => φ h ∧ (∃ o, h.get? a = some o) ∧ ∀ h1 h2 : Heap, φ h1 → (∀ o, h1.get? a = some o → h2.get? a = some o) → φ h2
/-- the abstract heap is held -/
def HOk (H : Hp) (h : Heap) : Prop := ∀ a o, H a = some o → ObjOk P w H h a o
end

section
variable {P : Program} {w : World} {H H' : Hp} {h h' : Heap} {a : Addr} {o : HO}
theorem ObjOk.lt (x : ObjOk P w H h a o) : a < h.objs.size := by
  cases o with
  | lst xs => obtain ⟨_, _, _, _, e⟩ := x; exact Heap.lt_size e
  | tup xs => obtain ⟨_, _, _, p⟩ := x; exact p.lt
  | dK kvs => obtain ⟨_, _, _, _, o, _, _, e, _⟩ := x; exact Heap.lt_size e
  | dT kvs => obtain ⟨_, _, _, _, o, _, _, e, _⟩ := x; exact Heap.lt_size e
  | set S n => obtain ⟨o, _, _, _, e, _⟩ := x; exact Heap.lt_size e
  | ins C dx fs => obtain ⟨_, _, _, e, _⟩ := x; exact Heap.lt_size e
  | own y => obtain ⟨_, e⟩ := x; exact Heap.lt_size e
  | xd fs => obtain ⟨_, ⟨_, _, _, e, _⟩, _⟩ := x; exact Heap.lt_size e
  | rng lo hi => obtain ⟨_, _, _, e⟩ := x; exact Heap.lt_size e
  | frz ob u => obtain ⟨e, _⟩ := x; exact Heap.lt_size e
  | tbl ps => exact Heap.lt_size (show h.get? a = some _ from x)
  | met f y => exact Heap.lt_size (show h.get? a = some _ from x)
  | ext φ => obtain ⟨_, ⟨_, e⟩, _⟩ := x; exact Heap.lt_size e
theorem Paired.mapP {α β : Type} {F G : α → β → Prop} : ∀ {l₁ : List α} {l₂ : List β}, Paired F l₁ l₂ → (∀ a b, F a b → G a b) → Paired G l₁ l₂
  | _, _, .nil, _ => .nil
  | _, _, .cons r t, f => .cons (f _ _ r) (Paired.mapP t f)
/-- what an object's description leans on: its own object, its own dict, the tuples -/
theorem ObjOk.stay (x : ObjOk P w H h a o) (k : ∀ b u, (b = a ∨ H b = some (.own a)) → h.get? b = some u → h'.get? b = some u)
    (ho : ∀ b, H b = some (.own a) → H' b = some (.own a)) (ht : ∀ b xs, H b = some (.tup xs) → H' b = some (.tup xs)) : ObjOk P w H' h' a o := by
  induction o with
  | lst xs => obtain ⟨z, its, n, r, e⟩ := x; exact ⟨z, its, n, r, k _ _ (.inl rfl) e⟩
  | tup xs => obtain ⟨z, its, r, ob, e, c⟩ := x; exact ⟨z, its, r, ob, k _ _ (.inl rfl) e, c⟩
  | dK kvs => obtain ⟨z, y, vs, r, ob, es, ep, e, c⟩ := x; exact ⟨z, y, vs, r, ob, es, ep, k _ _ (.inl rfl) e, c⟩
  | dT kvs =>
    obtain ⟨z, y, xs, r, ob, es, ep, e, c⟩ := x
    exact ⟨z, y, xs, Paired.mapP r fun p q z => ⟨z.1, ht _ _ z.2.1, z.2.2⟩, ob, es, ep, k _ _ (.inl rfl) e, c⟩
  | set S n => obtain ⟨ob, es, ep, t, e, c⟩ := x; exact ⟨ob, es, ep, t, k _ _ (.inl rfl) e, c⟩
  | ins C dx fs =>
    obtain ⟨d, z, ne, e, mA, ⟨od, es, ep, e2, c⟩, r⟩ := x
    exact ⟨ho _ d, z, ne, k _ _ (.inl rfl) e, mA, ⟨od, es, ep, k _ _ (.inr d) e2, c⟩, r⟩
  | own y => obtain ⟨ob, e⟩ := x; exact ⟨ob, k _ _ (.inl rfl) e⟩
  | xd fs => obtain ⟨mA, ⟨od, es, ep, e, c⟩, r⟩ := x; exact ⟨mA, ⟨od, es, ep, k _ _ (.inl rfl) e, c⟩, r⟩
  | rng lo hi => obtain ⟨t, u, v, e⟩ := x; exact ⟨t, u, v, k _ _ (.inl rfl) e⟩
  | frz ob u ih => obtain ⟨e, q⟩ := x; exact ⟨k _ _ (.inl rfl) e, ih q⟩
  | tbl ps =>
    have e : h.get? a = some { cls := .none, data := .fields ps } := x
    show h'.get? a = some { cls := .none, data := .fields ps }
    exact k a _ (.inl rfl) e
  | met f y =>
    have e : h.get? a = some (PySem.W.methodObj (.ref f) (.ref y)) := x
    show h'.get? a = some (PySem.W.methodObj (.ref f) (.ref y))
    exact k a _ (.inl rfl) e
  | ext φ => obtain ⟨p, ⟨o, e⟩, st⟩ := x; exact ⟨st _ _ p fun o q => k _ _ (.inl rfl) q, ⟨o, k _ _ (.inl rfl) e⟩, st⟩
theorem HOk.lt (x : HOk P w H h) (e : H a = some o) : a < h.objs.size := (x a o e).lt
theorem HOk.fresh (x : HOk P w H h) (e : h.objs.size ≤ a) : H a = none := by
  cases q : H a with
  | none => rfl
  | some u => exact absurd (Nat.lt_of_lt_of_le (x.lt q) e) (Nat.lt_irrefl _)
/-- every object of the heap is kept -/
theorem HOk.kept (x : HOk P w H h) (k : ∀ b u, h.get? b = some u → h'.get? b = some u) : HOk P w H h' := fun a o e =>
  (x a o e).stay (fun b u _ q => k b u q) (fun _ q => q) fun _ _ q => q
/-- a new object is laid and tracked -/
theorem HOk.laid (x : HOk P w H h) (k : ∀ b u, h.get? b = some u → h'.get? b = some u) (hp : h.objs.size ≤ a) (new : ObjOk P w (upd H a o) h' a o) : HOk P w (upd H a o) h' := fun b u e => by
  have hn := x.fresh hp
  by_cases hb : b = a
  · subst hb; rw [upd_same] at e; cases e; exact new
  · rw [upd_ne hb] at e
    exact (x b u e).stay (fun c v _ q => k c v q) (fun c q => by rw [upd_ne (ne_of_none q hn)]; exact q) fun c xs q => by rw [upd_ne (ne_of_none q hn)]; exact q
end

/-- what may be read as u: it is u, or a known u -/
def Rd (H : Hp) (a : Addr) (u : HO) : Prop := H a = some u ∨ ∃ o, H a = some (.frz o u)
theorem Rd.of {H : Hp} {a : Addr} {u : HO} (h : H a = some u) : Rd H a u := .inl h
theorem Rd.ok {P : Program} {w : World} {H : Hp} {h : Heap} {a : Addr} {u : HO} (r : Rd H a u) (x : HOk P w H h) : ObjOk P w H h a u := by
  rcases r with r | ⟨o, r⟩
  · exact x a u r
  · obtain ⟨_, q⟩ := x a _ r
    exact q
/-- what may be written -/
def Mut : Option HO → Prop
  | some (.lst _) => True
  | some (.dK _) => True
  | some (.dT _) => True
  | some (.set _ _) => True
  | some (.ins _ _ _) => True
  | some (.ext _) => True
  | _ => False
section
variable {P : Program} {w : World} {H : Hp} {h h' : Heap} {x e : Addr} {o' : HO}
/-- the object at e is changed: x itself, or the dict of the instance x -/
theorem HOk.write (ok : HOk P w H h) (mu : Mut (H x)) (he : e = x ∨ H e = some (.own x)) (k : ∀ b u, b ≠ e → h.get? b = some u → h'.get? b = some u) (heo : ∃ u, h'.get? e = some u)
    (new : ObjOk P w (upd H x o') h' x o') : HOk P w (upd H x o') h' := fun b u q => by
  have nown : ∀ c y, H c = some (.own y) → c ≠ x := fun c y r z => by subst z; rw [r] at mu; exact mu
  have ntup : ∀ c xs, H c = some (.tup xs) → c ≠ x := fun c xs r z => by subst z; rw [r] at mu; exact mu
  by_cases hb : b = x
  · subst hb; rw [upd_same] at q; cases q; exact new
  · rw [upd_ne hb] at q
    by_cases hbe : b = e
    · have q' : H b = some (.own x) := by
        rcases he with z | z
        · exact absurd (hbe.trans z) hb
        · rw [hbe]; exact z
      rw [q] at q'; cases q'
      obtain ⟨v, hv⟩ := heo
      exact ⟨v, by rw [hbe]; exact hv⟩
    · refine (ok b u q).stay (fun c v hc r => k c v ?_ r) (fun c r => by rw [upd_ne (nown c b r)]; exact r) fun c xs r => by rw [upd_ne (ntup c xs r)]; exact r
      rcases hc with rfl | hc
      · exact hbe
      · rintro rfl
        rcases he with z | z
        · exact nown c b hc z
        · rw [hc] at z; cases z; exact hb rfl
end

/-! ### kept unless tracked; of the frames at fs (the callers') the slots may change (an exception that passes writes there); of the records at ex (iterators) nothing is said -/
structure Un (fs ex : List Addr) (H H' : Hp) (h h' : Heap) : Prop where
  keep : ∀ b o, h.get? b = some o → H b = none → b ∉ fs → b ∉ ex → h'.get? b = some o
  slot : ∀ b o, h.get? b = some o → H b = none → b ∈ fs → b ∉ ex → ∃ sl, h'.get? b = some { o with slots := sl }
  free : ∀ b o, h.get? b = some o → H b = none → b ∉ ex → H' b = none
  there : ∀ b o, h.get? b = some o → b ∉ ex → ∃ o', h'.get? b = some o'
  tups : ∀ b xs, H b = some (.tup xs) → H' b = some (.tup xs)
  frzs : ∀ b o u, H b = some (.frz o u) → H' b = some (.frz o u)
  tbls : ∀ b ps, H b = some (.tbl ps) → ∃ more, H' b = some (.tbl (ps ++ more))
section
variable {fs fs' ex ex' : List Addr} {H H1 H2 : Hp} {h h1 h2 h' : Heap} {a x e : Addr} {o : HO}
theorem Un.any (u : Un fs ex H H1 h h1) {b : Addr} {ob : Obj} (q : h.get? b = some ob) (n : H b = none) (hx : b ∉ ex) : ∃ sl, h1.get? b = some { ob with slots := sl } := by
  by_cases hb : b ∈ fs
  · exact u.slot b ob q n hb hx
  · exact ⟨ob.slots, u.keep b ob q n hb hx⟩
theorem Un.trans (a : Un fs ex H H1 h h1) (b : Un fs ex H1 H2 h1 h2) : Un fs ex H H2 h h2 where
  keep := fun c ob q n hc hx => b.keep c ob (a.keep c ob q n hc hx) (a.free c ob q n hx) hc hx
  slot := fun c ob q n hc hx => by
    obtain ⟨sl, e1⟩ := a.slot c ob q n hc hx
    obtain ⟨sl', e2⟩ := b.slot c _ e1 (a.free c ob q n hx) hc hx
    exact ⟨sl', e2⟩
  free := fun c ob q n hx => by
    obtain ⟨o', e1⟩ := a.there c ob q hx
    exact b.free c o' e1 (a.free c ob q n hx) hx
  there := fun c ob q hx => by
    obtain ⟨o', e1⟩ := a.there c ob q hx
    exact b.there c o' e1 hx
  tups := fun c xs q => b.tups c xs (a.tups c xs q)
  frzs := fun c ob xs q => b.frzs c ob xs (a.frzs c ob xs q)
  tbls := fun c ps q => by
    obtain ⟨m1, e1⟩ := a.tbls c ps q
    obtain ⟨m2, e2⟩ := b.tbls c _ e1
    exact ⟨m1 ++ m2, by rw [e2, Array.append_assoc]⟩
theorem Un.kept (k : ∀ b u, h.get? b = some u → h'.get? b = some u) : Un fs ex H H h h' :=
  ⟨fun b ob q _ _ _ => k b ob q, fun b ob q _ _ _ => ⟨ob.slots, k b ob q⟩, fun _ _ _ n _ => n, fun b ob q _ => ⟨ob, k b ob q⟩, fun _ _ q => q, fun _ _ _ q => q, fun _ ps q => ⟨#[], by rw [q]; simp⟩⟩
theorem Un.refl : Un fs ex H H h h := Un.kept fun _ _ q => q
theorem Un.laid (k : ∀ b u, h.get? b = some u → h'.get? b = some u) (hp : h.objs.size ≤ a) (hn : H a = none) : Un fs ex H (upd H a o) h h' where
  keep := fun b u q _ _ _ => k b u q
  slot := fun b u q _ _ _ => ⟨u.slots, k b u q⟩
  free := fun b u q n _ => by rw [upd_ne (Nat.ne_of_lt (Nat.lt_of_lt_of_le (Heap.lt_size q) hp))]; exact n
  there := fun b u q _ => ⟨u, k b u q⟩
  tups := fun b xs q => by rw [upd_ne (ne_of_none q hn)]; exact q
  frzs := fun b u xs q => by rw [upd_ne (ne_of_none q hn)]; exact q
  tbls := fun b ps q => ⟨#[], by rw [upd_ne (ne_of_none q hn), q]; simp⟩
theorem Un.write (mu : Mut (H x)) (he : e = x ∨ H e = some (.own x)) (k : ∀ b u, b ≠ e → h.get? b = some u → h'.get? b = some u) (heo : ∃ u, h'.get? e = some u) : Un fs ex H (upd H x o) h h' := by
  have hx : ∀ b, H b = none → b ≠ x := fun b n z => by subst z; rw [n] at mu; exact mu
  have hb : ∀ b, H b = none → b ≠ e := fun b n z => by
    subst z
    rcases he with r | r
    · exact hx b n r
    · rw [n] at r; cases r
  have hm : ∀ b u, H b = some u → ¬ Mut (some u) → b ≠ x := fun b u q nm z => by subst z; rw [q] at mu; exact nm mu
  refine ⟨fun b u q n _ _ => k b u (hb b n) q, fun b u q n _ _ => ⟨u.slots, k b u (hb b n) q⟩, fun b u q n _ => by rw [upd_ne (hx b n)]; exact n, fun b u q _ => ?_,
    fun b xs q => by rw [upd_ne (hm b _ q fun z => z)]; exact q, fun b u xs q => by rw [upd_ne (hm b _ q fun z => z)]; exact q, fun b ps q => ⟨#[], by rw [upd_ne (hm b _ q fun z => z), q]; simp⟩⟩
  by_cases hbe : b = e
  · subst hbe; exact heo
  · exact ⟨u, k b u hbe q⟩
theorem Un.mono (u : Un fs ex H H1 h h1) (hs : ∀ b ∈ fs, b ∈ fs') (hx : ∀ b ∈ ex, b ∈ ex') : Un fs' ex' H H1 h h1 :=
  ⟨fun b ob q n hb he => u.keep b ob q n (fun z => hb (hs b z)) fun z => he (hx b z), fun _ _ q n _ he => u.any q n fun z => he (hx _ z), fun b ob q n he => u.free b ob q n fun z => he (hx b z), fun b ob q he => u.there b ob q fun z => he (hx b z), u.tups, u.frzs, u.tbls⟩
end

/-! ### the heap without what is tracked -/
def trk (h : Heap) (H : Hp) : List Addr := (List.range h.objs.size).filter fun a => (H a).isSome
def hidT (h : Heap) (H : Hp) : Heap := PySem.W.hideAll h (trk h H)
theorem hidT_size (h : Heap) (H : Hp) : (hidT h H).objs.size = h.objs.size := PySem.W.hideAll_size _ _
theorem hidT_get {h : Heap} {H : Hp} {b : Addr} {o : Obj} (e : h.get? b = some o) (n : H b = none) : (hidT h H).get? b = some o :=
  PySem.W.hideAll_get _ e fun hm => by
    have q : (H b).isSome = true := (List.mem_filter.mp hm).2
    rw [n] at q; simp at q
theorem of_hidT {h : Heap} {H : Hp} {b : Addr} {o : Obj} (e : (hidT h H).get? b = some o) : h.get? b = some o ∧ H b = none := by
  have e' : h.get? b = some o := PySem.W.of_hideAll (trk h H) e
  refine ⟨e', ?_⟩
  cases q : H b with
  | none => rfl
  | some x =>
    have hm : b ∈ trk h H := List.mem_filter.mpr ⟨List.mem_range.mpr (Heap.lt_size e'), by simp [q]⟩
    have z : (hidT h H).get? b = none := PySem.W.hideAll_none (trk h H) hm
    rw [z] at e; cases e

/-! ### OpenK's ledger, filled with every new object but one -/
def allNews (g h : Heap) (L : Addr) : List (Addr × Obj) := (List.range h.objs.size).filterMap fun a => if a = L ∨ (g.get? a).isSome = true then none else (h.get? a).map fun o => (a, o)
def rest (g h : Heap) (L d : Addr) : List (Addr × Obj) := (allNews g h L).filter fun p => decide (p.1 ≠ d)
end L2

namespace L2
open PySem PySem.Spec PyProof.Rows

/-- the module's facts, over the base: the heap at the law's entry without what is tracked there -/
structure Mod (K : PySem.W.Frag) (mg : Str → Option Value) (base : Heap) : Prop where
  kin : K.In base
  glob : base.Ns mainGlobals mg
  blt : ∃ mb, base.Ns builtinsNs mb ∧ ∀ x : Str, x ≠ "__name__" → mb x = bootBuiltins x
  nolimit : base.NoLimit

/-- the context: a def's body (or a comprehension's block) running. base: fixed through the whole law; s₀, H₀: the entry; outer: the frames whose slots others may change (a def's callers); stack: all frames that run;
   ex: iterators that were made ahead of the entry and are walked here (a comprehension's); fn: the names whose cells were made at the entry (a def: all; a comprehension's block: its own); calm: not within an except suite; pn: pins that every state bears; xe: what is wanted of an exception that leaves the code -/
structure Cx where
  prog : Program
  w : World
  K : PySem.W.Frag
  mg : Str → Option Value
  base : Heap
  A : Around
  N : List Str
  s₀ : Shared
  H₀ : Hp
  env : Env
  outer : List Env
  stack : List Env
  ex : List Addr
  fn : Str → Bool
  calm : Bool
  pn : List (Addr × Obj)
  xe : Value → Shared → Prop
/-- the callers' frames -/
def frs (l : List Env) : List Addr := l.filterMap (·.frame)
abbrev Cx.fs (X : Cx) : List Addr := frs X.outer

def Vis (sc : Scope) (x : Str) : Prop := sc.names.lookup x = some .local ∨ sc.names.lookup x = some .cell ∨ sc.names.lookup x = some .free
def Loc (sc : Scope) (x : Str) : Prop := sc.names.lookup x = some .local ∨ sc.names.lookup x = some .cell
def Look (env : Env) (h : Heap) (m : Str → Option Value) (x : Str) (u : Value) : Prop :=
  (env.kindOf x = some .local ∧ m x = some u) ∨ ((env.kindOf x = some .cell ∨ env.kindOf x = some .free) ∧ ∃ c, env.cells.lookup x = some c ∧ h.IsCell c (some u))

structure Cx.Ok (X : Cx) : Prop where
  mod : Mod X.K X.mg X.base
  kind : X.env.scope.kind = .function
  glob : X.env.globals = mainGlobals
  blt : X.env.builtins = builtinsNs
  above : X.s₀.heap.objs.size ≤ X.env.locals
  inj : ∀ x y c, X.env.cells.lookup x = some c → X.env.cells.lookup y = some c → x = y
  has : ∀ x, (X.env.kindOf x = some .cell ∨ X.env.kindOf x = some .free) → ∃ c, X.env.cells.lookup x = some c
  cab : ∀ x c, X.fn x = true → X.env.cells.lookup x = some c → X.s₀.heap.objs.size ≤ c
  hd : X.calm = true → X.A.handled = none
  frames : X.A.frames = some X.stack
  stk : X.stack = X.outer ∨ (X.stack = X.env :: X.outer ∧ X.env.frame = some X.env.locals)
  exf : ∀ b ∈ X.ex, b ≠ X.env.locals ∧ ∀ x c, X.env.cells.lookup x = some c → c ≠ b
  bs : ∀ b o, X.base.get? b = some o → X.s₀.heap.get? b = some o ∧ X.H₀ b = none
  bsz : X.base.objs.size ≤ X.s₀.heap.objs.size
  noex : ∀ b o, X.base.get? b = some o → b ∉ X.ex
  exfs : ∀ b ∈ X.ex, b ∉ X.fs
  funs : X.s₀.heap.FunFrames X.base X.outer
  frf : ∀ b ∈ X.fs, X.H₀ b = none

structure Inv (X : Cx) (pins : List (Addr × Obj)) (σ : List (Option V)) (H : Hp) (s : Shared) : Prop where
  ok : X.Ok
  os : s.os = X.s₀.os
  bare : AllBare s.gens
  base : Un X.fs X.ex X.H₀ H X.s₀.heap s.heap
  loc : ∃ m, s.heap.Ns X.env.locals m ∧ ∀ (i : Nat) (x : Str) (v : V), X.N[i]? = some x → σ[i]? = some (some v) → Vis X.env.scope x → ∃ u, RelV v u ∧ Look X.env s.heap m x u
  cell : ∀ x c, X.env.cells.lookup x = some c → ∃ v, s.heap.IsCell c v
  free : H X.env.locals = none
  freeC : ∀ x c, X.env.cells.lookup x = some c → H c = none
  pin : ∀ p ∈ X.pn ++ pins, s.heap.get? p.1 = some p.2 ∧ H p.1 = none ∧ p.1 ≠ X.env.locals ∧ p.1 ∉ X.fs ∧ ∀ v, p.2.data ≠ .cell v
  hok : HOk X.prog X.w H s.heap
  len : σ.length = X.N.length

section
variable {X : Cx} {pins : List (Addr × Obj)} {σ : List (Option V)} {H H' : Hp} {s : Shared} {h' : Heap}

theorem Cx.Ok.nofr (ok : X.Ok) {b : Addr} {o : Obj} (e : X.base.get? b = some o) : b ∉ X.fs := fun hb => by
  have := (ok.funs.mem hb).1
  rw [e] at this; cases this
theorem Inv.bs (I : Inv X pins σ H s) : ∀ b o, X.base.get? b = some o → s.heap.get? b = some o ∧ H b = none := fun b o e =>
  ⟨I.base.keep b o (I.ok.bs b o e).1 (I.ok.bs b o e).2 (I.ok.nofr e) (I.ok.noex b o e), I.base.free b o (I.ok.bs b o e).1 (I.ok.bs b o e).2 (I.ok.noex b o e)⟩
theorem Inv.bk (I : Inv X pins σ H s) : ∀ b o, X.base.get? b = some o → s.heap.get? b = some o := fun b o e => (I.bs b o e).1
theorem Inv.mod (I : Inv X pins σ H s) : Mod X.K X.mg X.base := I.ok.mod
theorem Inv.kIn (I : Inv X pins σ H s) : X.K.In s.heap := I.ok.mod.kin.keeps I.bk
theorem Inv.nolimit (I : Inv X pins σ H s) : s.heap.NoLimit := I.ok.mod.nolimit.keeps I.bk
/-- the frame over the base: for OpenK's rules (K.In X.base is I.mod.kin) -/
theorem Inv.fr (I : Inv X pins σ H s) : ∃ m, Fr X.base X.env.locals s.heap m :=
  let ⟨m, hn, _⟩ := I.loc
  ⟨m, hn, I.bk, Nat.le_trans I.ok.bsz I.ok.above⟩
theorem Inv.lt (I : Inv X pins σ H s) : X.env.locals < s.heap.objs.size := let ⟨_, hn, _⟩ := I.loc; hn.lt
theorem Inv.sz (I : Inv X pins σ H s) : X.s₀.heap.objs.size ≤ s.heap.objs.size := Nat.le_trans I.ok.above (Nat.le_of_lt I.lt)
theorem Inv.nofs (I : Inv X pins σ H s) {a : Addr} (h : s.heap.objs.size ≤ a) : a ∉ X.fs := fun hb => by
  obtain ⟨_, o, ho, _⟩ := I.ok.funs.mem hb
  exact absurd (Nat.lt_of_lt_of_le (Heap.lt_size ho) (Nat.le_trans I.sz h)) (Nat.lt_irrefl _)
theorem Inv.cne (I : Inv X pins σ H s) : ∀ x c, X.env.cells.lookup x = some c → c ≠ X.env.locals := fun x c e z => by
  obtain ⟨v, o, ho, hd⟩ := I.cell x c e
  obtain ⟨m, ⟨o', es, ep, ho', hd', _⟩, _⟩ := I.loc
  rw [z, ho'] at ho; cases ho; rw [hd'] at hd; cases hd
theorem Inv.funs (I : Inv X pins σ H s) : s.heap.FunFrames X.base X.outer := by
  have all : ∀ (l : List Env), (∀ b ∈ frs l, b ∈ X.fs) → X.s₀.heap.FunFrames X.base l → s.heap.FunFrames X.base l := by
    intro l
    induction l with
    | nil => intro _ _; trivial
    | cons env r ih =>
      intro hs hl
      obtain ⟨hk, ⟨L, o, hf, hn, ho, hd⟩, hr⟩ := hl
      have hL : L ∈ X.fs := hs L (by unfold frs; rw [List.filterMap_cons, hf]; exact List.mem_cons_self)
      obtain ⟨sl, e⟩ := I.base.slot L o ho (I.ok.frf L hL) hL fun z => I.ok.exfs L z hL
      exact ⟨hk, ⟨L, _, hf, hn, e, hd⟩, ih (fun b hb => hs b (by unfold frs; rw [List.filterMap_cons, hf]; exact List.mem_cons_of_mem _ hb)) hr⟩
  exact all X.outer (fun _ hb => hb) I.ok.funs

/-- the frames that run, for a call -/
theorem Inv.stack (I : Inv X pins σ H s) : s.heap.FunFrames X.base X.stack := by
  rcases I.ok.stk with e | ⟨e, hf⟩
  · rw [e]; exact I.funs
  · rw [e]
    obtain ⟨m, hn, _⟩ := I.loc
    refine .cons (by rw [I.ok.kind]; decide) hf hn ?_ I.funs
    exact Heap.get?_none_of_le (Nat.le_trans I.ok.bsz I.ok.above)
theorem Inv.stkSub (I : Inv X pins σ H s) : ∀ b ∈ frs X.stack, b ∈ X.env.locals :: X.fs := fun b hb => by
  rcases I.ok.stk with e | ⟨e, hf⟩
  · rw [e] at hb; exact List.mem_cons_of_mem _ hb
  · rw [e] at hb
    unfold frs at hb
    rw [List.filterMap_cons, hf] at hb
    exact hb
theorem Inv.stkFree (I : Inv X pins σ H s) : ∀ b ∈ frs X.stack, H b = none := fun b hb => by
  rcases List.mem_cons.mp (I.stkSub b hb) with e | hb
  · rw [e]; exact I.free
  · obtain ⟨_, o, ho, _⟩ := I.ok.funs.mem hb
    exact I.base.free b o ho (I.ok.frf b hb) fun z => I.ok.exfs b z hb

/-- THE STEP: the untracked objects but the frame and the records at ch are kept (the callers' frames up to slots), the frame's map is kept, the new abstract heap is held -/
theorem Inv.step {g' : Array GenState} {t' : Nat} {d' : Drawn} {ch : List Addr} (I : Inv X pins σ H s)
    (hch : ∀ b ∈ ch, (b ∈ X.ex ∨ X.s₀.heap.objs.size ≤ b) ∧ b ≠ X.env.locals ∧ (∀ x c, X.env.cells.lookup x = some c → c ≠ b) ∧ ∀ p ∈ X.pn ++ pins, p.1 ≠ b)
    (keep : ∀ b o, b ≠ X.env.locals → b ∉ X.fs → b ∉ ch → s.heap.get? b = some o → H b = none → h'.get? b = some o)
    (slot : ∀ b o, b ≠ X.env.locals → b ∈ X.fs → b ∉ ch → s.heap.get? b = some o → H b = none → ∃ sl, h'.get? b = some { o with slots := sl }) (free : ∀ b o, b ∉ ch → s.heap.get? b = some o → H b = none → H' b = none)
    (there : ∀ b o, b ∉ ch → s.heap.get? b = some o → ∃ o', h'.get? b = some o')
    (tups : ∀ b xs, H b = some (.tup xs) → H' b = some (.tup xs)) (frzs : ∀ b o u, H b = some (.frz o u) → H' b = some (.frz o u)) (tbls : ∀ b ps, H b = some (.tbl ps) → ∃ more, H' b = some (.tbl (ps ++ more)))
    (ns : ∀ m, s.heap.Ns X.env.locals m → h'.Ns X.env.locals m) (hok : HOk X.prog X.w H' h') (hg : AllBare g') :
    Inv X pins σ H' { s with heap := h', gens := g', drawn := d', toks := t' } := by
  have neL : ∀ b o, X.s₀.heap.get? b = some o → b ≠ X.env.locals := fun b o e => Nat.ne_of_lt (Nat.lt_of_lt_of_le (Heap.lt_size e) I.ok.above)
  have neC : ∀ b o, X.s₀.heap.get? b = some o → b ∉ X.ex → b ∉ ch := fun b o e hx hb => by
    rcases (hch b hb).1 with z | z
    · exact hx z
    · exact absurd (Nat.lt_of_lt_of_le (Heap.lt_size e) z) (Nat.lt_irrefl _)
  have cellK : ∀ x c, X.env.cells.lookup x = some c → ∀ v, s.heap.IsCell c v → h'.IsCell c v := fun x c e v ⟨o, ho, hd⟩ => by
    have nch : c ∉ ch := fun z => (hch c z).2.2.1 x c e rfl
    by_cases hc : c ∈ X.fs
    · obtain ⟨sl, q⟩ := slot c o (I.cne x c e) hc nch ho (I.freeC x c e)
      exact ⟨_, q, hd⟩
    · exact ⟨o, keep c o (I.cne x c e) hc nch ho (I.freeC x c e), hd⟩
  refine ⟨I.ok, I.os, hg, ⟨fun b o e n hb hx => ?_, fun b o e n hb hx => ?_, fun b o e n hx => ?_, fun b o e hx => ?_, fun b xs e => tups b xs (I.base.tups b xs e), fun b o xs e => frzs b o xs (I.base.frzs b o xs e), fun b ps e => ?_⟩, ?_, fun x c e => ?_, ?_, fun x c e => ?_, fun p hp => ?_, hok, I.len⟩
  · exact keep b o (neL b o e) hb (neC b o e hx) (I.base.keep b o e n hb hx) (I.base.free b o e n hx)
  · obtain ⟨sl, e1⟩ := I.base.slot b o e n hb hx
    obtain ⟨sl', e2⟩ := slot b _ (neL b o e) hb (neC b o e hx) e1 (I.base.free b o e n hx)
    exact ⟨sl', e2⟩
  · obtain ⟨o', e1⟩ := I.base.there b o e hx
    exact free b o' (neC b o e hx) e1 (I.base.free b o e n hx)
  · obtain ⟨o', e1⟩ := I.base.there b o e hx
    exact there b o' (neC b o e hx) e1
  · obtain ⟨m1, e1⟩ := I.base.tbls b ps e
    obtain ⟨m2, e2⟩ := tbls b _ e1
    exact ⟨m1 ++ m2, by rw [e2, Array.append_assoc]⟩
  · obtain ⟨m, hn, hl⟩ := I.loc
    refine ⟨m, ns m hn, fun i x v e1 e2 e3 => ?_⟩
    obtain ⟨u, r, l⟩ := hl i x v e1 e2 e3
    refine ⟨u, r, ?_⟩
    rcases l with l | ⟨k, c, e, z⟩
    · exact .inl l
    · exact .inr ⟨k, c, e, cellK x c e _ z⟩
  · obtain ⟨v, z⟩ := I.cell x c e
    exact ⟨v, cellK x c e v z⟩
  · obtain ⟨m, ⟨o, _, _, ho, _⟩, _⟩ := I.loc
    exact free _ o (fun z => (hch _ z).2.1 rfl) ho I.free
  · obtain ⟨v, o, ho, hd⟩ := I.cell x c e
    exact free c o (fun z => (hch c z).2.2.1 x c e rfl) ho (I.freeC x c e)
  · obtain ⟨e, n, ne, nf, d⟩ := I.pin p hp
    have nch : p.1 ∉ ch := fun z => (hch p.1 z).2.2.2 p hp rfl
    exact ⟨keep p.1 p.2 ne nf nch e n, free p.1 p.2 nch e n, ne, nf, d⟩
/-- .. where the frame's own object is kept too -/
theorem Inv.un {t' : Nat} (I : Inv X pins σ H s) (u : Un X.fs [] H H' s.heap h') (hok : HOk X.prog X.w H' h') : Inv X pins σ H' { s with heap := h', toks := t' } := by
  obtain ⟨m, ⟨o, es, ep, ho, r⟩, _⟩ := id I.loc
  obtain ⟨sl, hL⟩ := u.any ho I.free (by simp)
  exact I.step (g' := s.gens) (d' := s.drawn) (ch := []) (fun _ z => nomatch z) (fun b o _ hb _ e n => u.keep b o e n hb (by simp)) (fun b o _ hb _ e n => u.slot b o e n hb (by simp)) (fun b o _ e n => u.free b o e n (by simp)) (fun b o _ e => u.there b o e (by simp)) u.tups u.frzs u.tbls (fun m' hm => by
    obtain ⟨o', es', ep', ho', r'⟩ := hm
    rw [ho] at ho'; cases ho'
    exact ⟨_, es', ep', hL, r'⟩) hok I.bare
/-- behind a call (or a comprehension's block): the slots of this frame may have changed too, the records at ch may have turned -/
theorem Inv.call {g' : Array GenState} {t' : Nat} {d' : Drawn} {ch : List Addr} (I : Inv X pins σ H s) (u : Un (frs X.stack) ch H H' s.heap h') (hok : HOk X.prog X.w H' h') (hg : AllBare g')
    (hch : ∀ b ∈ ch, (b ∈ X.ex ∨ X.s₀.heap.objs.size ≤ b) ∧ b ≠ X.env.locals ∧ (∀ x c, X.env.cells.lookup x = some c → c ≠ b) ∧ ∀ p ∈ X.pn ++ pins, p.1 ≠ b) :
    Inv X pins σ H' { s with heap := h', gens := g', drawn := d', toks := t' } := by
  obtain ⟨m, ⟨o, es, ep, ho, r⟩, _⟩ := id I.loc
  obtain ⟨sl, hL⟩ := u.any ho I.free fun z => (hch _ z).2.1 rfl
  exact I.step (ch := ch) hch (fun b o hL hb hc e n => u.keep b o e n (fun z => (List.mem_cons.mp (I.stkSub b z)).elim hL hb) hc) (fun b o _ _ hc e n => u.any e n hc) (fun b o hc e n => u.free b o e n hc) (fun b o hc e => u.there b o e hc) u.tups u.frzs u.tbls (fun m' hm => by
    obtain ⟨o', es', ep', ho', r'⟩ := hm
    rw [ho] at ho'; cases ho'
    exact ⟨_, es', ep', hL, r'⟩) hok hg
/-- an untracked record of ours (an iterator) has turned -/
theorem Inv.turned {t' : Nat} {it : Addr} (I : Inv X pins σ H s) (k : ∀ b o, b ≠ it → s.heap.get? b = some o → h'.get? b = some o) (hn : H it = none) (hL : it ≠ X.env.locals)
    (h1 : it ∈ X.ex ∨ X.s₀.heap.objs.size ≤ it) (h2 : ∀ x c, X.env.cells.lookup x = some c → c ≠ it) (h3 : ∀ p ∈ X.pn ++ pins, p.1 ≠ it) : Inv X pins σ H { s with heap := h', toks := t' } := by
  have nit : ∀ b u, H b = some u → b ≠ it := fun b u e z => by rw [z, hn] at e; cases e
  refine I.step (g' := s.gens) (d' := s.drawn) (ch := [it]) (fun b hb => ?_) (fun b o _ _ hc e _ => k b o (fun z => hc (by simp [z])) e) (fun b o _ _ hc e _ => ⟨o.slots, k b o (fun z => hc (by simp [z])) e⟩) (fun _ _ _ _ n => n)
    (fun b o hc e => ⟨o, k b o (fun z => hc (by simp [z])) e⟩) (fun _ _ e => e) (fun _ _ _ e => e) (fun b ps e => ⟨#[], by rw [e]; simp⟩) (fun m hm => ?_) (fun b u e => ?_) I.bare
  · have e : b = it := by simpa using hb
    subst e
    exact ⟨h1, hL, h2, h3⟩
  · obtain ⟨o, es, ep, ho, r⟩ := hm
    exact ⟨o, es, ep, k _ o (Ne.symm hL) ho, r⟩
  · refine (I.hok b u e).stay (fun c v hc q => k c v ?_ q) (fun _ q => q) fun _ _ q => q
    rcases hc with z | z
    · rw [z]; exact nit b u e
    · exact nit c _ z
theorem Inv.tok (I : Inv X pins σ H s) (t : Nat) : Inv X pins σ H { s with toks := t } := I.un (h' := s.heap) (t' := t) Un.refl I.hok
/-- all objects kept -/
theorem Inv.kept {t' : Nat} (I : Inv X pins σ H s) (k : ∀ b u, s.heap.get? b = some u → h'.get? b = some u) : Inv X pins σ H { s with heap := h', toks := t' } := I.un (Un.kept k) (I.hok.kept k)
/-- a new object laid and tracked -/
theorem Inv.laid {a : Addr} {o : HO} {t' : Nat} (I : Inv X pins σ H s) (k : ∀ b u, s.heap.get? b = some u → h'.get? b = some u) (hp : s.heap.objs.size ≤ a) (new : ObjOk X.prog X.w (upd H a o) h' a o) :
    Inv X pins σ (upd H a o) { s with heap := h', toks := t' } := I.un (Un.laid k hp (I.hok.fresh hp)) (I.hok.laid k hp new)
/-- an object written -/
theorem Inv.write {x e : Addr} {o : HO} {t' : Nat} (I : Inv X pins σ H s) (mu : Mut (H x)) (he : e = x ∨ H e = some (.own x)) (k : ∀ b u, b ≠ e → s.heap.get? b = some u → h'.get? b = some u) (heo : ∃ u, h'.get? e = some u)
    (new : ObjOk X.prog X.w (upd H x o) h' x o) : Inv X pins σ (upd H x o) { s with heap := h', toks := t' } := I.un (Un.write mu he k heo) (I.hok.write mu he k heo new)
theorem Inv.pins_of {pins' : List (Addr × Obj)} (I : Inv X pins σ H s) (h : ∀ p ∈ pins', s.heap.get? p.1 = some p.2 ∧ H p.1 = none ∧ p.1 ≠ X.env.locals ∧ p.1 ∉ X.fs ∧ ∀ v, p.2.data ≠ .cell v) : Inv X pins' σ H s :=
  ⟨I.ok, I.os, I.bare, I.base, I.loc, I.cell, I.free, I.freeC, fun p hp => (List.mem_append.mp hp).elim (fun z => I.pin p (List.mem_append_left _ z)) (h p), I.hok, I.len⟩

theorem nodup_ix {N : List Str} (hN : N.Nodup) {i j : Nat} {x : Str} (a : N[i]? = some x) (b : N[j]? = some x) : i = j := by
  obtain ⟨h1, e1⟩ := List.getElem?_eq_some_iff.mp a
  obtain ⟨h2, e2⟩ := List.getElem?_eq_some_iff.mp b
  exact (List.getElem_inj hN).mp (e1.trans e2.symm)

/-- a name is stored; what changed -/
theorem store_ok2 {M : Model} {A : Around} {E : Value → Shared → Prop} {i : Nat} {x : Str} {v : V} {u : Value} {Q : Unit → Shared → Prop} (I : Inv X pins σ H s) (hN : X.N.Nodup) (hi : X.N[i]? = some x) (hx : Loc X.env.scope x) (r : RelV v u)
    (h : ∀ s', Inv X pins (σ.set i (some v)) H s' → (∃ a, Heap.SameBut a s.heap s'.heap ∧ (a = X.env.locals ∨ X.env.cells.lookup x = some a)) → Q () s') (hf : X.fn x = true ∨ X.env.scope.names.lookup x = some .local := by first | exact .inl rfl | exact .inr rfl | assumption) : wpAny M A (storeName X.env x u) Q E s := by
  obtain ⟨m, hn, hl⟩ := id I.loc
  have hcls : (X.env.scope.kind == .class || (X.env.scope.kind == .module && X.env.locals != X.env.globals)) = false := by rw [I.ok.kind]; rfl
  have hiσ : i < σ.length := by rw [I.len]; exact (List.getElem?_eq_some_iff.mp hi).1
  have cne := I.cne
  have tracked : ∀ {a : Addr} {h' : Heap}, (∃ o, s.heap.get? a = some o ∧ H a = none) → Heap.SameBut a s.heap h' → HOk X.prog X.w H h' := fun {a h'} ha hs b ob e => by
    obtain ⟨_, _, hfree⟩ := ha
    refine (I.hok b ob e).stay (fun c w' hc q => (hs.2 c ?_).trans q) (fun _ q => q) fun _ _ q => q
    rintro rfl
    rcases hc with rfl | hc
    · rw [hfree] at e; cases e
    · rw [hfree] at hc; cases hc
  rcases hx with hk | hk
  · refine wpAny_storeName_local hk hn (fun h' hn' hs => ?_) hcls
    obtain ⟨oL, _, _, hoL, _⟩ := id hn
    refine h _ ⟨I.ok, I.os, I.bare, ⟨fun b o e n hb hx => ?_, fun b o e n hb hx => ?_, I.base.free, fun b o e hx => ?_, I.base.tups, I.base.frzs, I.base.tbls⟩, ⟨_, hn', fun j y v' e1 e2 e3 => ?_⟩, fun y c e => ?_, I.free, I.freeC, fun p hp => ?_, tracked ⟨oL, hoL, I.free⟩ hs, by simpa using I.len⟩ ⟨_, hs, .inl rfl⟩
    · exact (hs.2 b (Nat.ne_of_lt (Nat.lt_of_lt_of_le (Heap.lt_size e) I.ok.above))).trans (I.base.keep b o e n hb hx)
    · obtain ⟨sl, e1⟩ := I.base.slot b o e n hb hx
      exact ⟨sl, (hs.2 b (Nat.ne_of_lt (Nat.lt_of_lt_of_le (Heap.lt_size e) I.ok.above))).trans e1⟩
    · obtain ⟨o', e1⟩ := I.base.there b o e hx
      exact ⟨o', (hs.2 b (Nat.ne_of_lt (Nat.lt_of_lt_of_le (Heap.lt_size e) I.ok.above))).trans e1⟩
    · by_cases hj : j = i
      · subst hj
        rw [hi] at e1; cases e1
        rw [List.getElem?_set_self hiσ] at e2
        cases e2
        exact ⟨u, r, .inl ⟨hk, by simp⟩⟩
      · rw [List.getElem?_set_ne (Ne.symm hj)] at e2
        obtain ⟨u', r', q⟩ := hl j y v' e1 e2 e3
        refine ⟨u', r', ?_⟩
        rcases q with ⟨k, e⟩ | ⟨k, c, e, z⟩
        · refine .inl ⟨k, ?_⟩
          have : y ≠ x := fun e => hj (nodup_ix hN e1 (e ▸ hi))
          simp [this, e]
        · exact .inr ⟨k, c, e, z.sameBut hs (cne y c e)⟩
    · obtain ⟨w', z⟩ := I.cell y c e
      exact ⟨w', z.sameBut hs (cne y c e)⟩
    · obtain ⟨e, n, ne, nf, d⟩ := I.pin p hp
      exact ⟨(hs.2 p.1 ne).trans e, n, ne, nf, d⟩
  · have hfn : X.fn x = true := by
      rcases hf with z | z
      · exact z
      · rw [z] at hk; cases hk
    obtain ⟨c, hc⟩ := I.ok.has x (.inl hk)
    obtain ⟨w', z⟩ := I.cell x c hc
    refine wpAny_storeName_cell I.ok.kind hk hc z (fun h' hc' hs => ?_)
    obtain ⟨oc, hoc, hocd⟩ := id z
    refine h { s with heap := h' } ⟨I.ok, I.os, I.bare, ⟨fun b o e n hb hx => ?_, fun b o e n hb hx => ?_, I.base.free, fun b o e hx => ?_, I.base.tups, I.base.frzs, I.base.tbls⟩, ⟨m, hn.sameBut hs (Ne.symm (cne x c hc)), fun j y v' e1 e2 e3 => ?_⟩, fun y c' e => ?_, I.free, I.freeC, fun p hp => ?_, tracked ⟨oc, hoc, I.freeC x c hc⟩ hs, by simpa using I.len⟩ ⟨c, hs, .inr hc⟩
    · exact (hs.2 b (Nat.ne_of_lt (Nat.lt_of_lt_of_le (Heap.lt_size e) (I.ok.cab x c hfn hc)))).trans (I.base.keep b o e n hb hx)
    · obtain ⟨sl, e1⟩ := I.base.slot b o e n hb hx
      exact ⟨sl, (hs.2 b (Nat.ne_of_lt (Nat.lt_of_lt_of_le (Heap.lt_size e) (I.ok.cab x c hfn hc)))).trans e1⟩
    · obtain ⟨o', e1⟩ := I.base.there b o e hx
      exact ⟨o', (hs.2 b (Nat.ne_of_lt (Nat.lt_of_lt_of_le (Heap.lt_size e) (I.ok.cab x c hfn hc)))).trans e1⟩
    · by_cases hj : j = i
      · subst hj
        rw [hi] at e1; cases e1
        rw [List.getElem?_set_self hiσ] at e2
        cases e2
        exact ⟨u, r, .inr ⟨.inl hk, c, hc, hc'⟩⟩
      · rw [List.getElem?_set_ne (Ne.symm hj)] at e2
        obtain ⟨u', r', q⟩ := hl j y v' e1 e2 e3
        refine ⟨u', r', ?_⟩
        rcases q with q | ⟨k, c', e, z'⟩
        · exact .inl q
        · refine .inr ⟨k, c', e, z'.sameBut hs ?_⟩
          rintro rfl
          exact hj (nodup_ix hN e1 (I.ok.inj _ _ _ e hc ▸ hi))
    · by_cases hcc : c' = c
      · subst hcc; exact ⟨_, hc'⟩
      · obtain ⟨w2, z2⟩ := I.cell y c' e
        exact ⟨w2, z2.sameBut hs hcc⟩
    · obtain ⟨e, n, ne, nf, d⟩ := I.pin p hp
      refine ⟨(hs.2 p.1 ?_).trans e, n, ne, nf, d⟩
      intro q
      rw [q, hoc] at e
      have q' : oc = p.2 := Option.some.inj e
      exact d w' (by rw [← q']; exact hocd)
theorem store_ok {M : Model} {A : Around} {E : Value → Shared → Prop} {i : Nat} {x : Str} {v : V} {u : Value} {Q : Unit → Shared → Prop} (I : Inv X pins σ H s) (hN : X.N.Nodup) (hi : X.N[i]? = some x) (hx : Loc X.env.scope x) (r : RelV v u)
    (h : ∀ s', Inv X pins (σ.set i (some v)) H s' → Q () s') (hf : X.fn x = true ∨ X.env.scope.names.lookup x = some .local := by first | exact .inl rfl | exact .inr rfl | assumption) : wpAny M A (storeName X.env x u) Q E s :=
  store_ok2 I hN hi hx r (fun s' I' _ => h s' I') hf
/-- behind a call or a block, the state as it is -/
theorem Inv.call' {s' : Shared} {ch : List Addr} (I : Inv X pins σ H s) (ho : s'.os = s.os) (u : Un (frs X.stack) ch H H' s.heap s'.heap) (hok : HOk X.prog X.w H' s'.heap) (hg : AllBare s'.gens)
    (hch : ∀ b ∈ ch, (b ∈ X.ex ∨ X.s₀.heap.objs.size ≤ b) ∧ b ≠ X.env.locals ∧ (∀ x c, X.env.cells.lookup x = some c → c ≠ b) ∧ ∀ p ∈ X.pn ++ pins, p.1 ≠ b) : Inv X pins σ H' s' := by
  obtain ⟨h', g', d', t', o'⟩ := s'
  have e : o' = s.os := ho
  subst e
  exact I.call (g' := g') (t' := t') (d' := d') u hok hg hch
end

/-! ### the judgements -/
/-- an exception: its class, its own dict's address (where it has one), the abstract heap behind it -/
abbrev XK := Value → Option Addr → Hp → Prop
abbrev St := List (Option V)
abbrev VK := V → Hp → Prop
/-- an expression's reading; a test's; an argument list's -/
abbrev TE := St → Hp → VK → Prop
abbrev TT := St → Hp → (Bool → Hp → Prop) → Prop
abbrev TA := St → Hp → (List V → Hp → Prop) → Prop
/-- what is wanted behind a statement -/
structure Ends where
  nx : St → Hp → Prop
  rt : VK
  bk : St → Hp → Prop := fun _ _ => False
  ct : St → Hp → Prop := fun _ _ => False
abbrev TS := Ends → St → Hp → Prop

def EP (X : Cx) (pins : List (Addr × Obj)) (σ : St) (Q : VK) (u : Value) (s' : Shared) : Prop := ∃ v H', Inv X pins σ H' s' ∧ RelV v u ∧ Q v H'
def TP (X : Cx) (pins : List (Addr × Obj)) (σ : St) (Q : Bool → Hp → Prop) (b : Bool) (s' : Shared) : Prop := ∃ H', Inv X pins σ H' s' ∧ Q b H'
def AP (X : Cx) (pins : List (Addr × Obj)) (σ : St) (Q : List V → Hp → Prop) (us : List Value) (s' : Shared) : Prop := ∃ vs H', Inv X pins σ H' s' ∧ Vals vs us ∧ Q vs H'
def SP (X : Cx) (pins : List (Addr × Obj)) (D : Ends) (f : Flow) (s' : Shared) : Prop :=
  match f with
  | .next => ∃ σ' H', Inv X pins σ' H' s' ∧ D.nx σ' H'
  | .brk => ∃ σ' H', Inv X pins σ' H' s' ∧ D.bk σ' H'
  | .cont => ∃ σ' H', Inv X pins σ' H' s' ∧ D.ct σ' H'
  | .ret u => ∃ v σ' H', Inv X pins σ' H' s' ∧ RelV v u ∧ D.rt v H'

def PE (X : Cx) (e : Expr) (t : TE) : Prop :=
  ∀ (pins : List (Addr × Obj)) (s : Shared) (σ : St) (H : Hp) (Q : VK), Inv X pins σ H s → t σ H Q → wpAny (model X.prog X.w) X.A (eval e X.env) (EP X pins σ Q) X.xe s
def PT (X : Cx) (e : Expr) (t : TT) : Prop :=
  ∀ (pins : List (Addr × Obj)) (s : Shared) (σ : St) (H : Hp) (Q : Bool → Hp → Prop), Inv X pins σ H s → t σ H Q → wpAny (model X.prog X.w) X.A (isTrue e X.env (eval e X.env)) (TP X pins σ Q) X.xe s
/-- a test whatever its 'whole' is (and, or) -/
def PW (X : Cx) (e : Expr) (t : TT) : Prop :=
  ∀ (whole : Sem Value) (pins : List (Addr × Obj)) (s : Shared) (σ : St) (H : Hp) (Q : Bool → Hp → Prop), Inv X pins σ H s → t σ H Q → wpAny (model X.prog X.w) X.A (isTrue e X.env whole) (TP X pins σ Q) X.xe s
theorem PW.pt {X : Cx} {e : Expr} {t : TT} (h : PW X e t) : PT X e t := h _
/-- an argument list (no star), from the left -/
def PA (X : Cx) (es : List Expr) (t : TA) : Prop :=
  ∀ (pos : Pos) (pins : List (Addr × Obj)) (s : Shared) (σ : St) (H : Hp) (Q : List V → Hp → Prop), Inv X pins σ H s → t σ H Q → wpAny (model X.prog X.w) X.A (spliced (backTo pos (starEach es X.env))) (AP X pins σ Q) X.xe s
def PS (X : Cx) (st : Stmt) (t : TS) : Prop :=
  ∀ (pins : List (Addr × Obj)) (s : Shared) (σ : St) (H : Hp) (D : Ends), Inv X pins σ H s → t D σ H → wpAny (model X.prog X.w) X.A (exec st X.env) (SP X pins D) X.xe s
def PSs (X : Cx) (st : List Stmt) (t : TS) : Prop :=
  ∀ (pins : List (Addr × Obj)) (s : Shared) (σ : St) (H : Hp) (D : Ends), Inv X pins σ H s → t D σ H → wpAny (model X.prog X.w) X.A (execs st X.env) (SP X pins D) X.xe s
/-- weaken the end -/
theorem thn {α : Type} {t : Sem α} {Q Q' : α → Shared → Prop} {M : Model} {A : Around} {E : Value → Shared → Prop} {s : Shared} (h : wpAny M A t Q E s) (hQ : ∀ a s, Q a s → Q' a s) : wpAny M A t Q' E s := wpAny_mono h hQ fun _ _ x => x
end L2

namespace L2
open PySem PySem.Spec PyProof.Rows
section
variable {X : Cx}

/-! ### names and constants -/
def tVar (i : Nat) : TE := fun σ H Q => ∃ v, σ[i]? = some (some v) ∧ Q v H
def tC (v : V) : TE := fun _ H Q => Q v H
theorem pe_var {i : Nat} {x : Str} {pos : Pos} (hN : X.N[i]? = some x) (hv : Vis X.env.scope x) (hd : (x == ("__debug__" : Str)) = false := by decide) (hcd : (x == ("__classdict__" : Str)) = false := by decide) : PE X (.Name x pos) (tVar i) := by
  intro pins s σ H Q I h
  obtain ⟨v, e, h⟩ := h
  obtain ⟨m, hn, hl⟩ := I.loc
  obtain ⟨u, r, l⟩ := hl i x v hN e hv
  have fin : EP X pins σ Q u s := ⟨v, H, I, r, h⟩
  rcases l with ⟨hk, hm⟩ | ⟨hk, c, hc, hcell⟩
  · exact wpAny_Name (wpAny_loadName_local I.ok.kind hk hn hm fin) hd
  · rcases hk with hk | hk
    · exact wpAny_Name (wpAny_loadName_cell I.ok.kind hk hc hcell fin) hd
    · exact wpAny_Name (wpAny_loadName_free I.ok.kind hk hc hcell fin hcd) hd
theorem pe_int {i j pos} : PE X (.Constant (.int i) j pos) (tC (.int i)) := fun _ _ _ H _ I h => wpAny_Constant_int ⟨.int i, H, I.tok _, ⟨_, rfl⟩, h⟩
theorem pe_bl {b j pos} : PE X (.Constant (.bool b) j pos) (tC (.bl b)) := fun _ _ _ H _ I h => Constant_bool ⟨.bl b, H, I, rfl, h⟩
theorem pe_non {j pos} : PE X (.Constant .none j pos) (tC .non) := fun _ _ _ H _ I h => Constant_none ⟨.non, H, I, rfl, h⟩
theorem pe_str {x j pos} : PE X (.Constant (.str x) j pos) (tC (.str x)) := fun _ _ _ H _ I h => Calls.Constant_str ⟨.str x, H, I.tok _, ⟨_, rfl⟩, h⟩

/-- a global name of the def -/
def Gl (X : Cx) (x : Str) : Prop := X.env.kindOf x = some .globalImplicit
theorem ld_glob {E : Value → Shared → Prop} {pins : List (Addr × Obj)} {s : Shared} {σ : St} {H : Hp} {x : Str} {u : Value} {pos : Pos} {Q : Value → Shared → Prop} (I : Inv X pins σ H s) (hg : Gl X x) (hm : X.mg x = some u) (h : Q u s)
    (hd : (x == ("__debug__" : Str)) = false := by decide) : wpAny (model X.prog X.w) X.A (eval (.Name x pos) X.env) Q E s :=
  Calls.Name_function_global I.ok.kind hg (Calls.loadGlobal_global (by rw [I.ok.glob]; exact I.mod.glob.keeps I.bk) hm h) hd
theorem ld_blt {E : Value → Shared → Prop} {pins : List (Addr × Obj)} {s : Shared} {σ : St} {H : Hp} {x : Str} {u : Value} {pos : Pos} {Q : Value → Shared → Prop} (I : Inv X pins σ H s) (hg : Gl X x) (hm : X.mg x = none) (hv : bootBuiltins x = some u) (h : Q u s)
    (hn : x ≠ "__name__" := by decide) (hd : (x == ("__debug__" : Str)) = false := by decide) : wpAny (model X.prog X.w) X.A (eval (.Name x pos) X.env) Q E s := by
  obtain ⟨mb, h1, h2⟩ := I.mod.blt
  exact Calls.Name_function_global I.ok.kind hg (Calls.loadGlobal_builtin (by rw [I.ok.glob]; exact I.mod.glob.keeps I.bk) hm (by rw [I.ok.blt]; exact h1.keeps I.bk) ((h2 x hn).trans hv) h) hd
/-- a module's constant, a class, a function, as a value -/
theorem pe_glob {x : Str} {v : V} {u : Value} {pos : Pos} (hg : Gl X x) (hm : X.mg x = some u) (r : RelV v u) (hd : (x == ("__debug__" : Str)) = false := by decide) : PE X (.Name x pos) (tC v) :=
  fun _ _ _ H _ I h => ld_glob I hg hm ⟨v, H, I, r, h⟩ hd
theorem pe_bltn {x : Str} {v : V} {u : Value} {pos : Pos} (hg : Gl X x) (hm : X.mg x = none) (hv : bootBuiltins x = some u) (r : RelV v u) (hn : x ≠ "__name__" := by decide) (hd : (x == ("__debug__" : Str)) = false := by decide) : PE X (.Name x pos) (tC v) :=
  fun _ _ _ H _ I h => ld_blt I hg hm hv ⟨v, H, I, r, h⟩ hn hd

/-! ### arithmetic -/
/-- two ints -/
def t2I (ta tb : TE) (k : Int → Int → Hp → Prop) : St → Hp → Prop := fun σ H => ta σ H fun x H1 => tb σ H1 fun y H2 => ∃ i j, x = .int i ∧ y = .int j ∧ k i j H2
def tAdd (ta tb : TE) : TE := fun σ H Q => t2I ta tb (fun i j H2 => Q (.int (i + j)) H2) σ H
def tSub (ta tb : TE) : TE := fun σ H Q => t2I ta tb (fun i j H2 => Q (.int (i - j)) H2) σ H
/-- the left factor below 2^64 -/
def tMul (ta tb : TE) : TE := fun σ H Q => t2I ta tb (fun i j H2 => (-(2 ^ 64) < i ∧ i < 2 ^ 64) ∧ Q (.int (i * j)) H2) σ H
variable {a b : Expr} {ta tb : TE} {pos : Pos}
/-! ### comparisons -/
def PC (X : Cx) (op : CmpOp) (a b : Expr) (t : TE) : Prop :=
  ∀ (pins : List (Addr × Obj)) (s : Shared) (σ : St) (H : Hp) (Q : VK), Inv X pins σ H s → t σ H Q →
    wpAny (model X.prog X.w) X.A (eval a X.env) (fun v s₁ => wpAny (model X.prog X.w) X.A (eval b X.env) (fun u s₂ => wpAny (model X.prog X.w) X.A (compareOp op v u) (EP X pins σ Q) X.xe s₂) X.xe s₁) X.xe s
def tCmp (p : Int → Int → Bool) (ta tb : TE) : TE := fun σ H Q => t2I ta tb (fun i j H2 => Q (.bl (p i j)) H2) σ H
abbrev tLt : TE → TE → TE := tCmp fun i j => decide (i < j)
abbrev tLe : TE → TE → TE := tCmp fun i j => decide (i ≤ j)
abbrev tGt : TE → TE → TE := tCmp fun i j => decide (j < i)
abbrev tGe : TE → TE → TE := tCmp fun i j => decide (j ≤ i)
abbrev tEqI : TE → TE → TE := tCmp fun i j => decide (i = j)
abbrev tNeI : TE → TE → TE := tCmp fun i j => !decide (i = j)
/-- is None -/
def tIsN (ta : TE) : TE := fun σ H Q => ta σ H fun x H1 => Q (.bl (decide (x = .non))) H1
def tNotN (ta : TE) : TE := fun σ H Q => ta σ H fun x H1 => Q (.bl (!decide (x = .non))) H1
/-- a comparison as a value, as a test -/
def tB (t : TE) : TT := fun σ H Q => t σ H fun x H1 => ∃ c, x = .bl c ∧ Q c H1
/-- an expression whose value is a bool, as a test -/
theorem pt_val {e : Expr} {t : TE} (h : PE X e t) (he : ∀ whole, isTrue e X.env whole = (do let v ← whole; standAt e.pos; holding [v] (truthy v)) := by intro _; rfl) : PT X e (tB t) := by
  intro pins s σ H Q I hw
  refine isTrue_plain (thn (h pins s σ H _ I hw) fun v s1 ⟨x, H1, I1, r1, q1⟩ => ?_) (he _)
  obtain ⟨d, rfl, q⟩ := q1
  cases r1
  exact wpAny_truthy_bool ⟨H1, I1, q⟩

/-! ### and, or, not -/
variable {tA tB' : TT} {rest : List Expr}
def tAnd (t u : TT) : TT := fun σ H Q => t σ H fun c H1 => if c = true then u σ H1 Q else Q false H1
def tOr (t u : TT) : TT := fun σ H Q => t σ H fun c H1 => if c = true then Q true H1 else u σ H1 Q
def tNot (t : TT) : TT := fun σ H Q => t σ H fun c H1 => Q (!c) H1
theorem pw_and1 (ha : PT X a tA) : PW X (.BoolOp .And [a] pos) tA := by
  intro wh pins s σ H Q I h
  refine isTrue_and (thn (ha pins s σ H Q I h) fun c s1 e => ?_)
  cases c with
  | true => exact isTrue_and_nil e
  | false => exact e
theorem pw_or1 (ha : PT X a tA) : PW X (.BoolOp .Or [a] pos) tA := by
  intro wh pins s σ H Q I h
  refine isTrue_or (thn (ha pins s σ H Q I h) fun c s1 e => ?_)
  cases c with
  | false => exact isTrue_or_nil e
  | true => exact e
theorem pw_and (ha : PT X a tA) (hb : PW X (.BoolOp .And (b :: rest) pos) tB') : PW X (.BoolOp .And (a :: b :: rest) pos) (tAnd tA tB') := by
  intro wh pins s σ H Q I h
  refine isTrue_and (thn (ha pins s σ H _ I h) fun c s1 ⟨H1, I1, q1⟩ => ?_)
  cases c with
  | true => exact hb wh pins s1 σ H1 Q I1 q1
  | false => exact ⟨H1, I1, q1⟩
theorem pw_or (ha : PT X a tA) (hb : PW X (.BoolOp .Or (b :: rest) pos) tB') : PW X (.BoolOp .Or (a :: b :: rest) pos) (tOr tA tB') := by
  intro wh pins s σ H Q I h
  refine isTrue_or (thn (ha pins s σ H _ I h) fun c s1 ⟨H1, I1, q1⟩ => ?_)
  cases c with
  | true => exact ⟨H1, I1, q1⟩
  | false => exact hb wh pins s1 σ H1 Q I1 q1
theorem pt_not (ha : PT X a tA) : PT X (.UnaryOp .Not a pos) (tNot tA) := by
  intro pins s σ H Q I h
  exact isTrue_not (ha pins s σ H (fun c H1 => Q (!c) H1) I h)
/-- .. as values (bools) -/
def tAndV (ta tb : TE) : TE := fun σ H Q => ta σ H fun x H1 => ∃ c, x = .bl c ∧ if c = true then tb σ H1 Q else Q (.bl false) H1
def tOrV (ta tb : TE) : TE := fun σ H Q => ta σ H fun x H1 => ∃ c, x = .bl c ∧ if c = true then Q (.bl true) H1 else tb σ H1 Q
def tNotV (ta : TE) : TE := fun σ H Q => ta σ H fun x H1 => ∃ c, x = .bl c ∧ Q (.bl (!c)) H1
theorem pe_one {op} {t : TE} (h : PE X a t) : PE X (.BoolOp op [a] pos) t := fun pins s σ H Q I hw => BoolOp_one (h pins s σ H Q I hw)
theorem pe_and (ha : PE X a ta) (hb : PE X (.BoolOp .And (b :: rest) pos) tb) : PE X (.BoolOp .And (a :: b :: rest) pos) (tAndV ta tb) := by
  intro pins s σ H Q I h
  refine BoolOp_and (thn (ha pins s σ H _ I h) fun v s1 ⟨x, H1, I1, r1, q1⟩ => ?_)
  obtain ⟨c, rfl, q1⟩ := q1
  cases r1
  refine wpAny_truthy_bool ?_
  cases c with
  | true => exact hb pins s1 σ H1 Q I1 q1
  | false => exact ⟨.bl false, H1, I1, rfl, q1⟩
theorem pe_not (ha : PE X a ta) : PE X (.UnaryOp .Not a pos) (tNotV ta) := by
  intro pins s σ H Q I h
  refine UnaryOp_ (thn (ha pins s σ H _ I h) fun v s1 ⟨x, H1, I1, r1, q1⟩ => ?_)
  obtain ⟨c, rfl, q1⟩ := q1
  cases r1
  exact not_of (wpAny_truthy_bool ⟨.bl (!c), H1, I1, rfl, q1⟩)
/-- a if t else b -/
def tIf (t : TT) (ta tb : TE) : TE := fun σ H Q => t σ H fun c H1 => if c = true then ta σ H1 Q else tb σ H1 Q
theorem pe_ifExp {c : Expr} (hc : PT X c tA) (ha : PE X a ta) (hb : PE X b tb) : PE X (.IfExp c a b pos) (tIf tA ta tb) := by
  intro pins s σ H Q I h
  refine wpAny_IfExp (thn (hc pins s σ H _ I h) fun d s1 ⟨H1, I1, q1⟩ => ?_)
  cases d with
  | true => exact ha pins s1 σ H1 Q I1 q1
  | false => exact hb pins s1 σ H1 Q I1 q1
end
end L2

namespace L2
open PySem PySem.Spec PyProof.Rows

/-! ### a list, a tuple that is read: tracked, frozen, or an object of the module -/
def SqL (K : PySem.W.Frag) (H : Hp) (a : Addr) (xs : List V) : Prop :=
  Rd H a (.lst xs) ∨
    ∃ (o : Obj) (its : Array Value) (n : Nat), K.lookup a = some o ∧ o.cls = .type "list" ∧ o.dict = none ∧ o.data = .seq its n ∧ its.size ≤ sizeLine ∧ Vals xs its.toList
def SqT (K : PySem.W.Frag) (H : Hp) (a : Addr) (xs : List V) : Prop :=
  Rd H a (.tup xs) ∨
    ∃ (o : Obj) (its : Array Value) (n : Nat), K.lookup a = some o ∧ o.cls = .type "tuple" ∧ o.data = .seq its n ∧ its.size ≤ sizeLine ∧ Vals xs its.toList
def absV : Value → Option V
  | .none => some .non
  | .bool b => some (.bl b)
  | .int i _ => some (.int i)
  | .str x _ => some (.str x)
  | .bytes b _ => some (.byt b)
  | .float b _ => some (.flt b)
  | .ref a => some (.ref a)
  | .type n => some (.ty n)
  | _ => none
theorem RelV.abs {x : V} {u : Value} (r : RelV x u) : absV u = some x := by
  cases x with
  | non => cases r; rfl
  | bl _ => cases r; rfl
  | int _ => obtain ⟨t, rfl⟩ := r; rfl
  | str _ => obtain ⟨t, rfl⟩ := r; rfl
  | byt _ => obtain ⟨t, rfl⟩ := r; rfl
  | flt _ => obtain ⟨t, rfl⟩ := r; rfl
  | ref _ => cases r; rfl
  | ty _ => cases r; rfl
theorem RelV.inj {x y : V} {u : Value} (r : RelV x u) (q : RelV y u) : x = y := Option.some.inj (r.abs.symm.trans q.abs)
theorem Vals.inj : ∀ {xs ys : List V} {us : List Value}, Vals xs us → Vals ys us → xs = ys
  | _, _, _, .nil, .nil => rfl
  | _, _, _, .cons r t, .cons r' t' => by rw [r.inj r', Vals.inj t t']
section
variable {X : Cx} {pins : List (Addr × Obj)} {σ : St} {H : Hp} {s : Shared} {a : Addr} {xs ys : List V}
theorem SqL.of {K : PySem.W.Frag} (h : H a = some (.lst xs)) : SqL K H a xs := .inl (.inl h)
theorem SqT.of {K : PySem.W.Frag} (h : H a = some (.tup xs)) : SqT K H a xs := .inl (.inl h)
theorem Inv.list (I : Inv X pins σ H s) (h : SqL X.K H a xs) : ∃ its : List Value, Vals xs its ∧ PlainL s.heap a its.toArray ∧ xs.length ≤ sizeLine := by
  rcases h with h | ⟨o, its, n, hk, hc, hd, hs, hz, r⟩
  · obtain ⟨z, its, n, r, e⟩ := h.ok I.hok
    exact ⟨its, r, ⟨_, n, e, rfl, rfl, rfl⟩, z⟩
  · refine ⟨its.toList, r, ⟨o, n, I.kIn a o hk, hc, hd, by simpa using hs⟩, ?_⟩
    have e := r.length
    simp only [Array.length_toList] at e
    omega
theorem Inv.tuple (I : Inv X pins σ H s) (h : SqT X.K H a xs) : ∃ its : List Value, Vals xs its ∧ IsTup s.heap a its.toArray ∧ xs.length ≤ sizeLine := by
  rcases h with h | ⟨o, its, n, hk, hc, hs, hz, r⟩
  · obtain ⟨z, its, r, p⟩ := h.ok I.hok
    exact ⟨its, r, p, z⟩
  · refine ⟨its.toList, r, ⟨o, I.kIn a o hk, hc, n, by simpa using hs⟩, ?_⟩
    have e := r.length
    simp only [Array.length_toList] at e
    omega
theorem Inv.list_inj (I : Inv X pins σ H s) (h : SqL X.K H a xs) (h' : SqL X.K H a ys) : xs = ys := by
  obtain ⟨its, r, ⟨o, n, e, _, _, d⟩, _⟩ := I.list h
  obtain ⟨its', r', ⟨o', n', e', _, _, d'⟩, _⟩ := I.list h'
  rw [e] at e'; cases e'
  rw [d] at d'
  injection d' with d1 _
  have : its = its' := by simpa using congrArg Array.toList d1
  subst this
  exact r.inj r'
theorem Inv.tuple_inj (I : Inv X pins σ H s) (h : SqT X.K H a xs) (h' : SqT X.K H a ys) : xs = ys := by
  obtain ⟨its, r, ⟨o, e, _, n, d⟩, _⟩ := I.tuple h
  obtain ⟨its', r', ⟨o', e', _, n', d'⟩, _⟩ := I.tuple h'
  rw [e] at e'; cases e'
  rw [d] at d'
  injection d' with d1 _
  have : its = its' := by simpa using congrArg Array.toList d1
  subst this
  exact r.inj r'
end

/-! ### another wish about exceptions -/
abbrev Cx.wish (X : Cx) (E : Value → Shared → Prop) : Cx := { X with xe := E }
/-- no exception leaves -/
abbrev Cx.nox (X : Cx) : Cx := X.wish fun _ _ => False
theorem Cx.Ok.wish {X : Cx} (ok : X.Ok) (E : Value → Shared → Prop) : (X.wish E).Ok :=
  ⟨ok.mod, ok.kind, ok.glob, ok.blt, ok.above, ok.inj, ok.has, ok.cab, ok.hd, ok.frames, ok.stk, ok.exf, ok.bs, ok.bsz, ok.noex, ok.exfs, ok.funs, ok.frf⟩
theorem Cx.Ok.unwish {X : Cx} {E : Value → Shared → Prop} (ok : (X.wish E).Ok) : X.Ok :=
  ⟨ok.mod, ok.kind, ok.glob, ok.blt, ok.above, ok.inj, ok.has, ok.cab, ok.hd, ok.frames, ok.stk, ok.exf, ok.bs, ok.bsz, ok.noex, ok.exfs, ok.funs, ok.frf⟩
section
variable {X : Cx} {pins : List (Addr × Obj)} {σ : St} {H : Hp} {s : Shared} {E : Value → Shared → Prop}
theorem Inv.wish (I : Inv X pins σ H s) (E : Value → Shared → Prop) : Inv (X.wish E) pins σ H s := ⟨I.ok.wish E, I.os, I.bare, I.base, I.loc, I.cell, I.free, I.freeC, I.pin, I.hok, I.len⟩
theorem Inv.unwish (I : Inv (X.wish E) pins σ H s) : Inv X pins σ H s := ⟨I.ok.unwish, I.os, I.bare, I.base, I.loc, I.cell, I.free, I.freeC, I.pin, I.hok, I.len⟩
theorem SP.unwish {D : Ends} {f : Flow} {s' : Shared} (h : SP (X.wish E) pins D f s') : SP X pins D f s' := by
  cases f with
  | next => obtain ⟨σ', H', I, q⟩ := h; exact ⟨σ', H', I.unwish, q⟩
  | brk => obtain ⟨σ', H', I, q⟩ := h; exact ⟨σ', H', I.unwish, q⟩
  | cont => obtain ⟨σ', H', I, q⟩ := h; exact ⟨σ', H', I.unwish, q⟩
  | ret u => obtain ⟨v, σ', H', I, r, q⟩ := h; exact ⟨v, σ', H', I.unwish, r, q⟩
theorem PE.nox {e : Expr} {t : TE} (h : PE X.nox e t) : PE X e t := fun pins s σ H Q I hw =>
  wpAny_mono (h pins s σ H Q (I.wish _) hw) (fun _ _ ⟨v, H', I', r, q⟩ => ⟨v, H', I'.unwish, r, q⟩) fun _ _ z => False.elim z
theorem PT.nox {e : Expr} {t : TT} (h : PT X.nox e t) : PT X e t := fun pins s σ H Q I hw =>
  wpAny_mono (h pins s σ H Q (I.wish _) hw) (fun _ _ ⟨H', I', q⟩ => ⟨H', I'.unwish, q⟩) fun _ _ z => False.elim z
theorem PSs.nox {st : List Stmt} {t : TS} (h : PSs X.nox st t) : PSs X st t := fun pins s σ H D I hw =>
  wpAny_mono (h pins s σ H D (I.wish _) hw) (fun _ _ q => q.unwish) fun _ _ z => False.elim z
end

/-! ### blocks and small statements -/
section
variable {X : Cx} {st : Stmt} {rest : List Stmt} {t u : TS} {e : Expr} {te : TE} {pos : Pos}
def tNext : TS := fun D σ H => D.nx σ H
def tSeq (t u : TS) : TS := fun D σ H => t { D with nx := u D } σ H
theorem pss_nil : PSs X [] tNext := fun _ _ σ H _ I h => wpAny_execs_nil ⟨σ, H, I, h⟩
theorem pss_cons (h1 : PS X st t) (h2 : PSs X rest u) : PSs X (st :: rest) (tSeq t u) := by
  intro pins s σ H D I h
  refine wpAny_execs_cons (thn (h1 pins s σ H { D with nx := u D } I h) fun f s1 q => ?_)
  cases f with
  | next =>
    obtain ⟨σ', H', I', q⟩ := q
    exact h2 pins s1 σ' H' D I' q
  | ret v => exact q
  | brk => exact q
  | cont => exact q
theorem pss_one (h1 : PS X st t) : PSs X [st] t := by
  intro pins s σ H D I h
  refine wpAny_execs_cons (thn (h1 pins s σ H D I h) fun f s1 q => ?_)
  cases f with
  | next => exact wpAny_execs_nil q
  | ret v => exact q
  | brk => exact q
  | cont => exact q
def tBreak : TS := fun D σ H => D.bk σ H
def tCont : TS := fun D σ H => D.ct σ H
/-- in a def's body nothing is shown -/
theorem Inv.quiet {pins : List (Addr × Obj)} {σ : St} {H : Hp} {s : Shared} (I : Inv X pins σ H s) : interactive X.env = false := by simp [interactive, I.ok.kind]
/-- an expression whose value is dropped -/
def tDrop (te : TE) : TS := fun D σ H => te σ H fun _ H1 => D.nx σ H1
theorem ps_expr (he : PE X e te) (hs : swapsWith e none pos.line X.env = pure false := by rfl) : PS X (.Expr e pos) (tDrop te) := by
  intro pins s σ H D I h
  exact wpAny_Expr_any (thn (he pins s σ H _ I h) fun v s1 ⟨x, H1, I1, r1, q1⟩ => ⟨σ, H1, I1, q1⟩) I.quiet hs
def tRet (te : TE) : TS := fun D σ H => te σ H D.rt
theorem ps_ret (he : PE X e te) : PS X (.Return (some e) pos) (tRet te) := by
  intro pins s σ H D I h
  exact wpAny_Return_some (thn (he pins s σ H _ I h) fun v s1 ⟨x, H1, I1, r1, q1⟩ => ⟨x, σ, H1, I1, r1, q1⟩)
def tRetN : TS := fun D _ H => D.rt .non H
def tIfS (c : TT) (t u : TS) : TS := fun D σ H => c σ H fun b H1 => if b = true then t D σ H1 else u D σ H1
theorem ps_if {c : Expr} {a b : List Stmt} {tc : TT} (hc : PT X c tc) (ha : PSs X a t) (hb : PSs X b u) : PS X (.If c a b pos) (tIfS tc t u) := by
  intro pins s σ H D I h
  refine wpAny_If (thn (hc pins s σ H _ I h) fun d s1 ⟨H1, I1, q1⟩ => ?_)
  cases d with
  | true => exact ha pins s1 σ H1 D I1 q1
  | false => exact hb pins s1 σ H1 D I1 q1
/-- code that the proof never comes to -/
def tNever : TS := fun _ _ _ => False
end

/-! ### targets -/
abbrev TG := V → St → Hp → (St → Hp → Prop) → Prop
abbrev TGs := List V → St → Hp → (St → Hp → Prop) → Prop
def PG (X : Cx) (target : Expr) (t : TG) : Prop :=
  ∀ (pins : List (Addr × Obj)) (s : Shared) (σ : St) (H : Hp) (v : V) (u : Value) (Q : St → Hp → Prop), Inv X pins σ H s → RelV v u → t v σ H Q →
    wpAny (model X.prog X.w) X.A (assign target X.env u) (fun _ s' => ∃ σ' H', Inv X pins σ' H' s' ∧ Q σ' H') X.xe s
/-- several targets, one after another -/
def PGs (X : Cx) (ts : List Expr) (t : TGs) : Prop :=
  ∀ (pins : List (Addr × Obj)) (s : Shared) (σ : St) (H : Hp) (vs : List V) (us : List Value) (Q : St → Hp → Prop), Inv X pins σ H s → Vals vs us → t vs σ H Q →
    wpAny (model X.prog X.w) X.A (assignInOrder ((assignEach ts X.env).map (·.2)) us) (fun _ s' => ∃ σ' H', Inv X pins σ' H' s' ∧ Q σ' H') X.xe s
/-- o[i] = v, by values -/
abbrev TSet := V → V → V → Hp → (Hp → Prop) → Prop
def PSet (X : Cx) (t : TSet) : Prop :=
  ∀ (pins : List (Addr × Obj)) (s : Shared) (σ : St) (H : Hp) (o i v : V) (ov iv u : Value) (Q : Hp → Prop), Inv X pins σ H s → RelV o ov → RelV i iv → RelV v u → t o i v H Q →
    wpAny (model X.prog X.w) X.A (setItem ov iv u) (fun _ s' => ∃ H', Inv X pins σ H' s' ∧ Q H') X.xe s
/-- a op= b, by values -/
abbrev TIp := V → V → Hp → VK → Prop
def PIp (X : Cx) (op : Operator) (t : TIp) : Prop :=
  ∀ (pins : List (Addr × Obj)) (s : Shared) (σ : St) (H : Hp) (x y : V) (v u : Value) (Q : VK), Inv X pins σ H s → RelV x v → RelV y u → t x y H Q →
    wpAny (model X.prog X.w) X.A (inplaceOp op v u) (EP X pins σ Q) X.xe s
section
variable {X : Cx} {pos : Pos}
def gName (i : Nat) : TG := fun v σ H Q => Q (σ.set i (some v)) H
theorem pg_name {i : Nat} {x : Str} (hN : X.N.Nodup) (hi : X.N[i]? = some x) (hx : Loc X.env.scope x) (hf : X.fn x = true ∨ X.env.scope.names.lookup x = some .local := by first | exact .inl rfl | exact .inr rfl | assumption) : PG X (.Name x pos) (gName i) := by
  intro pins s σ H v u Q I r h
  exact wpAny_assign_Name (store_ok I hN hi hx r (fun s' I' => ⟨_, H, I', h⟩) hf)
def gNil : TGs := fun vs σ H Q => vs = [] ∧ Q σ H
def gCons (t : TG) (u : TGs) : TGs := fun vs σ H Q => ∃ v r, vs = v :: r ∧ t v σ H fun σ' H' => u r σ' H' Q
theorem pgs_nil : PGs X [] gNil := by
  intro pins s σ H vs us Q I r h
  obtain ⟨e, h⟩ := h
  subst e
  cases r
  exact assignInOrder_nil ⟨σ, H, I, h⟩
theorem pgs_cons {e : Expr} {es : List Expr} {t : TG} {u : TGs} (h1 : PG X e t) (h2 : PGs X es u)
    (hs : (assignEach (e :: es) X.env).map (·.2) = assign e X.env :: (assignEach es X.env).map (·.2) := by rfl) : PGs X (e :: es) (gCons t u) := by
  intro pins s σ H vs us Q I r h
  obtain ⟨v, vr, e1, h⟩ := h
  subst e1
  cases r with
  | cons r rr =>
    rw [hs]
    refine assignInOrder_cons (thn (h1 pins s σ H _ _ _ I r h) fun _ s1 ⟨σ1, H1, I1, q1⟩ => ?_)
    exact h2 pins s1 σ1 H1 _ _ Q I1 rr q1
/-- (a, b, ..) = a tuple of that length -/
def gTup (K : PySem.W.Frag) (n : Nat) (t : TGs) : TG := fun v σ H Q => ∃ a xs, v = .ref a ∧ SqT K H a xs ∧ xs.length = n ∧ t xs σ H Q
theorem pg_tup {es : List Expr} {k : Nat} {t : TGs} {n : Nat} (hc : X.calm = true) (h : PGs X es t)
    (hn : (assignEach es X.env).length = n := by rfl) (hst : (assignEach es X.env).findIdx? (·.1) = none := by rfl) : PG X (.Tuple es k pos) (gTup X.K n t) := by
  intro pins s σ H v u Q I r hw
  obtain ⟨a, xs, e1, hq, hl, hw⟩ := hw
  subst e1
  cases r
  obtain ⟨its, rv, ht, hz⟩ := I.tuple hq
  refine assign_Tuple_tuple (I.ok.hd hc) ht (by simp [hn, ← hl, rv.length]) hst fun h' hx => ?_
  have I1 : Inv X pins σ H { s with heap := h' } := I.kept (t' := s.toks) fun b o e => hx b o (Nat.ne_of_lt (Heap.lt_size e)) e
  exact h pins _ σ H xs _ Q I1 (by simpa using rv) hw
/-- o[i] = .. -/
def gSub (to ti : TE) (t : TSet) : TG := fun v σ H Q => to σ H fun o H1 => ti σ H1 fun i H2 => t o i v H2 fun H3 => Q σ H3
/-- target = value -/
def tAsg (te : TE) (g : TG) : TS := fun D σ H => te σ H fun x H1 => g x σ H1 D.nx
/-- name = value -/
theorem ps_set {i : Nat} {x : Str} {e : Expr} {te : TE} {pos' : Pos} (hN : X.N.Nodup) (hi : X.N[i]? = some x) (hx : Loc X.env.scope x) (he : PE X e te) (hs : swapsWith e (some (.Name x pos')) pos.line X.env = pure false := by rfl) (hf : X.fn x = true ∨ X.env.scope.names.lookup x = some .local := by first | exact .inl rfl | exact .inr rfl | assumption) :
    PS X (.Assign [.Name x pos'] e pos) (tAsg te (gName i)) := by
  intro pins s σ H D I h
  refine wpAny_Assign_Name (thn (he pins s σ H _ I h) fun v s1 ⟨y, H1, I1, r1, q1⟩ => ?_) hs
  exact store_ok I1 hN hi hx r1 (fun s2 I2 => ⟨_, H1, I2, q1⟩) hf
/-- a, b = x, y with plain local names: stored from the right; the pair itself is not tracked (the opening rows as in PyProof/Rows/TupAssign.lean:23) -/
def tPar (i j : Nat) (ta : TA) : TS := fun D σ H => ta σ H fun vs H1 => ∃ v w, vs = [v, w] ∧ D.nx ((σ.set i (some v)).set j (some w)) H1
/-- name op= e -/
def tAug (i : Nat) (te : TE) (ti : TIp) : TS := fun D σ H => ∃ x, σ[i]? = some (some x) ∧ te σ H fun y H1 => ti x y H1 fun z H2 => D.nx (σ.set i (some z)) H2
/-- o[i] op= e -/
def tAugS (to ti te : TE) (tget : V → V → Hp → VK → Prop) (tip : TIp) (tset : TSet) : TS := fun D σ H => to σ H fun o H1 => ti σ H1 fun i H2 => tget o i H2 fun x H3 => te σ H3 fun y H4 => tip x y H4 fun z H5 => tset o i z H5 fun H6 => D.nx σ H6
/-- o[i], by values -/
def PGet (X : Cx) (t : V → V → Hp → VK → Prop) : Prop :=
  ∀ (pins : List (Addr × Obj)) (s : Shared) (σ : St) (H : Hp) (o i : V) (ov iv : Value) (Q : VK), Inv X pins σ H s → RelV o ov → RelV i iv → t o i H Q →
    wpAny (model X.prog X.w) X.A (getItem ov iv) (EP X pins σ Q) X.xe s
/-- ints -/
def ipI (f : Int → Int → Int) : TIp := fun x y H Q => ∃ i j, x = .int i ∧ y = .int j ∧ Q (.int (f i j)) H
end

/-! ### while -/
section
variable {X : Cx} {pos : Pos}
/-- the invariant W with its measure -/
def tWhile (c : TT) (tb : TS) : TS := fun D σ H => ∃ W : Nat → St → Hp → Prop, (∃ m, W m σ H) ∧ ∀ m σ H, W m σ H →
  c σ H fun b H1 => if b = true then ∃ N : St → Hp → Prop, (∀ σ' H', N σ' H' → ∃ m', m' < m ∧ W m' σ' H') ∧ tb { D with nx := N, ct := N, bk := D.nx } σ H1 else D.nx σ H1
end

/-! ### what a loop or a comprehension walks -/
/-- at turn i: it yields x (the heap may grow), or it stops -/
structure It where
  go : Nat → Hp → Prop
  yld : Nat → Hp → V → Hp → Prop
  stop : Nat → Hp → Prop
/-- the iterator's own objects may turn: they are not the frame's, not pinned, younger than the entry (or a comprehension's own) -/
def FpOk (X : Cx) (pins : List (Addr × Obj)) (H : Hp) (b : Addr) : Prop :=
  H b = none ∧ b ≠ X.env.locals ∧ b ∉ X.fs ∧ (b ∈ X.ex ∨ X.s₀.heap.objs.size ≤ b) ∧ (∀ x c, X.env.cells.lookup x = some c → c ≠ b) ∧ ∀ p ∈ X.pn ++ pins, p.1 ≠ b
theorem Inv.fpOk {X : Cx} {pins : List (Addr × Obj)} {σ : St} {H H' : Hp} {s : Shared} {b : Addr} (I : Inv X pins σ H s) (hb : s.heap.objs.size ≤ b) (hn : H' b = none) : FpOk X pins H' b := by
  refine ⟨hn, Nat.ne_of_gt (Nat.lt_of_lt_of_le I.lt hb), I.nofs hb, .inr (Nat.le_trans I.sz hb), fun x c e z => ?_, fun p hp z => ?_⟩
  · obtain ⟨v, q⟩ := I.cell x c e
    exact absurd (Nat.lt_of_lt_of_le q.lt (by rw [z]; exact hb)) (Nat.lt_irrefl _)
  · exact absurd (Nat.lt_of_lt_of_le (Heap.lt_size (I.pin p hp).1) (by rw [z]; exact hb)) (Nat.lt_irrefl _)
structure Turn (P : Program) (w : World) (K : PySem.W.Frag) (tg : Expr) (J : It) (fp : List Addr) (it : Addr) (tn : Nat → Heap → Prop) : Prop where
  mem : it ∈ fp
  obj : ∀ i h, tn i h → ∀ b ∈ fp, ∃ o, h.get? b = some o ∧ ∀ v, o.data ≠ .cell v
  keep : ∀ i h h', tn i h → (∀ b ∈ fp, ∀ o, h.get? b = some o → h'.get? b = some o) → tn i h'
  item : ∀ (X : Cx), X.prog = P → X.w = w → X.K = K → X.calm = true → ∀ (i : Nat) (pins : List (Addr × Obj)) (s : Shared) (σ : St) (H : Hp) (E : Value → Shared → Prop), Inv X pins σ H s → (∀ b ∈ fp, FpOk X pins H b) → tn i s.heap → J.go i H →
    wpAny (model P w) X.A (pyNext (.ref it)) (fun r s1 => ∃ u, r = some u ∧
      wpAny (model P w) X.A (letOwnedTupleGo tg (.ref it) u) (fun _ s2 => ∃ x H', Inv X pins σ H' s2 ∧ RelV x u ∧ J.yld i H x H' ∧ tn (i + 1) s2.heap ∧ ∀ b ∈ fp, H' b = none) E s1) E s
  done : ∀ (X : Cx), X.prog = P → X.w = w → X.K = K → X.calm = true → ∀ (i : Nat) (pins : List (Addr × Obj)) (s : Shared) (σ : St) (H : Hp) (E : Value → Shared → Prop), Inv X pins σ H s → (∀ b ∈ fp, FpOk X pins H b) → tn i s.heap → J.stop i H →
    wpAny (model P w) X.A (pyNext (.ref it)) (fun r s1 => r = none ∧ Inv X pins σ H s1) E s
  self : ∀ (A : Around) (i : Nat) (s : Shared) (Q : Value → Shared → Prop) (E : Value → Shared → Prop), tn i s.heap → Q (.ref it) s → wpAny (model P w) A (pyIter (.ref it)) Q E s
abbrev TI := St → Hp → (It → Hp → Prop) → Prop
/-- an iterator has come -/
def PIE (X : Cx) (pins : List (Addr × Obj)) (σ : St) (tg : Expr) (R : It → Hp → Prop) (itv : Value) (s2 : Shared) : Prop :=
  ∃ (it : Addr) (fp : List Addr) (tn : Nat → Heap → Prop) (J : It) (H' : Hp), itv = .ref it ∧ Inv X pins σ H' s2 ∧ Turn X.prog X.w X.K tg J fp it tn ∧ tn 0 s2.heap ∧ (∀ b ∈ fp, FpOk X pins H' b) ∧ R J H'
def PI (X : Cx) (tg iter : Expr) (wi : TI) : Prop :=
  ∀ (pins : List (Addr × Obj)) (s : Shared) (σ : St) (H : Hp) (R : It → Hp → Prop), Inv X pins σ H s → wi σ H R →
    wpAny (model X.prog X.w) X.A (eval iter X.env) (fun v s1 => wpAny (model X.prog X.w) X.A (pyIter v) (PIE X pins σ tg R) X.xe s1) X.xe s

/-- the step ahead of the store is nothing for an iterator that keeps no tuple -/
theorem go_of {M : Model} {A : Around} {E : Value → Shared → Prop} {s : Shared} {tg : Expr} {it : Addr} {u : Value} {o : Obj} {n : String} {vs : Array Value} {Q : Unit → Shared → Prop} (ho : s.heap.get? it = some o) (hc : o.cls = .type n) (hd : o.data = .fields vs)
    (hn : ["enumerate", "zip", "dict_itemiterator", "dict_reverseitemiterator", "odict_iterator", "itertools.zip_longest", "itertools.pairwise"].contains n = false) (hQ : Q () s) : wpAny M A (letOwnedTupleGo tg (.ref it) u) Q E s := by
  unfold letOwnedTupleGo
  cases tg <;> first
    | exact wpAny_pure hQ
    | (cases u <;> first
        | exact wpAny_pure hQ
        | (refine wpAny_bind (wpAny_load ho ?_)
           rw [hc, hd]
           show wpAny M A (if (["enumerate", "zip", "dict_itemiterator", "dict_reverseitemiterator", "odict_iterator", "itertools.zip_longest", "itertools.pairwise"].contains n && vs[0]? == some (rawInt _)) = true then _ else _) Q E s
           rw [if_neg (by intro h; rw [hn, Bool.false_and] at h; cases h)]
           exact wpAny_pure hQ))

/-- the list at a, as it stands at each turn (a loop may append to it) -/
def Itl (K : PySem.W.Frag) (a : Addr) : It :=
  ⟨fun i H => ∃ xs x, SqL K H a xs ∧ xs[i]? = some x, fun i H x H' => H' = H ∧ ∀ xs, SqL K H a xs → xs[i]? = some x, fun i H => ∃ xs, SqL K H a xs ∧ xs.length ≤ i⟩
def Itt (K : PySem.W.Frag) (a : Addr) : It :=
  ⟨fun i H => ∃ xs x, SqT K H a xs ∧ xs[i]? = some x, fun i H x H' => H' = H ∧ ∀ xs, SqT K H a xs → xs[i]? = some x, fun i H => ∃ xs, SqT K H a xs ∧ xs.length ≤ i⟩
/-- lo, lo + 1, .. (n of them) -/
def Itr (lo : Int) (n : Nat) : It := ⟨fun i _ => i < n, fun i H x H' => H' = H ∧ x = .int (lo + i), fun i _ => n ≤ i⟩
theorem turn_list {P : Program} {w : World} {K : PySem.W.Frag} {tg : Expr} (a it : Addr) : Turn P w K tg (Itl K a) [it] it (fun i h => h.IsListIter it a i) where
  mem := by simp
  obj := fun i h st b hb => by
    have e : b = it := by simpa using hb
    subst e
    obtain ⟨o, e, c, d⟩ := st
    exact ⟨o, e, fun v z => by rw [d] at z; cases z⟩
  keep := fun i h h' st k => st.at fun o e => k it (by simp) o e
  item := by
    intro X hP hw hK hc i pins s σ H E I hf st hg
    subst hP hw hK
    obtain ⟨xs, x, hq, hx⟩ := hg
    obtain ⟨its, rv, p, hz⟩ := I.list hq
    obtain ⟨u, hu, ru⟩ := rv.get hx
    obtain ⟨f0, f1, f2, f3, f4, f5⟩ := hf it (by simp)
    refine wpAny_pyNext_list_item st p.isList (x := u) (by simpa using hu) fun h' st' sb => ?_
    have I1 : Inv X pins σ H { s with heap := h' } := I.turned (t' := s.toks) (fun b o hb e => (sb.2 b hb).trans e) f0 f1 f3 f4 f5
    obtain ⟨o, e, c, d⟩ := id st'
    exact ⟨u, rfl, go_of (s := { s with heap := h' }) e c d (by decide) ⟨x, H, I1, ru, ⟨rfl, fun ys hy => by rw [I.list_inj hy hq]; exact hx⟩, st', fun b hb => (hf b hb).1⟩⟩
  done := by
    intro X hP hw hK hc i pins s σ H E I hf st hg
    subst hP hw hK
    obtain ⟨xs, hq, hx⟩ := hg
    obtain ⟨its, rv, p, hz⟩ := I.list hq
    obtain ⟨f0, f1, f2, f3, f4, f5⟩ := hf it (by simp)
    have hl := rv.length
    exact wpAny_pyNext_list_end (I.ok.hd hc) st p.isList (by simp; omega) fun h' eb => ⟨rfl, I.turned (t' := s.toks) (fun b o hb e => eb b o hb e) f0 f1 f3 f4 f5⟩
  self := fun _ _ _ _ _ st h => wpAny_pyIter_listiter st h
theorem turn_tuple {P : Program} {w : World} {K : PySem.W.Frag} {tg : Expr} (a it : Addr) : Turn P w K tg (Itt K a) [it] it (fun i h => h.IsTupleIter it a i) where
  mem := by simp
  obj := fun i h st b hb => by
    have e : b = it := by simpa using hb
    subst e
    obtain ⟨o, e, c, d⟩ := st
    exact ⟨o, e, fun v z => by rw [d] at z; cases z⟩
  keep := fun i h h' st k => st.at fun o e => k it (by simp) o e
  item := by
    intro X hP hw hK hc i pins s σ H E I hf st hg
    subst hP hw hK
    obtain ⟨xs, x, hq, hx⟩ := hg
    obtain ⟨its, rv, p, hz⟩ := I.tuple hq
    obtain ⟨u, hu, ru⟩ := rv.get hx
    obtain ⟨f0, f1, f2, f3, f4, f5⟩ := hf it (by simp)
    refine wpAny_pyNext_tuple_item st (show s.heap.IsTuple a its.toArray from p) (x := u) (by simpa using hu) fun h' st' sb => ?_
    have I1 : Inv X pins σ H { s with heap := h' } := I.turned (t' := s.toks) (fun b o hb e => (sb.2 b hb).trans e) f0 f1 f3 f4 f5
    obtain ⟨o, e, c, d⟩ := id st'
    exact ⟨u, rfl, go_of (s := { s with heap := h' }) e c d (by decide) ⟨x, H, I1, ru, ⟨rfl, fun ys hy => by rw [I.tuple_inj hy hq]; exact hx⟩, st', fun b hb => (hf b hb).1⟩⟩
  done := by
    intro X hP hw hK hc i pins s σ H E I hf st hg
    subst hP hw hK
    obtain ⟨xs, hq, hx⟩ := hg
    obtain ⟨its, rv, p, hz⟩ := I.tuple hq
    obtain ⟨f0, f1, f2, f3, f4, f5⟩ := hf it (by simp)
    have hl := rv.length
    exact wpAny_pyNext_tuple_end (I.ok.hd hc) st (show s.heap.IsTuple a its.toArray from p) (by simp; omega) fun h' eb => ⟨rfl, I.turned (t' := s.toks) (fun b o hb e => eb b o hb e) f0 f1 f3 f4 f5⟩
  self := fun _ _ _ _ _ st h => wpAny_pyIter_tupleiter st h
theorem turn_range {P : Program} {w : World} {K : PySem.W.Frag} {tg : Expr} (it : Addr) (lo : Int) (n : Nat) : Turn P w K tg (Itr lo n) [it] it (fun i h => IsRangeIter h it (lo + (i : Nat) * 1) ((n : Int) - (i : Nat)) 1) where
  mem := by simp
  obj := fun i h st b hb => by
    have e : b = it := by simpa using hb
    subst e
    exact ⟨_, st, fun v z => by
      have z' : Data.fields _ = Data.cell v := z
      cases z'⟩
  keep := fun i h h' st k => k it (by simp) _ st
  item := by
    intro X hP hw hK hc i pins s σ H E I hf st hg
    subst hP hw hK
    obtain ⟨f0, f1, f2, f3, f4, f5⟩ := hf it (by simp)
    have W := Walks.range (prog := X.prog) (w := X.w) (I.ok.hd hc) it lo 1 n
    refine W.item i s _ _ hg st fun v h' tk hv st' kk => ?_
    obtain ⟨t, rfl⟩ := hv
    have I1 : Inv X pins σ H { s with heap := h', toks := tk } := I.turned (fun b o hb e => kk b o (by simpa using hb) e) f0 f1 f3 f4 f5
    refine ⟨_, rfl, go_of (s := { s with heap := h', toks := tk }) (n := "range_iterator") st' rfl rfl (by decide) ⟨.int (lo + i), H, I1, ⟨t, ?_⟩, ⟨rfl, rfl⟩, st', fun b hb => (hf b hb).1⟩⟩
    rw [Int.mul_one]
  done := by
    intro X hP hw hK hc i pins s σ H E I hf st hg
    subst hP hw hK
    obtain ⟨f0, f1, f2, f3, f4, f5⟩ := hf it (by simp)
    exact wpAny_pyNext_range_end (I.ok.hd hc) st (by have : n ≤ i := hg; omega) fun h' eb => ⟨rfl, I.turned (t' := s.toks) (fun b o hb e => eb b o hb e) f0 f1 f3 f4 f5⟩
  self := fun _ _ _ _ _ st h => wpAny_pyIter_rangeiter st h
end L2

namespace L2
open PySem PySem.Spec PyProof.Rows
section
variable {X : Cx} {tg : Expr}
def iList (K : PySem.W.Frag) (tl : TE) : TI := fun σ H R => tl σ H fun x H1 => ∃ a, x = .ref a ∧ (∃ xs, SqL K H1 a xs) ∧ R (Itl K a) H1
def iTup (K : PySem.W.Frag) (tl : TE) : TI := fun σ H R => tl σ H fun x H1 => ∃ a, x = .ref a ∧ (∃ xs, SqT K H1 a xs) ∧ R (Itt K a) H1
theorem pi_list {l : Expr} {tl : TE} (hl : PE X l tl) : PI X tg l (iList X.K tl) := by
  intro pins s σ H R I h
  refine thn (hl pins s σ H _ I h) fun v s1 ⟨x, H1, I1, r1, q1⟩ => ?_
  obtain ⟨a, e, ⟨xs, hq⟩, q⟩ := q1
  subst e
  cases r1
  obtain ⟨its, rv, p, hz⟩ := I1.list hq
  refine wpAny_pyIter_list p.isList ?_
  refine ⟨s1.heap.objs.size, [s1.heap.objs.size], _, _, H1, rfl, I1.kept (t' := s1.toks) fun b o e => Heap.get?_push_of_some _ e, turn_list a _, ⟨_, Heap.get?_push_size _ rfl, rfl, rfl⟩, fun b hb => ?_, q⟩
  have e : b = s1.heap.objs.size := by simpa using hb
  subst e
  exact I1.fpOk (Nat.le_refl _) (I1.hok.fresh (Nat.le_refl _))
theorem pi_tup {l : Expr} {tl : TE} (hl : PE X l tl) : PI X tg l (iTup X.K tl) := by
  intro pins s σ H R I h
  refine thn (hl pins s σ H _ I h) fun v s1 ⟨x, H1, I1, r1, q1⟩ => ?_
  obtain ⟨a, e, ⟨xs, hq⟩, q⟩ := q1
  subst e
  cases r1
  obtain ⟨its, rv, p, hz⟩ := I1.tuple hq
  refine wpAny_pyIter_tuple (show s1.heap.IsTuple a its.toArray from p) ?_
  refine ⟨s1.heap.objs.size, [s1.heap.objs.size], _, _, H1, rfl, I1.kept (t' := s1.toks) fun b o e => Heap.get?_push_of_some _ e, turn_tuple a _, ⟨_, Heap.get?_push_size _ rfl, rfl, rfl⟩, fun b hb => ?_, q⟩
  have e : b = s1.heap.objs.size := by simpa using hb
  subst e
  exact I1.fpOk (Nat.le_refl _) (I1.hok.fresh (Nat.le_refl _))
/-- a range object just made, walked -/
theorem range_it {pins : List (Addr × Obj)} {σ : St} {H : Hp} {s : Shared} {R : It → Hp → Prop} {E : Value → Shared → Prop} {lo hi : Int} {t u v : Tok} {tk : Nat} (I : Inv X pins σ H s) (h1 : -(2 ^ 62) ≤ lo) (h2 : lo < 2 ^ 62) (h3 : -(2 ^ 62) ≤ hi) (h4 : hi < 2 ^ 62)
    (q : R (Itr lo (hi - lo).toNat) H) : wpAny (model X.prog X.w) X.A (pyIter (.ref s.heap.objs.size)) (PIE X pins σ tg R) E { s with heap := s.heap.push { cls := .type "range", data := .fields #[.int lo t, .int hi u, .int 1 v] }, toks := tk } := by
  refine wpAny_pyIter_range (IsRange.new ..) (small_one h1 h2 h3 h4) ?_
  have I1 : Inv X pins σ H { s with heap := s.heap.push { cls := .type "range", data := .fields #[.int lo t, .int hi u, .int 1 v] }, toks := tk } := I.kept fun b o e => Heap.get?_push_of_some _ e
  refine ⟨(s.heap.push { cls := .type "range", data := .fields #[.int lo t, .int hi u, .int 1 v] }).objs.size, [(s.heap.push { cls := .type "range", data := .fields #[.int lo t, .int hi u, .int 1 v] }).objs.size], _, _, H, rfl,
    I1.kept (t' := tk) fun b o e => Heap.get?_push_of_some _ e, turn_range _ lo (hi - lo).toNat, ?_, fun b hb => ?_, q⟩
  · have e1 : lo + ((0 : Nat) : Int) * 1 = lo := by simp
    have e2 : (((hi - lo).toNat : Nat) : Int) - ((0 : Nat) : Int) = Builtin.Range.rangeSize lo hi 1 := by rw [rangeSize_one]; split <;> omega
    show IsRangeIter _ _ (lo + ((0 : Nat) : Int) * 1) ((((hi - lo).toNat : Nat) : Int) - ((0 : Nat) : Int)) 1
    rw [e1, e2]
    exact Heap.get?_push_size _ rfl
  · have e : b = (s.heap.push { cls := .type "range", data := .fields #[.int lo t, .int hi u, .int 1 v] }).objs.size := by simpa using hb
    subst e
    exact I1.fpOk (Nat.le_refl _) (I1.hok.fresh (Nat.le_refl _))
def iRng1 (ta : TA) : TI := fun σ H R => ta σ H fun vs H1 => ∃ j : Int, vs = [.int j] ∧ -(2 ^ 62) ≤ j ∧ j < 2 ^ 62 ∧ R (Itr 0 j.toNat) H1
def iRng2 (ta : TA) : TI := fun σ H R => ta σ H fun vs H1 => ∃ i j : Int, vs = [.int i, .int j] ∧ (-(2 ^ 62) ≤ i ∧ i < 2 ^ 62 ∧ -(2 ^ 62) ≤ j ∧ j < 2 ^ 62) ∧ R (Itr i (j - i).toNat) H1
theorem pi_range1 {a : Expr} {ta : TA} {p pos : Pos} (hg : Gl X "range") (hm : X.mg "range" = none) (ha : PA X [a] ta) (hs : starEach [a] X.env = [(false, eval a X.env)] := by rfl) : PI X tg (.Call (.Name "range" p) [a] [] pos) (iRng1 ta) := by
  intro pins s σ H R I h
  refine Call_ (ld_blt I hg hm boot_range (PyProof.Rows.callWith_type1 (thn (ha pos pins s σ H _ I h) fun us s1 ⟨vs, H1, I1, r1, q1⟩ => ?_) hs rfl))
  obtain ⟨j, e, q1, q2, q⟩ := q1
  subst e
  cases r1 with
  | cons r rr =>
    cases rr
    obtain ⟨t, rfl⟩ := r
    exact call_range_1 (range_it I1 (by omega) (by omega) q1 q2 (by simpa using q))
/-! ### for -/
/-- W: the invariant by the turn and a measure; N: what the body is to reach -/
def tFor (wi : TI) (g : TG) (tb : TS) : TS := fun D σ H => wi σ H fun J H1 => ∃ W : Nat → Nat → St → Hp → Prop, (∃ m, W 0 m σ H1) ∧ ∀ i m σ H, W i m σ H →
  (J.stop i H ∧ D.nx σ H) ∨ (J.go i H ∧ ∃ N : St → Hp → Prop, (∀ σ' H', N σ' H' → ∃ m', m' < m ∧ W (i + 1) m' σ' H') ∧ ∀ x H', J.yld i H x H' → g x σ H' fun σ2 H2 => tb { D with nx := N, ct := N, bk := D.nx } σ2 H2)
/-- the records at fp as they stand -/
def pinsAt (fp : List Addr) (h : Heap) : List (Addr × Obj) := fp.filterMap fun b => (h.get? b).map fun o => (b, o)
theorem mem_pinsAt {fp : List Addr} {h : Heap} {b : Addr} {o : Obj} (hb : b ∈ fp) (e : h.get? b = some o) : (b, o) ∈ pinsAt fp h := List.mem_filterMap.mpr ⟨b, hb, by rw [e]; rfl⟩
theorem of_pinsAt {fp : List Addr} {h : Heap} {p : Addr × Obj} (hp : p ∈ pinsAt fp h) : p.1 ∈ fp ∧ h.get? p.1 = some p.2 := by
  obtain ⟨b, hb, e⟩ := List.mem_filterMap.mp hp
  cases q : h.get? b with
  | none => rw [q] at e; cases e
  | some o =>
    rw [q] at e
    have e' : (b, o) = p := Option.some.inj e
    subst e'
    exact ⟨hb, q⟩
theorem Inv.pinned {pins : List (Addr × Obj)} {σ : St} {H : Hp} {s : Shared} {fp : List Addr} (I : Inv X pins σ H s) (hf : ∀ b ∈ fp, FpOk X pins H b) (ho : ∀ b ∈ fp, ∃ o, s.heap.get? b = some o ∧ ∀ v, o.data ≠ .cell v) : Inv X (pins ++ pinsAt fp s.heap) σ H s :=
  I.pins_of fun p hp => (List.mem_append.mp hp).elim (fun z => I.pin p (List.mem_append_right _ z)) fun z => by
    obtain ⟨hb, e⟩ := of_pinsAt z
    obtain ⟨f0, f1, f2, _⟩ := hf p.1 hb
    obtain ⟨o, e', d⟩ := ho p.1 hb
    rw [e] at e'; cases e'
    exact ⟨e, f0, f1, f2, d⟩
theorem Inv.unpinned {pins pl : List (Addr × Obj)} {σ : St} {H : Hp} {s : Shared} (I : Inv X (pins ++ pl) σ H s) : Inv X pins σ H s := I.pins_of fun p hp => I.pin p (List.mem_append_right _ (List.mem_append_left _ hp))
theorem ps_for {iter : Expr} {body : List Stmt} {wi : TI} {g : TG} {tb : TS} {pos : Pos} (hp : PassesOwn (model X.prog X.w) X.A X.env X.xe) (hc : X.calm = true) (hi : PI X tg iter wi) (hg : PG X tg g) (hb : PSs X body tb)
    (hs : ∀ x, foldedSetIterable iter X.env x = pure x := by intro _; rfl) : PS X (.For tg iter body [] pos) (tFor wi g tb) := by
  intro pins s σ H D I h
  refine wpAny_For (thn (hi pins s σ H _ I h) fun v s1 h1 => thn h1 fun itv s2 h2 => ?_) hs
  obtain ⟨it, fp, tn, J, H2, e, I2, T, st2, f2, W, ⟨m0, w0⟩, turn⟩ := h2
  subst e
  -- what stays true of the iterator's objects through the loop
  have stat : ∀ {H' : Hp}, (∀ b ∈ fp, H' b = none) → ∀ b ∈ fp, FpOk X pins H' b := fun hn b hb => ⟨hn b hb, (f2 b hb).2⟩
  refine codeAny_forLoop_any (fun n s' => ∃ i σ' H', Inv X pins σ' H' s' ∧ tn i s'.heap ∧ (∀ b ∈ fp, H' b = none) ∧ W i n σ' H') ?_ m0 ⟨0, σ, H2, I2, st2, fun b hb => (f2 b hb).1, w0⟩
  rintro n s3 ⟨i, σ3, H3, I3, st3, fr3, w3⟩
  rcases turn i n σ3 H3 w3 with ⟨stop, qn⟩ | ⟨go, N, hN, step⟩
  · refine wpAny_passesOwn hp (thn (T.done X rfl rfl rfl hc i pins s3 σ3 H3 X.xe I3 (stat fr3) st3 stop) fun r s4 ⟨hr, I4⟩ => ?_)
    subst hr
    exact wpAny_execs_nil ⟨σ3, H3, I4, qn⟩
  · refine wpAny_passesOwn hp (thn (T.item X rfl rfl rfl hc i pins s3 σ3 H3 X.xe I3 (stat fr3) st3 go) fun r s4 ⟨u, hr, h4⟩ => ?_)
    subst hr
    refine wpAny_passesOwn hp (thn h4 fun _ s5 ⟨x, H5, I5, r5, y5, st5, fr5⟩ => ?_)
    have I5' := I5.pinned (stat fr5) (T.obj _ _ st5)
    refine wpAny_passesOwn hp (thn (hg _ s5 σ3 H5 x u _ I5' r5 (step x H5 y5)) fun _ s6 ⟨σ6, H6, I6, q6⟩ => ?_)
    refine wpAny_passesOwn hp (thn (hb _ s6 σ6 H6 _ I6 q6) fun f s7 q7 => ?_)
    have again : ∀ {σ7 : St} {H7 : Hp}, Inv X (pins ++ pinsAt fp s5.heap) σ7 H7 s7 → N σ7 H7 → ∃ m, m < n ∧ ∃ i σ' H', Inv X pins σ' H' s7 ∧ tn i s7.heap ∧ (∀ b ∈ fp, H' b = none) ∧ W i m σ' H' := fun {σ7 H7} I7 n7 => by
      obtain ⟨m', hm, w7⟩ := hN σ7 H7 n7
      refine ⟨m', hm, i + 1, σ7, H7, I7.unpinned, T.keep _ _ _ st5 fun b hb o e => (I7.pin (b, o) (List.mem_append_right _ (List.mem_append_right _ (mem_pinsAt hb e)))).1, fun b hb => ?_, w7⟩
      obtain ⟨o, e, d⟩ := T.obj _ _ st5 b hb
      exact (I7.pin (b, o) (List.mem_append_right _ (List.mem_append_right _ (mem_pinsAt hb e)))).2.1
    cases f with
    | next => obtain ⟨σ7, H7, I7, n7⟩ := q7; exact again I7 n7
    | cont => obtain ⟨σ7, H7, I7, n7⟩ := q7; exact again I7 n7
    | brk => obtain ⟨σ7, H7, I7, q7⟩ := q7; exact ⟨σ7, H7, I7.unpinned, q7⟩
    | ret v => obtain ⟨x7, σ7, H7, I7, r7, q7⟩ := q7; exact ⟨x7, σ7, H7, I7.unpinned, r7, q7⟩
end

/-! ### the forms one uses -/
/-- over a list that the body leaves as it is -/
theorem for_list {K : PySem.W.Frag} {a : Addr} {xs : List V} {g : TG} {tb : TS} {D : Ends} {σ : St} {H : Hp} (Pv : Nat → St → Hp → Prop) (h0 : Pv 0 σ H) (hl : ∀ i σ H, i ≤ xs.length → Pv i σ H → SqL K H a xs)
    (hs : ∀ i x σ H, xs[i]? = some x → Pv i σ H → g x σ H fun σ2 H2 => tb { D with nx := Pv (i + 1), ct := Pv (i + 1), bk := D.nx } σ2 H2) (hd : ∀ σ H, Pv xs.length σ H → D.nx σ H) :
    ∃ W : Nat → Nat → St → Hp → Prop, (∃ m, W 0 m σ H) ∧ ∀ i m σ H, W i m σ H →
      ((Itl K a).stop i H ∧ D.nx σ H) ∨ ((Itl K a).go i H ∧ ∃ N : St → Hp → Prop, (∀ σ' H', N σ' H' → ∃ m', m' < m ∧ W (i + 1) m' σ' H') ∧ ∀ x H', (Itl K a).yld i H x H' → g x σ H' fun σ2 H2 => tb { D with nx := N, ct := N, bk := D.nx } σ2 H2) := by
  refine ⟨fun i m σ H => m = xs.length - i ∧ i ≤ xs.length ∧ Pv i σ H, ⟨xs.length, by simp, Nat.zero_le _, h0⟩, ?_⟩
  rintro i m σ H ⟨rfl, hi, p⟩
  have q := hl i σ H hi p
  by_cases hlt : i < xs.length
  · refine .inr ⟨⟨xs, xs[i], q, by simp [hlt]⟩, Pv (i + 1), fun σ' H' p' => ⟨xs.length - (i + 1), by omega, rfl, hlt, p'⟩, fun x H' y => ?_⟩
    obtain ⟨e, y⟩ := y
    subst e
    exact hs i x σ _ (y xs q) p
  · have e : i = xs.length := by omega
    subst e
    exact .inl ⟨⟨xs, q, Nat.le_refl _⟩, hd σ H p⟩
theorem for_tup {K : PySem.W.Frag} {a : Addr} {xs : List V} {g : TG} {tb : TS} {D : Ends} {σ : St} {H : Hp} (Pv : Nat → St → Hp → Prop) (h0 : Pv 0 σ H) (hl : ∀ i σ H, i ≤ xs.length → Pv i σ H → SqT K H a xs)
    (hs : ∀ i x σ H, xs[i]? = some x → Pv i σ H → g x σ H fun σ2 H2 => tb { D with nx := Pv (i + 1), ct := Pv (i + 1), bk := D.nx } σ2 H2) (hd : ∀ σ H, Pv xs.length σ H → D.nx σ H) :
    ∃ W : Nat → Nat → St → Hp → Prop, (∃ m, W 0 m σ H) ∧ ∀ i m σ H, W i m σ H →
      ((Itt K a).stop i H ∧ D.nx σ H) ∨ ((Itt K a).go i H ∧ ∃ N : St → Hp → Prop, (∀ σ' H', N σ' H' → ∃ m', m' < m ∧ W (i + 1) m' σ' H') ∧ ∀ x H', (Itt K a).yld i H x H' → g x σ H' fun σ2 H2 => tb { D with nx := N, ct := N, bk := D.nx } σ2 H2) := by
  refine ⟨fun i m σ H => m = xs.length - i ∧ i ≤ xs.length ∧ Pv i σ H, ⟨xs.length, by simp, Nat.zero_le _, h0⟩, ?_⟩
  rintro i m σ H ⟨rfl, hi, p⟩
  have q := hl i σ H hi p
  by_cases hlt : i < xs.length
  · refine .inr ⟨⟨xs, xs[i], q, by simp [hlt]⟩, Pv (i + 1), fun σ' H' p' => ⟨xs.length - (i + 1), by omega, rfl, hlt, p'⟩, fun x H' y => ?_⟩
    obtain ⟨e, y⟩ := y
    subst e
    exact hs i x σ _ (y xs q) p
  · have e : i = xs.length := by omega
    subst e
    exact .inl ⟨⟨xs, q, Nat.le_refl _⟩, hd σ H p⟩
theorem for_range {lo : Int} {n : Nat} {g : TG} {tb : TS} {D : Ends} {σ : St} {H : Hp} (Pv : Nat → St → Hp → Prop) (h0 : Pv 0 σ H)
    (hs : ∀ i σ H, i < n → Pv i σ H → g (.int (lo + i)) σ H fun σ2 H2 => tb { D with nx := Pv (i + 1), ct := Pv (i + 1), bk := D.nx } σ2 H2) (hd : ∀ σ H, Pv n σ H → D.nx σ H) :
    ∃ W : Nat → Nat → St → Hp → Prop, (∃ m, W 0 m σ H) ∧ ∀ i m σ H, W i m σ H →
      ((Itr lo n).stop i H ∧ D.nx σ H) ∨ ((Itr lo n).go i H ∧ ∃ N : St → Hp → Prop, (∀ σ' H', N σ' H' → ∃ m', m' < m ∧ W (i + 1) m' σ' H') ∧ ∀ x H', (Itr lo n).yld i H x H' → g x σ H' fun σ2 H2 => tb { D with nx := N, ct := N, bk := D.nx } σ2 H2) := by
  refine ⟨fun i m σ H => m = n - i ∧ i ≤ n ∧ Pv i σ H, ⟨n, by simp, Nat.zero_le _, h0⟩, ?_⟩
  rintro i m σ H ⟨rfl, hi, p⟩
  by_cases hlt : i < n
  · refine .inr ⟨hlt, Pv (i + 1), fun σ' H' p' => ⟨n - (i + 1), by omega, rfl, hlt, p'⟩, fun x H' y => ?_⟩
    obtain ⟨e, y⟩ := y
    subst e y
    exact hs i σ _ hlt p
  · have e : i = n := by omega
    subst e
    exact .inl ⟨Nat.le_refl _, hd σ H p⟩
end L2

namespace L2
open PySem PySem.Spec PyProof.Rows

abbrev R2 := V → V → Hp → VK → Prop
/-- a two-place operation on values: f is binaryOp op, inplaceOp op or compareOp op -/
def OpR (X : Cx) (f : Value → Value → Sem Value) (r : R2) : Prop :=
  ∀ (pins : List (Addr × Obj)) (s : Shared) (σ : St) (H : Hp) (x y : V) (v u : Value) (Q : VK), Inv X pins σ H s → RelV x v → RelV y u → r x y H Q →
    wpAny (model X.prog X.w) X.A (f v u) (EP X pins σ Q) X.xe s
/-- a one-place operation -/
def UnR (X : Cx) (f : Value → Sem Value) (r : V → Hp → VK → Prop) : Prop :=
  ∀ (pins : List (Addr × Obj)) (s : Shared) (σ : St) (H : Hp) (x : V) (v : Value) (Q : VK), Inv X pins σ H s → RelV x v → r x H Q →
    wpAny (model X.prog X.w) X.A (f v) (EP X pins σ Q) X.xe s
/-- a call of a value that is known (a builtin, a type) with values -/
def CallR (X : Cx) (f : Value) (r : List V → Hp → VK → Prop) : Prop :=
  ∀ (pins : List (Addr × Obj)) (s : Shared) (σ : St) (H : Hp) (xs : List V) (us : List Value) (Q : VK), Inv X pins σ H s → Vals xs us → r xs H Q →
    wpAny (model X.prog X.w) X.A (call f us) (EP X pins σ Q) X.xe s
/-- a value's truth -/
def TruR (X : Cx) (r : V → Hp → (Bool → Hp → Prop) → Prop) : Prop :=
  ∀ (pins : List (Addr × Obj)) (s : Shared) (σ : St) (H : Hp) (x : V) (v : Value) (Q : Bool → Hp → Prop), Inv X pins σ H s → RelV x v → r x H Q →
    wpAny (model X.prog X.w) X.A (truthy v) (TP X pins σ Q) X.xe s

def tOp (r : R2) (ta tb : TE) : TE := fun σ H Q => ta σ H fun x H1 => tb σ H1 fun y H2 => r x y H2 Q
def tUn (r : V → Hp → VK → Prop) (ta : TE) : TE := fun σ H Q => ta σ H fun x H1 => r x H1 Q
/-- ints in, under C, and a value out -/
def rI (C : Int → Int → Prop) (g : Int → Int → V) : R2 := fun x y H Q => ∃ i j, x = .int i ∧ y = .int j ∧ C i j ∧ Q (g i j) H
def rI0 (g : Int → Int → V) : R2 := fun x y H Q => ∃ i j, x = .int i ∧ y = .int j ∧ Q (g i j) H
def rU (g : Int → V) : V → Hp → VK → Prop := fun x H Q => ∃ i, x = .int i ∧ Q (g i) H

section
variable {X : Cx} {a b c : Expr} {ta tb tc : TE} {pos : Pos}

theorem binT (ha : PE X a ta) (hb : PE X b tb) {pins : List (Addr × Obj)} {s : Shared} {σ : St} {H : Hp} {R : V → V → Hp → Prop} (I : Inv X pins σ H s)
    (h : ta σ H fun x H1 => tb σ H1 fun y H2 => R x y H2) {Q : Value → Shared → Prop} {f : Value → Value → Sem Value}
    (hf : ∀ v u s2 x y H2, Inv X pins σ H2 s2 → RelV x v → RelV y u → R x y H2 → wpAny (model X.prog X.w) X.A (f v u) Q X.xe s2) :
    wpAny (model X.prog X.w) X.A (eval a X.env) (fun v s₁ => wpAny (model X.prog X.w) X.A (eval b X.env) (fun u s₂ => wpAny (model X.prog X.w) X.A (f v u) Q X.xe s₂) X.xe s₁) X.xe s := by
  refine thn (ha pins s σ H _ I h) fun v s1 ⟨x, H1, I1, r1, q1⟩ => ?_
  refine thn (hb pins s1 σ H1 _ I1 q1) fun u s2 ⟨y, H2, I2, r2, q2⟩ => ?_
  exact hf v u s2 x y H2 I2 r1 r2 q2

theorem pe_op {op : Operator} {r : R2} (ho : OpR X (binaryOp op) r) (ha : PE X a ta) (hb : PE X b tb) : PE X (.BinOp a op b pos) (tOp r ta tb) := by
  intro pins s σ H Q I h
  exact wpAny_BinOp (binT ha hb I h fun v u s2 x y H2 I2 rx ry q => ho pins s2 σ H2 x y v u Q I2 rx ry q)
theorem pe_un {op : UnaryOp} {r : V → Hp → VK → Prop} (ho : UnR X (unaryOp op) r) (ha : PE X a ta) : PE X (.UnaryOp op a pos) (tUn r ta) := by
  intro pins s σ H Q I h
  exact UnaryOp_ (thn (ha pins s σ H _ I h) fun v s1 ⟨x, H1, I1, r1, q1⟩ => ho pins s1 σ H1 x v Q I1 r1 q1)
/-! ### ints -/
theorem opI {f : Value → Value → Sem Value} {C : Int → Int → Prop} {g : Int → Int → Int}
    (rule : ∀ (i j : Int) (t u : Tok) (s : Shared) (Q : Value → Shared → Prop) (E : Value → Shared → Prop), C i j → Q (.int (g i j) s.toks) { s with toks := s.toks + 1 } → wpAny (model X.prog X.w) X.A (f (.int i t) (.int j u)) Q E s) :
    OpR X f (rI C fun i j => .int (g i j)) := by
  intro pins s σ H x y v u Q I rx ry h
  obtain ⟨i, j, rfl, rfl, hc, q⟩ := h
  obtain ⟨t, rfl⟩ := rx
  obtain ⟨t', rfl⟩ := ry
  exact rule i j t t' s _ _ hc ⟨.int (g i j), H, I.tok _, ⟨_, rfl⟩, q⟩
theorem opI0 {f : Value → Value → Sem Value} {g : Int → Int → Int}
    (rule : ∀ (i j : Int) (t u : Tok) (s : Shared) (Q : Value → Shared → Prop) (E : Value → Shared → Prop), Q (.int (g i j) s.toks) { s with toks := s.toks + 1 } → wpAny (model X.prog X.w) X.A (f (.int i t) (.int j u)) Q E s) :
    OpR X f (rI0 fun i j => .int (g i j)) := by
  intro pins s σ H x y v u Q I rx ry h
  obtain ⟨i, j, rfl, rfl, q⟩ := h
  obtain ⟨t, rfl⟩ := rx
  obtain ⟨t', rfl⟩ := ry
  exact rule i j t t' s _ _ ⟨.int (g i j), H, I.tok _, ⟨_, rfl⟩, q⟩
theorem opB0 {f : Value → Value → Sem Value} {g : Int → Int → Bool}
    (rule : ∀ (i j : Int) (t u : Tok) (s : Shared) (Q : Value → Shared → Prop) (E : Value → Shared → Prop), Q (.bool (g i j)) s → wpAny (model X.prog X.w) X.A (f (.int i t) (.int j u)) Q E s) :
    OpR X f (rI0 fun i j => .bl (g i j)) := by
  intro pins s σ H x y v u Q I rx ry h
  obtain ⟨i, j, rfl, rfl, q⟩ := h
  obtain ⟨t, rfl⟩ := rx
  obtain ⟨t', rfl⟩ := ry
  exact rule i j t t' s _ _ ⟨.bl (g i j), H, I, rfl, q⟩

def CDiv (i j : Int) : Prop := 0 < j ∧ j < 1073741824
def CDivN (i j : Int) : Prop := j ≠ 0 ∧ j.natAbs < 1073741824
def CPow (i j : Int) : Prop := 0 ≤ j ∧ j ≤ 1000000 ∧ i.natAbs < 2 ^ 64
def CMul (i j : Int) : Prop := (-(2 ^ 64) < i ∧ i < 2 ^ 64) ∨ (-(2 ^ 64) < j ∧ j < 2 ^ 64)
theorem CMul.ok {i j : Int} (h : CMul i j) : IntMulOk i j := by
  rcases h with ⟨h1, h2⟩ | ⟨h1, h2⟩
  · exact .of_left (intBits_le_64 h1 h2)
  · exact .of_right (intBits_le_64 h1 h2)
theorem op_add : OpR X (binaryOp .Add) (rI0 fun i j => .int (i + j)) := opI0 fun _ _ _ _ _ _ _ q => add_int q
theorem op_sub : OpR X (binaryOp .Sub) (rI0 fun i j => .int (i - j)) := opI0 fun _ _ _ _ _ _ _ q => sub_int q
theorem op_mul : OpR X (binaryOp .Mult) (rI CMul fun i j => .int (i * j)) := opI fun _ _ _ _ _ _ _ hc q => mul_int q hc.ok
/-- // by a positive divisor -/
theorem op_fdiv : OpR X (binaryOp .FloorDiv) (rI CDiv fun i j => .int (i / j)) := opI fun i j _ _ _ _ _ hc q => by
  have h1 : (0 : Int) < j := hc.1
  have h2 : j < 1073741824 := hc.2
  exact floordiv_int (by omega) (by rw [Int.fdiv_eq_ediv_of_nonneg i (by omega)]; exact q) (.inl (PyProof.noPylong_small (by omega)))
/-- % by a positive divisor of any size -/
theorem op_mod : OpR X (binaryOp .Mod) (rI (fun _ j => 0 < j) fun i j => .int (i % j)) := opI fun i j _ _ _ _ _ hc q => by
  have h1 : (0 : Int) < j := hc
  exact mod_int' (by omega) (by rw [Int.fmod_eq_emod_of_nonneg i (by omega)]; exact q)
theorem op_pow : OpR X (binaryOp .Pow) (rI CPow fun i j => .int (i ^ j.toNat)) := opI fun _ _ _ _ _ _ _ hc q => pow_int_small hc.1 hc.2.1 hc.2.2 q
theorem unI {f : Value → Sem Value} {g : Int → Int}
    (rule : ∀ (i : Int) (t : Tok) (s : Shared) (Q : Value → Shared → Prop) (E : Value → Shared → Prop), Q (.int (g i) s.toks) { s with toks := s.toks + 1 } → wpAny (model X.prog X.w) X.A (f (.int i t)) Q E s) :
    UnR X f (rU fun i => .int (g i)) := by
  intro pins s σ H x v Q I rx h
  obtain ⟨i, rfl, q⟩ := h
  obtain ⟨t, rfl⟩ := rx
  exact rule i t s _ _ ⟨.int (g i), H, I.tok _, ⟨_, rfl⟩, q⟩
theorem un_neg : UnR X (unaryOp .USub) (rU fun i => .int (-i)) := unI fun _ _ _ _ _ q => neg_int q
/-! ### bools among ints: n += (a < b) -/
end

/-! ### comparisons -/
/-- the scalars that == tells apart as data does -/
def scal : V → V → Bool
  | .non, .non => true | .non, .int _ => true | .int _, .non => true | .non, .bl _ => true | .bl _, .non => true | .non, .str _ => true | .str _, .non => true
  | .int _, .int _ => true | .bl _, .bl _ => true | .str _, .str _ => true | .byt _, .byt _ => true
  | .int _, .str _ => true | .str _, .int _ => true | .bl _, .str _ => true | .str _, .bl _ => true
  | _, _ => false
def rEq : R2 := fun x y H Q => scal x y = true ∧ Q (.bl (decide (x = y))) H
def rNe : R2 := fun x y H Q => scal x y = true ∧ Q (.bl (!decide (x = y))) H

theorem dec_int {i j : Int} : decide (V.int i = V.int j) = (i == j) := by
  rw [Bool.eq_iff_iff]
  simp
theorem dec_bl {i j : Bool} : decide (V.bl i = V.bl j) = (i == j) := by
  rw [Bool.eq_iff_iff]
  simp
theorem dec_str {i j : Str} : decide (V.str i = V.str j) = (i == j) := by
  rw [Bool.eq_iff_iff]
  simp
theorem dec_byt {i j : Array UInt8} : decide (V.byt i = V.byt j) = (i.toList == j.toList) := by
  rw [Bool.eq_iff_iff]
  cases i
  cases j
  simp

section
variable {X : Cx} {a b c : Expr} {ta tb tc : TE} {pos : Pos}
theorem fin_bl {pins : List (Addr × Obj)} {σ : St} {H : Hp} {s : Shared} {Q : VK} {k k' : Bool} (I : Inv X pins σ H s) (q : Q (.bl k) H) (e : k = k') : EP X pins σ Q (.bool k') s := by
  subst e
  exact ⟨.bl k, H, I, rfl, q⟩
theorem op_eq : OpR X (compareOp .Eq) rEq := by
  intro pins s σ H x y v u Q I rx ry h
  obtain ⟨hs, q⟩ := h
  cases x with
  | non =>
    cases rx
    cases y with
    | non => cases ry; exact PySem.EqNone.eq_none_none (fin_bl I q (by simp))
    | bl j => cases ry; exact PySem.EqNone.eq_none_bool (fin_bl I q (by simp))
    | int j => obtain ⟨t', rfl⟩ := ry; exact PySem.EqNone.eq_none_int (fin_bl I q (by simp))
    | str j => obtain ⟨t', rfl⟩ := ry; exact PySem.EqNone.eq_none_str (fin_bl I q (by simp))
    | _ => exact absurd (show false = true from hs) Bool.false_ne_true
  | bl i =>
    cases rx
    cases y with
    | non => cases ry; exact PySem.EqNone.eq_bool_none (fin_bl I q (by simp))
    | bl j => cases ry; exact eq_bool (fin_bl I q dec_bl)
    | str j => obtain ⟨t', rfl⟩ := ry; exact PySem.EqMixed.eq_bool_str (fin_bl I q (by simp))
    | _ => exact absurd (show false = true from hs) Bool.false_ne_true
  | int i =>
    obtain ⟨t, rfl⟩ := rx
    cases y with
    | non => cases ry; exact PySem.EqNone.eq_int_none (fin_bl I q (by simp))
    | int j => obtain ⟨t', rfl⟩ := ry; exact eq_int (fin_bl I q dec_int)
    | str j => obtain ⟨t', rfl⟩ := ry; exact PySem.EqMixed.eq_int_str (fin_bl I q (by simp))
    | _ => exact absurd (show false = true from hs) Bool.false_ne_true
  | str i =>
    obtain ⟨t, rfl⟩ := rx
    cases y with
    | non => cases ry; exact PySem.EqNone.eq_str_none (fin_bl I q (by simp))
    | bl j => cases ry; exact PySem.EqMixed.eq_str_bool (fin_bl I q (by simp))
    | int j => obtain ⟨t', rfl⟩ := ry; exact PySem.EqMixed.eq_str_int (fin_bl I q (by simp))
    | str j => obtain ⟨t', rfl⟩ := ry; exact eq_str (fin_bl I q dec_str)
    | _ => exact absurd (show false = true from hs) Bool.false_ne_true
  | byt i =>
    obtain ⟨t, rfl⟩ := rx
    cases y with
    | byt j => obtain ⟨t', rfl⟩ := ry; exact PySem.W.eq_bytes (fin_bl I q dec_byt)
    | _ => exact absurd (show false = true from hs) Bool.false_ne_true
  | _ => cases y <;> exact absurd (show false = true from hs) Bool.false_ne_true
theorem op_ne : OpR X (compareOp .NotEq) rNe := by
  intro pins s σ H x y v u Q I rx ry h
  obtain ⟨hs, q⟩ := h
  cases x with
  | non =>
    cases rx
    cases y with
    | non => cases ry; exact PySem.EqNone.ne_none_none (fin_bl I q (by simp))
    | bl j => cases ry; exact PySem.EqNone.ne_none_bool (fin_bl I q (by simp))
    | int j => obtain ⟨t', rfl⟩ := ry; exact PySem.EqNone.ne_none_int (fin_bl I q (by simp))
    | str j => obtain ⟨t', rfl⟩ := ry; exact PySem.EqNone.ne_none_str (fin_bl I q (by simp))
    | _ => exact absurd (show false = true from hs) Bool.false_ne_true
  | bl i =>
    cases rx
    cases y with
    | non => cases ry; exact PySem.EqNone.ne_bool_none (fin_bl I q (by simp))
    | bl j => cases ry; exact ne_bool (fin_bl I q (congrArg not dec_bl))
    | str j => obtain ⟨t', rfl⟩ := ry; exact PySem.EqMixed.ne_bool_str (fin_bl I q (by simp))
    | _ => exact absurd (show false = true from hs) Bool.false_ne_true
  | int i =>
    obtain ⟨t, rfl⟩ := rx
    cases y with
    | non => cases ry; exact PySem.EqNone.ne_int_none (fin_bl I q (by simp))
    | int j => obtain ⟨t', rfl⟩ := ry; exact ne_int (fin_bl I q (congrArg not dec_int))
    | str j => obtain ⟨t', rfl⟩ := ry; exact PySem.EqMixed.ne_int_str (fin_bl I q (by simp))
    | _ => exact absurd (show false = true from hs) Bool.false_ne_true
  | str i =>
    obtain ⟨t, rfl⟩ := rx
    cases y with
    | non => cases ry; exact PySem.EqNone.ne_str_none (fin_bl I q (by simp))
    | bl j => cases ry; exact PySem.EqMixed.ne_str_bool (fin_bl I q (by simp))
    | int j => obtain ⟨t', rfl⟩ := ry; exact PySem.EqMixed.ne_str_int (fin_bl I q (by simp))
    | str j => obtain ⟨t', rfl⟩ := ry; exact ne_str (fin_bl I q (congrArg not dec_str))
    | _ => exact absurd (show false = true from hs) Bool.false_ne_true
  | byt i =>
    obtain ⟨t, rfl⟩ := rx
    cases y with
    | byt j => obtain ⟨t', rfl⟩ := ry; exact PySem.W.ne_bytes (fin_bl I q (congrArg not dec_byt))
    | _ => exact absurd (show false = true from hs) Bool.false_ne_true
  | _ => cases y <;> exact absurd (show false = true from hs) Bool.false_ne_true

theorem op_lt : OpR X (compareOp .Lt) (rI0 fun i j => .bl (decide (i < j))) := opB0 fun _ _ _ _ _ _ _ q => lt_int q
theorem op_le : OpR X (compareOp .LtE) (rI0 fun i j => .bl (decide (i ≤ j))) := opB0 fun _ _ _ _ _ _ _ q => le_int q
theorem op_gt : OpR X (compareOp .Gt) (rI0 fun i j => .bl (decide (j < i))) := opB0 fun _ _ _ _ _ _ _ q => gt_int q
/-- the one string within the other -/
theorem op_in_str : OpR X (compareOp .In) (fun x y H Q => ∃ i j, x = .str i ∧ y = .str j ∧ Q (.bl (!(Builtin.Str.occurrences j i 0 j.length 1).isEmpty)) H) := by
  intro pins s σ H x y v u Q I rx ry h
  obtain ⟨i, j, rfl, rfl, q⟩ := h
  obtain ⟨t, rfl⟩ := rx
  obtain ⟨t', rfl⟩ := ry
  exact in_str (fin_bl I q rfl)

/-- is None, is not None: the right side a value none -/
theorem op_isN : OpR X (compareOp .Is) (fun x y H Q => y = .non ∧ Q (.bl (decide (x = .non))) H) := by
  intro pins s σ H x y v u Q I rx ry h
  obtain ⟨rfl, q⟩ := h
  cases ry
  refine is_none_gen (fin_bl I q ?_)
  cases x <;> first
    | (cases rx; rfl)
    | (obtain ⟨t, rfl⟩ := rx; rfl)
/-- is, is not of two objects that are tracked lists or instances -/
def isObj : HO → Bool
  | .lst _ => true
  | .ins _ _ _ => true
  | _ => false
/-- two rules for one operation: by cases -/
theorem OpR.or {f : Value → Value → Sem Value} {r r' : R2} (h : OpR X f r) (h' : OpR X f r') : OpR X f (fun x y H Q => r x y H Q ∨ r' x y H Q) := by
  intro pins s σ H x y v u Q I rx ry q
  rcases q with q | q
  · exact h pins s σ H x y v u Q I rx ry q
  · exact h' pins s σ H x y v u Q I rx ry q

theorem nomark (b : Expr) {op : CmpOp} (h : op ≠ .In := by decide) (h2 : op ≠ .NotIn := by decide) : behindInMarks op b = false := by
  have e1 : (op == CmpOp.In) = false := by cases op <;> first | rfl | exact absurd rfl h
  have e2 : (op == CmpOp.NotIn) = false := by cases op <;> first | rfl | exact absurd rfl h2
  cases b <;> simp [behindInMarks, e1, e2]
/-- a comparison as a value; hm: nomark b, or (for in, not in) by with_unfolding_all rfl -/
theorem pe_cmpR {op : CmpOp} {r : R2} (ho : OpR X (compareOp op) r) (ha : PE X a ta) (hb : PE X b tb) (hm : behindInMarks op b = false) : PE X (.Compare a [op] [b] pos) (tOp r ta tb) := by
  intro pins s σ H Q I h
  exact wpAny_Compare1 (binT ha hb I h fun v u s2 x y H2 I2 rx ry q => ho pins s2 σ H2 x y v u Q I2 rx ry q) hm
/-- a reading of a value as a test -/
def tTest (t : TE) : TT := fun σ H Q => t σ H fun x H' => ∃ k, x = .bl k ∧ Q k H'
theorem pt_cmpR {op : CmpOp} {r : R2} (ho : OpR X (compareOp op) r) (ha : PE X a ta) (hb : PE X b tb) (hm : behindInMarks op b = false) : PT X (.Compare a [op] [b] pos) (tTest (tOp r ta tb)) := by
  intro pins s σ H Q I h
  refine wpAny_isTrue_Compare1 (thn (ha pins s σ H _ I h) fun v s1 ⟨x, H1, I1, r1, q1⟩ => thn (hb pins s1 σ H1 _ I1 q1) fun u s2 ⟨y, H2, I2, r2, q2⟩ =>
    thn (ho pins s2 σ H2 x y v u _ I2 r1 r2 q2) fun c s3 ⟨z, H3, I3, r3, k, e, q3⟩ => ?_) hm
  subst e
  cases r3
  exact wpAny_truthy_bool ⟨H3, I3, q3⟩
/-- a op1 b op2 c -/
def tChain (r r' : R2) (ta tb tc : TE) : TE := fun σ H Q => ta σ H fun x H1 => tb σ H1 fun y H2 => r x y H2 fun z H3 => ∃ k, z = .bl k ∧
  (if k = true then tc σ H3 fun w' H4 => r' y w' H4 Q else Q (.bl false) H3)
/-! ### truth -/
/-- a value's truth by the abstract heap -/
def TruV (K : PySem.W.Frag) (x : V) (H : Hp) (k : Bool) : Prop :=
  match x with
  | .non => k = false
  | .bl b => k = b
  | .int i => k = (i != 0)
  | .str y => y.length ≤ sizeLine ∧ k = ((y.length : Int) != 0)
  | .byt y => y.size ≤ sizeLine ∧ k = ((y.size : Int) != 0)
  | .ref p => (∃ xs, SqL K H p xs ∧ k = !xs.isEmpty) ∨ (∃ xs, SqT K H p xs ∧ k = !xs.isEmpty) ∨ ∃ kvs, H p = some (.dK kvs) ∧ k = !kvs.isEmpty
  | _ => False
theorem line63 : (sizeLine : Nat) < 2 ^ 63 := by rw [sizeLine_eq]; decide
/-! ### strs and bytes -/
theorem op_add_str : OpR X (binaryOp .Add) (fun x y H Q => ∃ i j, x = .str i ∧ y = .str j ∧ i.length + j.length ≤ sizeLine ∧ Q (.str (i ++ j)) H) := by
  intro pins s σ H x y v u Q I rx ry h
  obtain ⟨i, j, rfl, rfl, hz, q⟩ := h
  obtain ⟨t, rfl⟩ := rx
  obtain ⟨t', rfl⟩ := ry
  exact add_str (fun t' tk => ⟨.str (i ++ j), H, I.tok _, ⟨_, rfl⟩, q⟩) hz
def PlainIxT (b : Expr) : Prop := ∀ o i, subscripted b false o i = operate [o, i] (getItem o i)
/-! ### scalar builtins, by CallR -/
theorem vals1 {x : V} {us : List Value} (r : Vals [x] us) : ∃ u, us = [u] ∧ RelV x u := by
  cases r with
  | cons r1 r2 => cases r2; exact ⟨_, rfl, r1⟩
theorem vals2 {x y : V} {us : List Value} (r : Vals [x, y] us) : ∃ u w', us = [u, w'] ∧ RelV x u ∧ RelV y w' := by
  cases r with
  | cons r1 r2 =>
    cases r2 with
    | cons r3 r4 => cases r4; exact ⟨_, _, rfl, r1, r3⟩
theorem call_abs : CallR X (.builtin "abs") (fun xs H Q => ∃ i, xs = [.int i] ∧ Q (.int (if i < 0 then -i else i)) H) := by
  intro pins s σ H xs us Q I r h
  obtain ⟨i, rfl, q⟩ := h
  obtain ⟨u, rfl, t, rfl⟩ := vals1 r
  exact call_abs_int fun u tk => ⟨.int (if i < 0 then -i else i), H, I.tok _, ⟨_, rfl⟩, q⟩
theorem call_str_int : CallR X (.type "str") (fun xs H Q => ∃ i, xs = [.int i] ∧ i.natAbs.log2 < 1920 ∧ Q (.str (toString i)) H) := by
  intro pins s σ H xs us Q I r h
  obtain ⟨i, rfl, hz, q⟩ := h
  obtain ⟨u, rfl, t, rfl⟩ := vals1 r
  exact PySem.P.str_of_int hz ⟨.str _, H, I.tok _, ⟨_, rfl⟩, q⟩
/-- len of a str, a bytes, a list, a tuple -/
def LenV (K : PySem.W.Frag) (x : V) (H : Hp) (n : Nat) : Prop :=
  match x with
  | .str y => y.length ≤ sizeLine ∧ n = y.length
  | .byt y => y.size ≤ sizeLine ∧ n = y.size
  | .ref p => (∃ xs, SqL K H p xs ∧ n = xs.length) ∨ ∃ xs, SqT K H p xs ∧ n = xs.length
  | _ => False
theorem call_len : CallR X (.builtin "len") (fun xs H Q => ∃ x n, xs = [x] ∧ LenV X.K x H n ∧ Q (.int n) H) := by
  intro pins s σ H xs us Q I r h
  obtain ⟨x, n, rfl, e, q⟩ := h
  obtain ⟨u, rfl, rx⟩ := vals1 r
  have hl := line63
  have hs : sizeLine = 16777216 := sizeLine_eq
  cases x with
  | str y =>
    obtain ⟨t, rfl⟩ := rx
    obtain ⟨hy, e'⟩ : y.length ≤ sizeLine ∧ n = y.length := e
    subst e'
    exact len_str (by omega) ⟨.int _, H, I.tok _, ⟨_, rfl⟩, q⟩
  | byt y =>
    obtain ⟨t, rfl⟩ := rx
    obtain ⟨hy, e'⟩ : y.size ≤ sizeLine ∧ n = y.size := e
    subst e'
    exact PySem.W.len_bytes (by omega) ⟨.int _, H, I.tok _, ⟨_, rfl⟩, q⟩
  | ref p =>
    cases rx
    have e' : (∃ xs, SqL X.K H p xs ∧ n = xs.length) ∨ ∃ xs, SqT X.K H p xs ∧ n = xs.length := e
    rcases e' with ⟨xs, hx, e'⟩ | ⟨xs, hx, e'⟩
    · subst e'
      obtain ⟨its, r', pl, hz⟩ := I.list hx
      have hlen := r'.length
      exact Calls.call_len_list pl.isList (by simp only [List.size_toArray]; omega) ⟨.int xs.length, H, I.tok _, ⟨_, by simp only [List.size_toArray]; rw [hlen]⟩, q⟩
    · subst e'
      obtain ⟨its, r', pl, hz⟩ := I.tuple hx
      have hlen := r'.length
      exact len_tuple pl (by simp only [List.size_toArray]; omega) ⟨.int xs.length, H, I.tok _, ⟨_, by simp only [List.size_toArray]; rw [hlen]⟩, q⟩
  | _ => exact (show False from e).elim
end
end L2

namespace L2
open PySem PySem.Spec PyProof.Rows

/-! ### an instance, its attributes a map -/
structure ObjM (h : Heap) (x dx C : Addr) (mA : Str → Option Value) : Prop where
  obj : h.get? x = some (PySem.W.instObj C dx)
  ns : h.Ns1 dx mA
  ne : dx ≠ x

theorem lookIn_ns {h : Heap} {dx : Addr} {mA : Str → Option Value} (n : h.Ns1 dx mA) : ∃ od, h.get? dx = some od ∧ ∀ name, PySem.W.lookIn name od = some (mA name) := by
  obtain ⟨o, es, ep, ho, hd, hk, _, hm⟩ := n
  refine ⟨o, ho, fun name => ?_⟩
  have e := hm name
  unfold nsFind findBy at e
  rw [← Array.find?_toList] at e
  unfold PySem.W.lookIn
  rw [hd]
  dsimp only
  split
  · rename_i y q
    rw [q] at e
    exact congrArg some e
  · rename_i q
    rw [q] at e
    have a : es.toList.any (·.refKey) = false := by
      rw [List.any_eq_false]
      intro y hy
      obtain ⟨z, t, hkey⟩ := hk y (Array.mem_toList_iff.mp hy)
      simp [DictEntry.refKey, hkey]
    have a' : ¬ es.toList.any (·.refKey) = true := by rw [a]; exact Bool.false_ne_true
    rw [if_neg a']
    exact congrArg some e

theorem ObjM.look {h : Heap} {x dx C : Addr} {mA : Str → Option Value} (I : ObjM h x dx C mA) : ∃ od, PySem.W.InstAt h x (PySem.W.instObj C dx) C (some od) ∧ ∀ name, PySem.W.lookIn name od = some (mA name) :=
  let ⟨od, ho, hl⟩ := lookIn_ns I.ns
  ⟨od, ⟨I.obj, rfl, rfl, ho⟩, hl⟩

section
variable {prog : Program} {w : World} {A : Around} {E : Value → Shared → Prop} {s : Shared} {K : PySem.W.Frag} {x dx C f : Addr} {mA : Str → Option Value} {name : Str} {v : Value}

end

/-! ### the attributes as a list of pairs -/
def putF (f : Str) (v : V) : List (Str × V) → List (Str × V)
  | [] => [(f, v)]
  | (g, x) :: r => if g = f then (g, v) :: r else (g, x) :: putF f v r
theorem RelO.none_of {o : Option Value} (r : RelO none o) : o = none := by
  cases o with
  | none => rfl
  | some u => exact (show False from r).elim
section
variable {P : Program} {w : World} {H H' : Hp} {h h' : Heap} {a C dx : Addr} {fs fs' : List (Str × V)}
end

/-! ### what of the text a class must have -/
structure Cls (K : PySem.W.Frag) (C : Addr) : Prop where
  pg : PySem.W.plainGet K C Str.empty = true
  hd : PySem.W.hasDictIn K C = true
  po : PySem.W.plainOver K C = true
  sa : PySem.W.findIn K (.ref C) "__setattr__" = some (some (.builtin "object.__setattr__"))
theorem Cls.get {K : PySem.W.Frag} {C : Addr} (c : Cls K C) (f : Str) : PySem.W.plainGet K C f = true := c.pg
/-- no class of it has the name -/
def NoAttr (K : PySem.W.Frag) (C : Addr) (f : Str) : Prop := PySem.W.findIn K (.ref C) f = some none
/-- a constant of the class -/
structure Con (K : PySem.W.Frag) (C : Addr) (f : Str) (v : V) (u : Value) : Prop where
  at_ : PySem.W.findIn K (.ref C) f = some (some u)
  rel : RelV v u
  get : PySem.W.specialIn K u "__get__" = some none
  cp : PySem.W.copiedNames.contains f = false
/-- a method: a plain def of the class or of one above it -/
structure Meth (K : PySem.W.Frag) (C : Addr) (m : Str) (f : Addr) : Prop where
  at_ : PySem.W.findIn K (.ref C) m = some (some (.ref f))
  fn : PySem.W.isFn K (.ref f) = true
  kp : PySem.W.keepIn K (.ref f) = true

section
variable {X : Cx} {pins : List (Addr × Obj)} {σ : St} {H : Hp} {s : Shared} {a C dx : Addr} {fs : List (Str × V)} {f : Str} {v : V} {A : Around} {E : Value → Shared → Prop}

/-- a new instance, tracked, without attributes -/
theorem Inv.made (I : Inv X pins σ H s) : Inv X pins σ (upd (upd H s.heap.objs.size (.own (s.heap.objs.size + 1))) (s.heap.objs.size + 1) (.ins C s.heap.objs.size []))
    { s with heap := (s.heap.push PySem.W.emptyDict).push (PySem.W.instObj C s.heap.objs.size) } := by
  have e1 : (s.heap.push PySem.W.emptyDict).get? s.heap.objs.size = some PySem.W.emptyDict := Heap.get?_push_size s.heap rfl
  have e2 : ((s.heap.push PySem.W.emptyDict).push (PySem.W.instObj C s.heap.objs.size)).get? (s.heap.objs.size + 1) = some (PySem.W.instObj C s.heap.objs.size) := by
    have := Heap.get?_push_size (s.heap.push PySem.W.emptyDict) (o := PySem.W.instObj C s.heap.objs.size) rfl
    rwa [Heap.size_push] at this
  have e3 : (s.heap.push PySem.W.emptyDict).Ns s.heap.objs.size (fun _ => none) := ⟨PySem.W.emptyDict, #[], _, e1, rfl, (fun e he => absurd he (by simp)), fun _ => rfl⟩
  have I1 := I.laid (a := s.heap.objs.size) (o := .own (s.heap.objs.size + 1)) (h' := s.heap.push PySem.W.emptyDict) (t' := s.toks) (fun b u q => Heap.get?_push_of_some _ q) (Nat.le_refl _) ⟨_, e1⟩
  refine I1.laid (a := s.heap.objs.size + 1) (o := .ins C s.heap.objs.size []) (t' := s.toks) (fun b u q => Heap.get?_push_of_some _ q) (Nat.le_of_eq (Heap.size_push _ _)) ?_
  have ne : s.heap.objs.size ≠ s.heap.objs.size + 1 := Nat.ne_of_lt (Nat.lt_succ_self _)
  refine ⟨by rw [upd_ne ne, upd_same], Nat.zero_le _, ne, e2, fun _ => none, (Heap.Ns1.of_empty e3).at fun o q => Heap.get?_push_of_some _ q, fun _ => True.intro, fun y hy => absurd rfl hy⟩

end

/-! ### readings and rules -/
/-- e.f, an attribute of the instance -/
def tFld (K : PySem.W.Frag) (ta : TE) (f : Str) : TE := fun σ H Q => ta σ H fun x H1 => ∃ a C dx fs v, x = .ref a ∧ H1 a = some (.ins C dx fs) ∧ Cls K C ∧ NoAttr K C f ∧ fs.lookup f = some v ∧ Q v H1
/-- e.f, a constant of the class -/
def tCon (K : PySem.W.Frag) (ta : TE) (f : Str) : TE := fun σ H Q => ta σ H fun x H1 => ∃ a C dx fs v u, x = .ref a ∧ H1 a = some (.ins C dx fs) ∧ Cls K C ∧ Con K C f v u ∧ fs.lookup f = none ∧ Q v H1
/-- e.f = value -/
def sFld (K : PySem.W.Frag) (ta tv : TE) (f : Str) : TS := fun D σ H => tv σ H fun y H1 => ta σ H1 fun x H2 => ∃ a C dx fs, x = .ref a ∧ H2 a = some (.ins C dx fs) ∧ Cls K C ∧ NoAttr K C f ∧ fs.length < 1000 ∧
  D.nx σ (upd H2 a (.ins C dx (putF f y fs)))
/-- an augmented operator on two values -/
def InOp (X : Cx) (op : Operator) (rd : V → V → Hp → VK → Prop) : Prop :=
  ∀ (pins : List (Addr × Obj)) (s : Shared) (σ : St) (H : Hp) (x y : V) (u v : Value) (Q : VK), Inv X pins σ H s → RelV x u → RelV y v → rd x y H Q → wpAny (model X.prog X.w) X.A (inplaceOp op u v) (EP X pins σ Q) X.xe s
/-- e.f op= value -/
def sFldAug (K : PySem.W.Frag) (ta tv : TE) (rd : V → V → Hp → VK → Prop) (f : Str) : TS := fun D σ H => ta σ H fun x H1 => ∃ a C dx fs v, x = .ref a ∧ H1 a = some (.ins C dx fs) ∧ Cls K C ∧ NoAttr K C f ∧ fs.lookup f = some v ∧
  tv σ H1 fun y H2 => rd v y H2 fun z H3 => ∃ dx' fs', H3 a = some (.ins C dx' fs') ∧ fs'.length < 1000 ∧ D.nx σ (upd H3 a (.ins C dx' (putF f z fs')))

section
variable {X : Cx} {o e value : Expr} {f : Str} {pos pos' tpos : Pos} {ta tv : TE}
def rAdd : V → V → Hp → VK → Prop := fun x y H Q => ∃ i j, x = .int i ∧ y = .int j ∧ Q (.int (i + j)) H
def rSub : V → V → Hp → VK → Prop := fun x y H Q => ∃ i j, x = .int i ∧ y = .int j ∧ Q (.int (i - j)) H
end

/-! ### isinstance -/
section
variable {X : Cx} {pins : List (Addr × Obj)} {σ : St} {H : Hp} {s : Shared} {A : Around} {E : Value → Shared → Prop} {Q : Value → Shared → Prop} {c : Value} {b : Bool}
/-- the type of a value, as the fragment's deciders take it; for an instance its class -/
inductive TyOf (K : PySem.W.Frag) (H : Hp) : V → Value → Prop where
  | non : TyOf K H .non (.type "NoneType")
  | bl (x : Bool) : TyOf K H (.bl x) (.type "bool")
  | int (i : Int) : TyOf K H (.int i) (.type "int")
  | str (x : Str) : TyOf K H (.str x) (.type "str")
  | flt (x : UInt64) : TyOf K H (.flt x) (.type "float")
  | lst {a : Addr} {xs : List V} (e : H a = some (.lst xs)) : TyOf K H (.ref a) (.type "list")
  | frz {a : Addr} {o : Obj} {xs : List V} (e : H a = some (.frz o (.lst xs))) : TyOf K H (.ref a) (.type "list")
  | tup {a : Addr} {xs : List V} (e : H a = some (.tup xs)) : TyOf K H (.ref a) (.type "tuple")
  | dK {a : Addr} {kvs : List (Key × V)} (e : H a = some (.dK kvs)) : TyOf K H (.ref a) (.type "dict")
  | dT {a : Addr} {kvs : List (List Key × V)} (e : H a = some (.dT kvs)) : TyOf K H (.ref a) (.type "dict")
  | ins {a C dx : Addr} {fs : List (Str × V)} (e : H a = some (.ins C dx fs)) (cl : Cls K C) (ha : PySem.W.findIn K (.ref C) "__class__" = some (some (.builtin "object.__class__")))
      (hn : PySem.W.specialIn K (.builtin "object.__class__") "__get__" = some (some (.builtin "getset_descriptor.__get__"))) (htk : PySem.W.takesIn K (.builtin "object.__class__") = some true)
      (hm : PySem.W.mroIn K C (.type "object") = some true) : TyOf K H (.ref a) (.ref C)
end
end L2

namespace L2
open PySem PySem.Spec PyProof.Rows

/-! ### room -/
structure Room (k : Nat) (A : Around) : Prop where
  hd : A.handled = none
  dp : A.depth + 3 * k + 5 < recursionLimit
  un : A.units + 16 * k + 200 < cLine
theorem Room.mono {j k : Nat} {A : Around} (r : Room k A) (h : j ≤ k) : Room j A := ⟨r.hd, by have := r.dp; omega, by have := r.un; omega⟩
theorem Room.deeper {k : Nat} {A : Around} (r : Room (k + 1) A) (env : Env) : Room k (A.deeper env) :=
  ⟨r.hd, by have := r.dp; show A.depth + 1 + 3 * k + 5 < _; omega, by have := r.un; show A.units + 3 + 16 * k + 200 < _; omega⟩
theorem Room.in1 {k : Nat} {A : Around} (r : Room (k + 1) A) : Room k A.in1 :=
  ⟨r.hd, by have := r.dp; show A.depth + 3 * k + 5 < _; omega, by have := r.un; show A.units + 1 + 16 * k + 200 < _; omega⟩
theorem make_depth {A : Around} {C : Addr} {us : List Value} {kw : List (Str × Value)} : (A.under (.builtin "type.__call__" ⟨.ref C :: us, kw⟩)).depth = A.depth + 1 := by
  first | rfl | simp [Around.under, Code.weight, Code.isCreation, Code.isGuard, Code.isCaller, Code.frames, Code.isFrame, guardIds]
theorem make_units {A : Around} {C : Addr} {us : List Value} {kw : List (Str × Value)} : (A.under (.builtin "type.__call__" ⟨.ref C :: us, kw⟩)).units = A.units + 1 := by
  first | rfl | simp [Around.under, Code.cUnits, Code.frames, Code.isFrame]
theorem Room.make {k : Nat} {A : Around} (r : Room (k + 1) A) (C : Addr) (us : List Value) (kw : List (Str × Value)) : Room k (A.under (.builtin "type.__call__" ⟨.ref C :: us, kw⟩)) :=
  ⟨r.hd, by have := r.dp; rw [make_depth]; omega, by have := r.un; rw [make_units]; omega⟩
theorem Room.depth {k : Nat} {A : Around} (r : Room k A) : A.depth < recursionLimit := by have := r.dp; omega
theorem Room.units {k : Nat} {A : Around} (r : Room k A) : A.units + 64 < cLine := by have := r.un; omega
/-! ### argument lists and displays -/
def tNil : TA := fun _ H Q => Q [] H
def tCons (ta : TE) (tr : TA) : TA := fun σ H Q => ta σ H fun x H1 => tr σ H1 fun xs H2 => Q (x :: xs) H2
section
variable {X : Cx} {e : Expr} {es : List Expr} {te : TE} {t : TA} {pos : Pos}
theorem pa_nil : PA X [] tNil := fun _ _ _ _ H Q I h => Calls.spliced_nil ⟨[], H, I, .nil, h⟩
theorem pa_cons (ha : PE X e te) (hr : PA X es t) (hs : starEach (e :: es) X.env = (false, eval e X.env) :: starEach es X.env := by rfl) : PA X (e :: es) (tCons te t) := by
  intro pos pins s σ H Q I h
  rw [hs]
  show wpAny _ _ (spliced ((false, eval e X.env) :: backTo pos (starEach es X.env))) _ _ s
  refine Calls.spliced_cons (thn (ha pins s σ H _ I h) fun u s1 ⟨x, H1, I1, r1, q1⟩ => ?_)
  exact thn (hr pos pins s1 σ H1 _ I1 q1) fun us s2 ⟨xs, H2, I2, r2, q2⟩ => ⟨x :: xs, H2, I2, .cons r1 r2, q2⟩

/-- a tuple, a list of written items -/
def tTup (t : TA) : TE := fun σ H Q => t σ H fun xs H1 => xs.length ≤ sizeLine ∧ ∀ p, H1 p = none → Q (.ref p) (upd H1 p (.tup xs))
def tLst (t : TA) : TE := fun σ H Q => t σ H fun xs H1 => xs.length ≤ sizeLine ∧ ∀ p, H1 p = none → Q (.ref p) (upd H1 p (.lst xs))
theorem pe_tup {x1} (h : PA X es t) : PE X (.Tuple es x1 pos) (tTup t) := by
  intro pins s σ H Q I hq
  refine wpAny_Tuple_spliced (thn (h pos pins s σ H _ I hq) fun us s1 ⟨xs, H1, I1, r, z, q⟩ => ⟨by rw [← r.length]; exact z, ?_⟩)
  have hf : H1 s1.heap.objs.size = none := I1.hok.fresh (Nat.le_refl _)
  refine ⟨.ref s1.heap.objs.size, upd H1 s1.heap.objs.size (.tup xs), I1.laid (t' := s1.toks) (fun b u e => Heap.get?_push_of_some _ e) (Nat.le_refl _) ?_, rfl, q _ hf⟩
  exact ⟨z, us, r, ⟨_, Heap.get?_push_size _ rfl, rfl, _, rfl⟩⟩
theorem pe_lst (h : PA X es t) : PE X (.List es pos) (tLst t) := by
  intro pins s σ H Q I hq
  refine wpAny_List_spliced (thn (h pos pins s σ H _ I hq) fun us s1 ⟨xs, H1, I1, r, z, q⟩ => ⟨by rw [← r.length]; exact z, ?_⟩)
  have hf : H1 s1.heap.objs.size = none := I1.hok.fresh (Nat.le_refl _)
  refine ⟨.ref s1.heap.objs.size, upd H1 s1.heap.objs.size (.lst xs), I1.laid (t' := s1.toks) (fun b u e => Heap.get?_push_of_some _ e) (Nat.le_refl _) ?_, rfl, q _ hf⟩
  exact ⟨z, us, 0, r, Heap.get?_push_size _ rfl⟩
end

/-! ### what a def promises -/
/-- a def's promise: the bound arguments in the parameters' order, the heap, the wanted end, the wanted exception -/
abbrev Sp := List V → Hp → VK → XK → Prop
/-- how an exception lies behind a call (file 08 gives it): the callers' frames, abstract heap and state ahead of the call, the wish, the exception, the state -/
abbrev CXT := List Env → Hp → Shared → XK → Value → Shared → Prop

/-- the state at a call -/
structure Env0 (P : Program) (w : World) (K : PySem.W.Frag) (mg : Str → Option Value) (base : Heap) (A : Around) (outer : List Env) (s : Shared) (H : Hp) : Prop where
  frames : A.frames = some outer
  mod : Mod K mg base
  bs : ∀ b o, base.get? b = some o → s.heap.get? b = some o ∧ H b = none
  bsz : base.objs.size ≤ s.heap.objs.size
  funs : s.heap.FunFrames base outer
  frf : ∀ b ∈ frs outer, H b = none
  hok : HOk P w H s.heap
  bare : AllBare s.gens
/-- a call's end -/
def CE (outer : List Env) (P : Program) (w : World) (H : Hp) (s : Shared) (Q : VK) (u : Value) (s' : Shared) : Prop :=
  ∃ v H', s'.os = s.os ∧ AllBare s'.gens ∧ Un (frs outer) [] H H' s.heap s'.heap ∧ HOk P w H' s'.heap ∧ RelV v u ∧ Q v H'
def CR (CX : CXT) (outer : List Env) (P : Program) (w : World) (H : Hp) (s : Shared) (Q : VK) (E : XK) (r : Result) (s' : Shared) : Prop :=
  match r with
  | .ok (.ret u) => CE outer P w H s Q u s'
  | .ok _ => False
  | .error e => CX outer H s E e s'
structure FnOk (P : Program) (w : World) (K : PySem.W.Frag) (mg : Str → Option Value) (base : Heap) (CX : CXT) (k : Nat) (f : Addr) (fd : FuncData) (ps : List Str) (sp : Sp) : Prop where
  len : ∀ vs H Q E, sp vs H Q E → vs.length = ps.length
  run : ∀ (A : Around) (outer : List Env) (s : Shared) (H : Hp) (args : Args) (us : List Value) (vs : List V) (Q : VK) (E : XK), Room k A → Env0 P w K mg base A outer s H → BindsTo s fd args (ps.zip us) → Vals vs us → sp vs H Q E →
    codeAny (model P w) A (.call (.ref f) args) (CR CX outer P w H s Q E) s
theorem FnOk.mono {P : Program} {w : World} {K : PySem.W.Frag} {mg : Str → Option Value} {base : Heap} {CX : CXT} {j k : Nat} {f : Addr} {fd : FuncData} {ps : List Str} {sp : Sp} (F : FnOk P w K mg base CX j f fd ps sp) (h : j ≤ k) :
    FnOk P w K mg base CX k f fd ps sp := ⟨F.len, fun A outer s H args us vs Q E hr => F.run A outer s H args us vs Q E (hr.mono h)⟩
/-- a weaker promise -/
theorem FnOk.imp {P : Program} {w : World} {K : PySem.W.Frag} {mg : Str → Option Value} {base : Heap} {CX : CXT} {k : Nat} {f : Addr} {fd : FuncData} {ps : List Str} {sp sp' : Sp} (F : FnOk P w K mg base CX k f fd ps sp)
    (h : ∀ vs H Q E, sp' vs H Q E → sp vs H Q E) : FnOk P w K mg base CX k f fd ps sp' :=
  ⟨fun vs H Q E q => F.len vs H Q E (h _ _ _ _ q), fun A outer s H args us vs Q E hr he hb hv hs => F.run A outer s H args us vs Q E hr he hb hv (h _ _ _ _ hs)⟩

theorem Env0.make {P : Program} {w : World} {K : PySem.W.Frag} {mg : Str → Option Value} {base : Heap} {A : Around} {outer : List Env} {s : Shared} {H : Hp} (e : Env0 P w K mg base A outer s H) (C : Addr) (us : List Value) (kw : List (Str × Value)) :
    Env0 P w K mg base (A.under (.builtin "type.__call__" ⟨.ref C :: us, kw⟩)) outer s H := ⟨by first | exact e.frames | (simpa [Around.under, Code.envs, Code.isFrame, pushEnvs] using e.frames), e.mod, e.bs, e.bsz, e.funs, e.frf, e.hok, e.bare⟩
theorem Env0.in1 {P : Program} {w : World} {K : PySem.W.Frag} {mg : Str → Option Value} {base : Heap} {A : Around} {outer : List Env} {s : Shared} {H : Hp} (e : Env0 P w K mg base A outer s H) :
    Env0 P w K mg base A.in1 outer s H := ⟨e.frames, e.mod, e.bs, e.bsz, e.funs, e.frf, e.hok, e.bare⟩

section
variable {X : Cx} {pins : List (Addr × Obj)} {σ : St} {H : Hp} {s s' : Shared}
/-- from a body: what a callee wants -/
theorem Inv.env0 (I : Inv X pins σ H s) : Env0 X.prog X.w X.K X.mg X.base X.A X.stack s H :=
  ⟨I.ok.frames, I.ok.mod, I.bs, Nat.le_trans I.ok.bsz I.sz, I.stack, I.stkFree, I.hok, I.bare⟩
/-- behind a call -/
theorem Inv.after {Q : VK} {u : Value} (I : Inv X pins σ H s) (h : CE X.stack X.prog X.w H s Q u s') : EP X pins σ Q u s' := by
  obtain ⟨v, H', os, bare, un, hok, r, q⟩ := h
  obtain ⟨hh, g, d, t, os'⟩ := s'
  obtain rfl : os' = s.os := os
  exact ⟨v, H', I.call (h' := hh) (g' := g) (d' := d) (t' := t) (ch := []) un hok bare (fun b z => absurd z (by simp)), r, q⟩
end

/-! ### calls -/
/-- f(..): the written arguments, then the defaults dvs; E: what is wanted of an exception -/
def tCall (sp : Sp) (dvs : List V) (E : XK) (t : TA) : TE := fun σ H Q => t σ H fun vs H1 => sp (vs ++ dvs) H1 Q E
/-- o.m(..) of an instance of the class at C -/
def tMeth (C : Addr) (m : Str) (sp : Sp) (dvs : List V) (E : XK) (ta : TE) (t : TA) : TE := fun σ H Q => ta σ H fun x H1 => ∃ a dx fs, x = .ref a ∧ H1 a = some (.ins C dx fs) ∧ fs.lookup m = none ∧
  t σ H1 fun vs H2 => sp (x :: (vs ++ dvs)) H2 Q E
/-- C(..): a new instance and its dict, then __init__ -/
def tMake (C : Addr) (sp : Sp) (dvs : List V) (E : XK) (t : TA) : TE := fun σ H Q => t σ H fun vs H1 => ∀ x dx, H1 x = none → H1 dx = none → dx ≠ x →
  sp (.ref x :: (vs ++ dvs)) (upd (upd H1 dx (.own x)) x (.ins C dx [])) (fun v H2 => v = .non ∧ Q (.ref x) H2) E

/-- how the parameters are bound: us the positional arguments, kw the keywords' values by name, ds the defaults that fill up -/
def Binds (K : PySem.W.Frag) (fd : FuncData) (ps : List Str) (ds : List Value) : Prop :=
  ∀ (s : Shared) (us : List Value), K.In s.heap → (us ++ ds).length = ps.length → BindsTo s fd ⟨us, []⟩ (ps.zip (us ++ ds))
/-- every parameter is given -/
theorem Binds.all {K : PySem.W.Frag} {fd : FuncData} {ps : List Str} (h : ∀ us : List Value, us.length = ps.length → bindArgs fd ⟨us, []⟩ = pure (ps.zip us)) : Binds K fd ps [] := fun s us _ hl => by
  rw [List.append_nil] at hl ⊢
  exact .of_eq (h us hl)

/-- an exception of a callee reaches what this body wants of exceptions -/
def Passes (CX : CXT) (X : Cx) (E : XK) : Prop := ∀ (pins : List (Addr × Obj)) (σ : St) (H : Hp) (s : Shared) (e : Value) (s' : Shared), Inv X pins σ H s → CX X.stack H s E e s' → X.xe e s'

section
variable {X : Cx} {CX : CXT} {k : Nat} {f C : Addr} {fd : FuncData} {ps : List Str} {sp : Sp} {dvs : List V} {ds : List Value} {E : XK} {x m : Str} {p pos apos : Pos} {e o : Expr} {es : List Expr} {ta : TE} {t : TA}

/-- the callee runs -/
theorem run_fn {pins : List (Addr × Obj)} {σ : St} {H : Hp} {s : Shared} {Q : VK} {us : List Value} {vs : List V} (F : FnOk X.prog X.w X.K X.mg X.base CX k f fd ps sp) (hr : Room k X.A) (hb : Binds X.K fd ps ds) (hd : Vals dvs ds) (hx : Passes CX X E)
    (I : Inv X pins σ H s) (r : Vals vs us) (h : sp (vs ++ dvs) H Q E) : wpAny (model X.prog X.w) X.A (call (.ref f) us) (EP X pins σ Q) X.xe s := by
  have r2 : Vals (vs ++ dvs) (us ++ ds) := r.append hd
  have hl : (us ++ ds).length = ps.length := by rw [← r2.length]; exact F.len _ _ _ _ h
  refine wpAny_call (codeAny_mono (F.run X.A X.stack s H ⟨us, []⟩ (us ++ ds) (vs ++ dvs) Q E hr I.env0 (hb s us I.kIn hl) r2 h) fun r s' hq => ?_)
  cases r with
  | error e => exact hx pins σ H s e s' I hq
  | ok fl =>
    cases fl with
    | ret u => exact I.after hq
    | next => exact False.elim hq
    | brk => exact False.elim hq
    | cont => exact False.elim hq

theorem pe_call (F : FnOk X.prog X.w X.K X.mg X.base CX k f fd ps sp) (hr : Room k X.A) (hg : Gl X x) (hm : X.mg x = some (.ref f)) (hk : PySem.W.keepIn X.K (.ref f) = true) (hb : Binds X.K fd ps ds) (hd : Vals dvs ds) (hx : Passes CX X E)
    (ha : PA X (e :: es) t) (hdb : (x == ("__debug__" : Str)) = false := by decide) (he : starEach (e :: es) X.env = (false, eval e X.env) :: starEach es X.env := by rfl) (hpl : (backTo pos (starEach es X.env)).any (·.1) = false := by rfl) :
    PE X (.Call (.Name x p) (e :: es) [] pos) (tCall sp dvs E t) := by
  intro pins s σ H Q I h
  refine wpAny_Call_Name_kw (ld_glob I hg hm ?_ hdb)
  refine PySem.W.callWith_K (h₀ := X.base) I.ok.mod.kin hk (thn (ha pos pins s σ H _ I h) fun us s1 ⟨vs, H1, I1, r, q⟩ => ⟨I1.kIn, ?_⟩) he hpl
  exact run_fn F hr hb hd hx I1 r q
/-- what a class must have to be made -/
structure Mk (K : PySem.W.Frag) (C f : Addr) : Prop where
  makes : PySem.W.makesIn K C = true
  init : PySem.W.findIn K (.ref C) "__init__" = some (some (.ref f))
  fn : PySem.W.isFn K (.ref f) = true
  kp : PySem.W.keepIn K (.ref C) = true

end

/-! ### keywords -/
/-- the values of the keywords, from the left -/
def PK (X : Cx) (kws : List Keyword) (t : TA) : Prop :=
  ∀ (pos : Pos) (pins : List (Addr × Obj)) (s : Shared) (σ : St) (H : Hp) (Q : List V → Hp → Prop), Inv X pins σ H s → t σ H Q → wpAny (model X.prog X.w) X.A (evalAll ((backToKw pos (keywordEach kws X.env)).map (·.2))) (AP X pins σ Q) X.xe s
section
variable {X : Cx} {CX : CXT} {k : Nat} {f C : Addr} {fd : FuncData} {ps ks : List Str} {sp : Sp} {E : XK} {x m : Str} {p pos apos kpos : Pos} {e o : Expr} {es : List Expr} {kws : List Keyword} {te ta : TE} {t tk : TA} {nm : Option Str}
/-- how a call with keywords binds: g puts the positional values us and the keywords' values ws (names ks) in the parameters' order, defaults among them -/
structure KBinds (K : PySem.W.Frag) (fd : FuncData) (ps ks : List Str) (g : List Value → List Value → List Value) (gV : List V → List V → List V) : Prop where
  to : ∀ (s : Shared) (us ws : List Value), K.In s.heap → (g us ws).length = ps.length → BindsTo s fd ⟨us, ks.zip ws⟩ (ps.zip (g us ws))
  rel : ∀ {vs : List V} {us : List Value} {zs : List V} {ws : List Value}, Vals vs us → Vals zs ws → Vals (gV vs zs) (g us ws)
def tCallK (sp : Sp) (gV : List V → List V → List V) (E : XK) (t tk : TA) : TE := fun σ H Q => t σ H fun vs H1 => tk σ H1 fun zs H2 => sp (gV vs zs) H2 Q E
variable {g : List Value → List Value → List Value} {gV : List V → List V → List V}
end

/-! ### a def's body keeps its promise -/
/-- names: the parameters first -/
structure FnScope (N P : List Str) (sc : Scope) : Prop where
  kind : sc.kind = .function
  co : sc.isCoroutine = false
  gen : sc.isGenerator = false
  nd : N.Nodup
  pre : N.take P.length = P
  par : ∀ x ∈ P, sc.names.lookup x = some .local ∨ sc.names.lookup x = some .cell
  nofree : ∀ y ∈ sc.names, y.2 ≠ .free

theorem bindL_out {kindOf : Str → Option NameKind} {x : Str} : ∀ {binds : List (Str × Value)} {m : Str → Option Value}, (∀ v, (x, v) ∉ binds) → bindL kindOf binds m x = m x
  | [], _, _ => rfl
  | (n, v) :: r, m, h => by
    unfold bindL
    rw [bindL_out fun w hw => h w (List.mem_cons_of_mem _ hw)]
    split
    · have : x ≠ n := by rintro rfl; exact h v List.mem_cons_self
      simp [this]
    · rfl
theorem bindC_out {kindOf : Str → Option NameKind} {x : Str} : ∀ {binds : List (Str × Value)} {m : Str → Option Value}, (∀ v, (x, v) ∉ binds) → bindC kindOf binds m x = m x
  | [], _, _ => rfl
  | (n, v) :: r, m, h => by
    unfold bindC
    rw [bindC_out fun w hw => h w (List.mem_cons_of_mem _ hw)]
    split
    · rfl
    · have : x ≠ n := by rintro rfl; exact h v List.mem_cons_self
      simp [this]
theorem bindL_get {kindOf : Str → Option NameKind} {x : Str} {v : Value} : ∀ {P : List Str} {vs : List Value} {i : Nat} {m : Str → Option Value}, P.Nodup → P[i]? = some x → vs[i]? = some v → kindOf x = some .local →
    bindL kindOf (P.zip vs) m x = some v
  | [], _, _, _, _, h, _, _ => by simp at h
  | _ :: _, [], _, _, _, _, h, _ => by simp at h
  | p :: P, w :: vs, 0, m, nd, h1, h2, hk => by
    simp at h1 h2; subst h1; subst h2
    show bindL kindOf ((p, w) :: P.zip vs) m p = _
    unfold bindL
    rw [bindL_out fun v hv => (List.nodup_cons.mp nd).1 (List.of_mem_zip hv).1, if_pos hk]
    simp
  | p :: P, w :: vs, i + 1, m, nd, h1, h2, hk => by
    show bindL kindOf ((p, w) :: P.zip vs) m x = _
    unfold bindL
    exact bindL_get (i := i) (List.nodup_cons.mp nd).2 (by simpa using h1) (by simpa using h2) hk
theorem bindC_get {kindOf : Str → Option NameKind} {x : Str} {v : Value} : ∀ {P : List Str} {vs : List Value} {i : Nat} {m : Str → Option Value}, P.Nodup → P[i]? = some x → vs[i]? = some v → kindOf x ≠ some .local →
    bindC kindOf (P.zip vs) m x = some v
  | [], _, _, _, _, h, _, _ => by simp at h
  | _ :: _, [], _, _, _, _, h, _ => by simp at h
  | p :: P, w :: vs, 0, m, nd, h1, h2, hk => by
    simp at h1 h2; subst h1; subst h2
    show bindC kindOf ((p, w) :: P.zip vs) m p = _
    unfold bindC
    rw [bindC_out fun v hv => (List.nodup_cons.mp nd).1 (List.of_mem_zip hv).1, if_neg hk]
    simp
  | p :: P, w :: vs, i + 1, m, nd, h1, h2, hk => by
    show bindC kindOf ((p, w) :: P.zip vs) m x = _
    unfold bindC
    exact bindC_get (i := i) (List.nodup_cons.mp nd).2 (by simpa using h1) (by simpa using h2) hk

/-- the names' values at the entry -/
def start (N : List Str) (vs : List V) : St := vs.map some ++ List.replicate (N.length - vs.length) none

/-- the context of a def's body, at its entry; an exception leaves the frame, then lies as CX says -/
def cxOf (CX : CXT) (P : Program) (w : World) (K : PySem.W.Frag) (mg : Str → Option Value) (base : Heap) (N : List Str) (qual : Str) (scope : Scope) (f : Addr) (cd : Value) (A : Around) (outer : List Env) (s : Shared) (H : Hp) (E : XK) : Cx where
  prog := P
  w := w
  K := K
  mg := mg
  base := base
  A := A.deeper (envOfC qual scope s.heap.objs.size f cd)
  N := N
  s₀ := s
  H₀ := H
  env := envOfC qual scope s.heap.objs.size f cd
  outer := outer
  stack := envOfC qual scope s.heap.objs.size f cd :: outer
  ex := []
  calm := true
  fn := fun _ => true
  pn := []
  xe := fun e s' => wpAny (model P w) (A.deeper (envOfC qual scope s.heap.objs.size f cd)) (leaving (envOfC qual scope s.heap.objs.size f cd) e) (fun _ s'' => CX outer H s E e s'') (fun e' s'' => CX outer H s E e' s'') s'

theorem cell_has {sc : Scope} {n : Nat} {x : Str} (h : sc.names.lookup x = some .cell) : ∃ c, (cellsFrom n sc.names []).lookup x = some c := by
  have q := PySem.W.cellsFrom_some sc.names n [] (.inl h)
  exact Option.isSome_iff_exists.mp q

theorem inv_start {CX : CXT} {P : Program} {w : World} {K : PySem.W.Frag} {mg : Str → Option Value} {base : Heap} {N ps : List Str} {qual : Str} {scope : Scope} {f : Addr} {cd : Value} {A : Around} {outer : List Env} {s s1 : Shared} {H : Hp} {E : XK} {us : List Value} {vs : List V}
    (S : FnScope N ps scope) (hd : A.handled = none) (e0 : Env0 P w K mg base A outer s H) (hl : vs.length = ps.length) (r : Vals vs us)
    (x : InCallC s s.heap.objs.size (bindL (envOfC qual scope s.heap.objs.size f cd).kindOf (ps.zip us) fun _ => none) (cellsFrom (s.heap.objs.size + 1) scope.names []) (bindC (envOfC qual scope s.heap.objs.size f cd).kindOf (ps.zip us) fun _ => none) s1) :
    Inv (cxOf CX P w K mg base N qual scope f cd A outer s H E) [] (start N vs) H s1 := by
  have hpl : ps.length ≤ N.length := by have := congrArg List.length S.pre; rw [List.length_take] at this; omega
  obtain ⟨h1, tk, rfl, hk⟩ := x.done
  have noA : ∀ b : Addr, b ∉ (cxOf CX P w K mg base N qual scope f cd A outer s H E).ex := fun b z => absurd (show b ∈ ([] : List Addr) from z) (by simp)
  refine ⟨⟨e0.mod, S.kind, rfl, rfl, Nat.le_refl _, fun y z c h1 h2 => ?_, fun y hy => ?_, fun y c _ h => ?_, fun _ => hd, Around.frames_deeper e0.frames, .inr ⟨rfl, rfl⟩, fun b z => absurd z (noA b), e0.bs, e0.bsz, fun b _ _ => noA b, fun b z => absurd z (noA b), e0.funs, e0.frf⟩,
    rfl, e0.bare, Un.kept hk, ⟨_, x.toInCall.ns, fun i y v h1 h2 h3 => ?_⟩, fun y c h => ⟨_, x.cell y c h⟩, e0.hok.fresh (Nat.le_refl _), fun y c h => ?_, fun p hp => absurd (show p ∈ ([] : List (Addr × Obj)) from hp) (by simp), e0.hok.kept hk, ?_⟩
  · exact name_of_addr x.apart (PySem.mem_of_lookup h1) (PySem.mem_of_lookup h2)
  · have hy : scope.names.lookup y = some .cell ∨ scope.names.lookup y = some .free := hy
    rcases hy with hy | hy
    · exact cell_has hy
    · exact absurd rfl (S.nofree _ (PySem.mem_of_lookup hy))
  · exact Nat.le_of_lt (x.above y c (PySem.mem_of_lookup h))
  · have hi : i < vs.length := by
      unfold start at h2
      by_cases hi : i < vs.length
      · exact hi
      · rw [List.getElem?_append_right (by simpa using hi)] at h2
        rw [List.getElem?_replicate] at h2
        split at h2 <;> cases h2
    have ha : vs[i]? = some v := by
      unfold start at h2
      rw [List.getElem?_append_left (by simpa using hi), List.getElem?_map] at h2
      cases e : vs[i]? with
      | none => rw [e] at h2; cases h2
      | some a => rw [e] at h2; cases h2; rfl
    obtain ⟨u, hu, rv⟩ := r.get ha
    have hp : ps[i]? = some y := by
      rw [← S.pre, List.getElem?_take_of_lt (by omega)]; exact h1
    have ndP : ps.Nodup := by rw [← S.pre]; exact S.nd.sublist (List.take_sublist _ _)
    refine ⟨u, rv, ?_⟩
    rcases S.par y (List.mem_of_getElem? hp) with k | k
    · exact .inl ⟨k, bindL_get ndP hp hu k⟩
    · obtain ⟨c, e⟩ := cell_has (n := s.heap.objs.size + 1) k
      refine .inr ⟨.inl k, c, e, ?_⟩
      have q := x.cell y c e
      rw [bindC_get ndP hp hu (by show scope.names.lookup y ≠ _; rw [k]; decide)] at q
      exact q
  · exact e0.hok.fresh (Nat.le_of_lt (x.above y c (PySem.mem_of_lookup h)))
  · unfold start
    show _ = N.length
    rw [List.length_append, List.length_map, List.length_replicate]
    omega

/-- THE RULE: a def (or a method) of the text, by its body. The body's reading t is chosen for each entry; it is run at the parameters' values -/
theorem fn_of {CX : CXT} {P : Program} {w : World} {K : PySem.W.Frag} {mg : Str → Option Value} {base : Heap} {k : Nat} {f : Addr} {name qual : Str} {params : Arguments} {body : List Stmt} {scope : Scope} {dV kV doc pm cdv ct oc : Value} {an od : Option Addr}
    {osl : Array (Option Value)} {N ps : List Str} {sp : Sp} (lk : K.lookup f = some ⟨oc, od, .func (PySem.W.fnOf name qual params body scope dV kV doc pm an cdv ct), osl⟩) (hcd : PySem.W.codeIn K cdv qual = true) (S : FnScope N ps scope)
    (len : ∀ vs H Q E, sp vs H Q E → vs.length = ps.length)
    (hbody : ∀ (A : Around) (outer : List Env) (s : Shared) (H : Hp) (vs : List V) (Q : VK) (E : XK), Room k (A.deeper (envOfC qual scope s.heap.objs.size f cdv)) → sp vs H Q E →
      ∃ t, PSs (cxOf CX P w K mg base N qual scope f cdv A outer s H E) body t ∧ t { nx := fun _ H' => Q .non H', rt := Q } (start N vs) H) :
    FnOk P w K mg base CX (k + 1) f (PySem.W.fnOf name qual params body scope dV kV doc pm an cdv ct) ps sp := by
  refine ⟨len, fun A outer s H args us vs Q E hr e0 hb r hsp => ?_⟩
  have hl := len _ _ _ _ hsp
  have KX : K.In s.heap := e0.mod.kin.keeps fun b o e => (e0.bs b o e).1
  have lim : s.heap.NoLimit := e0.mod.nolimit.keeps fun b o e => (e0.bs b o e).1
  have hkind : ∀ y ∈ ps.zip us, scope.names.lookup y.1 = some .local ∨ (scope.names.lookup y.1 = some .cell ∧ ((cellsFrom (s.heap.objs.size + 1) scope.names []).lookup y.1).isSome = true) := fun ⟨n, v⟩ hy => by
    rcases S.par n (List.of_mem_zip hy).1 with q | q
    · exact .inl q
    · exact .inr ⟨q, PySem.W.cellsFrom_some _ _ _ (.inl q)⟩
  refine codeAny_call_function hr.depth (KX _ _ lk) rfl S.co S.gen rfl (PySem.W.codeRec_of KX hcd) (hb _ _ _ _ ?_)
  refine wpAny_newFunctionEnv_cells S.kind hkind fun env he s1 x => ?_
  subst he
  refine ⟨lim.keeps x.toInCall.keep, codeAny_func ?_⟩
  obtain ⟨t, ht, hq⟩ := hbody A outer s H vs Q E (hr.deeper _) hsp
  have I : Inv (cxOf CX P w K mg base N qual scope f cdv A outer s H E) [] (start N vs) H s1 := inv_start S hr.hd e0 hl r x
  refine wpAny_mono (ht [] s1 (start N vs) H _ I hq) (fun fl s' hs => ?_) fun e s' hs => hs
  have fin : ∀ {σ' : St} {H' : Hp} {v : V} {u : Value}, Inv (cxOf CX P w K mg base N qual scope f cdv A outer s H E) [] σ' H' s' → RelV v u → Q v H' → CE outer P w H s Q u s' :=
    fun {σ' H' v u} J rv q => ⟨v, H', J.os, J.bare, J.base, J.hok, rv, q⟩
  cases fl with
  | ret u =>
    obtain ⟨v, σ', H', J, rv, q⟩ := hs
    exact fin J rv q
  | next =>
    obtain ⟨σ', H', J, q⟩ := hs
    exact fin (v := V.non) (u := Value.none) J rfl q
  | brk =>
    obtain ⟨_, _, _, q⟩ := hs
    exact False.elim q
  | cont =>
    obtain ⟨_, _, _, q⟩ := hs
    exact False.elim q
end L2

namespace L2
open PySem PySem.Spec PyProof.Rows
section
variable {X : Cx} {x : Str} {p pos : Pos} {e : Expr} {es : List Expr} {t : TA} {id T : String} {r : List V → Hp → VK → Prop}

def tCB (r : List V → Hp → VK → Prop) (t : TA) : TE := fun σ H Q => t σ H fun vs H1 => r vs H1 Q
/-- f(e, ..), f a built-in function -/
theorem pe_callB (hc : CallR X (.builtin id) r) (hg : Gl X x) (hm : X.mg x = none) (hv : bootBuiltins x = some (.builtin id)) (ha : PA X (e :: es) t) (hn : x ≠ "__name__" := by decide) (hdb : (x == ("__debug__" : Str)) = false := by decide)
    (he : starEach (e :: es) X.env = (false, eval e X.env) :: starEach es X.env := by rfl) (hpl : (backTo pos (starEach es X.env)).any (·.1) = false := by rfl) : PE X (.Call (.Name x p) (e :: es) [] pos) (tCB r t) := by
  intro pins s σ H Q I h
  refine wpAny_Call_Name_kw (ld_blt I hg hm hv ?_ hn hdb)
  exact PyProof.Rows.callWith_builtin1 (thn (ha pos pins s σ H _ I h) fun us s1 ⟨vs, H1, I1, r1, q1⟩ => hc pins s1 σ H1 vs us Q I1 r1 q1) he hpl
/-- T(e, ..), T a built-in type -/
theorem pe_callTy (hc : CallR X (.type T) r) (hg : Gl X x) (hm : X.mg x = none) (hv : bootBuiltins x = some (.type T)) (ha : PA X (e :: es) t) (hn : x ≠ "__name__" := by decide) (hdb : (x == ("__debug__" : Str)) = false := by decide)
    (he : starEach (e :: es) X.env = (false, eval e X.env) :: starEach es X.env := by rfl) (hpl : (backTo pos (starEach es X.env)).any (·.1) = false := by rfl) : PE X (.Call (.Name x p) (e :: es) [] pos) (tCB r t) := by
  intro pins s σ H Q I h
  refine wpAny_Call_Name_kw (ld_blt I hg hm hv ?_ hn hdb)
  exact PyProof.Rows.callWith_type1 (thn (ha pos pins s σ H _ I h) fun us s1 ⟨vs, H1, I1, r1, q1⟩ => hc pins s1 σ H1 vs us Q I1 r1 q1) he hpl
end
end L2

namespace HT
open PySem PyProof.Rows

/-- t < u of tuples of ints -/
def lexLt : List Int → List Int → Bool
  | [], [] => false
  | [], _ :: _ => true
  | _ :: _, [] => false
  | x :: xs, y :: ys => if x = y then lexLt xs ys else decide (x < y)
section
open PySem.SeqAt
open PySem.AutoSeq1 (wpAny_loadPart')
open PySem.MeetsSeq PySem.MeetsSeq2 PySem.MeetsSeq3

end

section
variable {prog : Program} {w : World} {A : Around} {E : Value → Shared → Prop} {s : Shared}

/-! ### t[a:b], not the whole -/
/-- a slice's bound as a place among n (d where it is left out) -/
def sIx (n d : Nat) : Option Int → Nat
  | none => d
  | some v => if v < 0 then (v + (n : Int)).toNat else min v.toNat n
end
end HT

namespace L2
open PySem PySem.Spec PyProof.Rows

/-! ### the parts of a slice -/
abbrev TO := St → Hp → (Option Int → Hp → Prop) → Prop
/-- a slice's part (left out, or an int) -/
def PO (X : Cx) (e : Option Expr) (t : TO) : Prop :=
  ∀ (pins : List (Addr × Obj)) (s : Shared) (σ : St) (H : Hp) (Q : Option Int → Hp → Prop), Inv X pins σ H s → t σ H Q →
    wpAny (model X.prog X.w) X.A (evalPart e X.env) (fun u s' => ∃ o H', Inv X pins σ H' s' ∧ IsPart u o ∧ Q o H') X.xe s
def tNoPart : TO := fun _ H Q => Q none H
def tPart (t : TE) : TO := fun σ H Q => t σ H fun x H1 => ∃ i, x = .int i ∧ Q (some i) H1

section
variable {X : Cx} {e : Expr} {te : TE} {lo hi : Option Expr} {tl th : TO} {pos p2 : Pos}

theorem po_none : PO X none tNoPart := by
  intro pins s σ H Q I h
  rw [evalPart_none]
  exact wpAny_pure ⟨none, H, I, .none, h⟩
theorem po_some (h : PE X e te) : PO X (some e) (tPart te) := by
  intro pins s σ H Q I hw
  rw [evalPart_some]
  refine thn (h pins s σ H _ I hw) fun u s1 ⟨x, H1, I1, r1, q1⟩ => ?_
  obtain ⟨i, rfl, q⟩ := q1
  obtain ⟨t, rfl⟩ := r1
  exact ⟨some i, H1, I1, .int i t, q⟩

/-- what a slice of a value is, by values: the slice object stands at sl -/
def SlR (X : Cx) (r : V → Option Int → Option Int → Hp → VK → Prop) : Prop :=
  ∀ (pins : List (Addr × Obj)) (s : Shared) (σ : St) (H : Hp) (x : V) (v vl vu : Value) (lo hi : Option Int) (sl : Addr) (Q : VK), Inv X pins σ H s → RelV x v → s.heap.IsSliceOf sl vl vu .none → IsPart vl lo → IsPart vu hi → r x lo hi H Q →
    ∃ T id, typeLookup (.type T) "__getitem__" = pure (some (.builtin id)) ∧ s.TypeIs v T ∧ wpAny (model X.prog X.w) X.A (getItem v (.ref sl)) (EP X pins σ Q) X.xe s
theorem SlR.or {r r' : V → Option Int → Option Int → Hp → VK → Prop} (h : SlR X r) (h' : SlR X r') : SlR X (fun x lo hi H Q => r x lo hi H Q ∨ r' x lo hi H Q) := by
  intro pins s σ H x v vl vu lo hi sl Q I rx hs pl pu q
  rcases q with q | q
  · exact h pins s σ H x v vl vu lo hi sl Q I rx hs pl pu q
  · exact h' pins s σ H x v vl vu lo hi sl Q I rx hs pl pu q
def tSl (r : V → Option Int → Option Int → Hp → VK → Prop) (te : TE) (tl th : TO) : TE := fun σ H Q => te σ H fun x H1 => tl σ H1 fun l H2 => th σ H2 fun u H3 => r x l u H3 Q
/-- a[lo:hi], any a -/
theorem pe_slice {r : V → Option Int → Option Int → Hp → VK → Prop} (hr : SlR X r) (he : PE X e te) (hl : PO X lo tl) (hu : PO X hi th) : PE X (.Subscript e (.Slice lo hi none p2) pos) (tSl r te tl th) := by
  intro pins s σ H Q I h
  refine Subscript_ (thn (he pins s σ H _ I h) fun v s1 ⟨x, H1, I1, r1, q1⟩ => ?_)
  refine wpAny_Slice (thn (hl pins s1 σ H1 _ I1 q1) fun vl s2 ⟨l, H2, I2, pl, q2⟩ => thn (hu pins s2 σ H2 _ I2 q2) fun vu s3 ⟨u, H3, I3, pu, q3⟩ => ?_)
  rw [evalPart_none]
  refine wpAny_pure ?_
  have I4 : Inv X pins σ H3 { s3 with heap := s3.heap.push { cls := .type "slice", data := .fields #[vl, vu, .none] } } := I3.kept (t' := s3.toks) fun b ob q => Heap.get?_push_of_some _ q
  obtain ⟨T, id, hT, ht, hg⟩ := hr pins { s3 with heap := s3.heap.push { cls := .type "slice", data := .fields #[vl, vu, .none] } } σ H3 x v vl vu l u s3.heap.objs.size Q I4 r1 (Heap.IsSliceOf.new ..) pl pu q3
  show wpAny (model X.prog X.w) X.A (subscriptTail e (.Slice lo hi none p2) v (.ref s3.heap.objs.size)) (EP X pins σ Q) X.xe { s3 with heap := s3.heap.push { cls := .type "slice", data := .fields #[vl, vu, .none] } }
  exact tail_any (ops := [.ref s3.heap.objs.size, v]) ht hT hg (by with_unfolding_all rfl)

/-- the items of xs[lo:hi] -/
def cutV (xs : List V) (lo hi : Option Int) : List V := (xs.drop (HT.sIx xs.length 0 lo)).take (HT.sIx xs.length xs.length hi - HT.sIx xs.length 0 lo)
/-- t[lo:hi], not the whole of it (the whole would be t itself) -/
def rSlT (K : PySem.W.Frag) : V → Option Int → Option Int → Hp → VK → Prop := fun x lo hi H Q => ∃ a xs, x = .ref a ∧ SqT K H a xs ∧
  ¬ (HT.sIx xs.length 0 lo = 0 ∧ HT.sIx xs.length xs.length hi = xs.length) ∧ ∀ p, H p = none → Q (.ref p) (upd H p (.tup (cutV xs lo hi)))
/-! ### t < u, t + u -/
def rLtT (K : PySem.W.Frag) : R2 := fun x y H Q => ∃ a b ns ms, x = .ref a ∧ y = .ref b ∧ SqT K H a (ns.map V.int) ∧ SqT K H b (ms.map V.int) ∧ Q (.bl (HT.lexLt ns ms)) H
/-- t + u, t not empty: u empty gives t itself -/
def rCatT (K : PySem.W.Frag) : R2 := fun x y H Q => ∃ a b xs ys, x = .ref a ∧ y = .ref b ∧ SqT K H a xs ∧ SqT K H b ys ∧ xs ≠ [] ∧ xs.length + ys.length ≤ sizeLine ∧
  (ys = [] → Q (.ref a) H) ∧ (ys ≠ [] → ∀ p, H p = none → Q (.ref p) (upd H p (.tup (xs ++ ys))))
end
end L2

namespace L2
open PySem PySem.Spec PyProof.Rows

/-! ### places -/
/-- the place that an index of any sign means -/
def ixN (n : Nat) (i : Int) : Option Nat := if 0 ≤ i then (if i < n then some i.toNat else none) else if -(n : Int) ≤ i then some (i + n).toNat else none
def atI {α : Type} (xs : List α) (i : Int) : Option α := (ixN xs.length i).bind fun j => xs[j]?
theorem ixN_seq {n : Nat} {i : Int} {j : Nat} (h : ixN n i = some j) : seqIndex? i n = some j ∧ j < n ∧ -(n : Int) ≤ i ∧ i < n := by
  unfold ixN at h
  by_cases h0 : 0 ≤ i
  · rw [if_pos h0] at h
    by_cases h1 : i < n
    · rw [if_pos h1] at h
      have e : i.toNat = j := Option.some.inj h
      exact ⟨by rw [seqIndex_of h0 h1, e], by omega, by omega, h1⟩
    · rw [if_neg h1] at h; cases h
  · rw [if_neg h0] at h
    by_cases h1 : -(n : Int) ≤ i
    · rw [if_pos h1] at h
      have e : (i + n).toNat = j := Option.some.inj h
      exact ⟨by rw [seqIndex_neg (by omega) h1, e], by omega, h1, by omega⟩
    · rw [if_neg h1] at h; cases h
theorem atI_get {α : Type} {xs : List α} {i : Int} {v : α} (h : atI xs i = some v) : ∃ j, seqIndex? i xs.length = some j ∧ xs[j]? = some v ∧ j < xs.length ∧ -(xs.length : Int) ≤ i ∧ i < xs.length := by
  unfold atI at h
  cases e : ixN xs.length i with
  | none => rw [e] at h; cases h
  | some j =>
    rw [e] at h
    obtain ⟨h1, h2, h3, h4⟩ := ixN_seq e
    exact ⟨j, h1, h, h2, h3, h4⟩
theorem atI_nat {α : Type} {xs : List α} {j : Nat} {v : α} (h : xs[j]? = some v) : atI xs (j : Int) = some v := by
  have hj : j < xs.length := (List.getElem?_eq_some_iff.mp h).1
  have e : ixN xs.length (j : Int) = some j := by
    unfold ixN
    rw [if_pos (by omega), if_pos (by omega)]; simp
  unfold atI; rw [e]; exact h
/-! ### what may be subscripted -/
/-- what stands as an index of a plain subscript -/
def PlainIx (b : Expr) : Prop := ∀ o i, subscripted b false o i = operate [o, i] (getItem o i)
/-- a subscript by values -/
def IxR (X : Cx) (r : R2) : Prop :=
  ∀ (value slice : Expr) (pins : List (Addr × Obj)) (s : Shared) (σ : St) (H : Hp) (x y : V) (v u : Value) (Q : VK), Inv X pins σ H s → RelV x v → RelV y u → r x y H Q →
    subscripted slice false v u = operate [v, u] (getItem v u) → wpAny (model X.prog X.w) X.A (subscriptTail value slice v u) (EP X pins σ Q) X.xe s
/-- a call of a builtin's method by values: the receiver, the arguments -/
def MtR (X : Cx) (id : String) (r : V → List V → Hp → VK → Prop) : Prop :=
  ∀ (pins : List (Addr × Obj)) (s : Shared) (σ : St) (H : Hp) (x : V) (xs : List V) (v : Value) (us : List Value) (Q : VK), Inv X pins σ H s → RelV x v → Vals xs us → r x xs H Q →
    wpAny (model X.prog X.w) X.A (call (.builtin id) (v :: us)) (EP X pins σ Q) X.xe s
section
variable {X : Cx} {a b : Expr} {ta tb : TE} {pos : Pos}
theorem IxR.or {r r' : R2} (h : IxR X r) (h' : IxR X r') : IxR X (fun x y H Q => r x y H Q ∨ r' x y H Q) := by
  intro value slice pins s σ H x y v u Q I rx ry q hs
  rcases q with q | q
  · exact h value slice pins s σ H x y v u Q I rx ry q hs
  · exact h' value slice pins s σ H x y v u Q I rx ry q hs
theorem MtR.or {id : String} {r r' : V → List V → Hp → VK → Prop} (h : MtR X id r) (h' : MtR X id r') : MtR X id (fun x xs H Q => r x xs H Q ∨ r' x xs H Q) := by
  intro pins s σ H x xs v us Q I rx rs q
  rcases q with q | q
  · exact h pins s σ H x xs v us Q I rx rs q
  · exact h' pins s σ H x xs v us Q I rx rs q
/-- a[b] -/
theorem pe_ix {r : R2} (hr : IxR X r) (ha : PE X a ta) (hb : PE X b tb) (hs : PlainIx b) : PE X (.Subscript a b pos) (tOp r ta tb) := by
  intro pins s σ H Q I h
  exact Subscript_ (binT ha hb I h fun v u s2 x y H2 I2 rx ry q => hr a b pins s2 σ H2 x y v u Q I2 rx ry q (hs _ _))

def rIxL (K : PySem.W.Frag) : R2 := fun x y H Q => ∃ p xs i v, x = .ref p ∧ y = .int i ∧ SqL K H p xs ∧ atI xs i = some v ∧ Q v H
def rIxT (K : PySem.W.Frag) : R2 := fun x y H Q => ∃ p xs i v, x = .ref p ∧ y = .int i ∧ SqT K H p xs ∧ atI xs i = some v ∧ Q v H
def rIxS : R2 := fun x y H Q => ∃ z i c, x = .str z ∧ y = .int i ∧ z.length ≤ sizeLine ∧ atI z.cps.toList i = some c ∧ Q (.str ⟨#[c]⟩) H
theorem ix_list : IxR X (rIxL X.K) := by
  intro value slice pins s σ H x y v u Q I rx ry h hs
  obtain ⟨p, xs, i, z, rfl, rfl, hq, he, q⟩ := h
  cases rx
  obtain ⟨t, rfl⟩ := ry
  obtain ⟨its, r, pl, hz⟩ := I.list hq
  obtain ⟨j, h1, h2, h3, h4, h5⟩ := atI_get he
  obtain ⟨w, ew, rw'⟩ := r.get h2
  have hl := r.length
  have hn := line63
  have fin : EP X pins σ Q w s := ⟨z, H, I, rw', q⟩
  by_cases h0 : 0 ≤ i
  · have hj : i.toNat = j := by
      rw [seqIndex_of h0 h5] at h1
      exact Option.some.inj h1
    exact item_listR pl.isList h0 (by omega) (by rw [hj]; simpa using ew) fin hs
  · have hj : (i + (its.toArray.size : Int)).toNat = j := by
      rw [seqIndex_neg (by omega) h4] at h1
      rw [List.size_toArray, ← hl]
      exact Option.some.inj h1
    exact subscriptTail_builtinR (x := w) pl.isList.typeIs slot_list_getitem.lookup
      (wpAny_getItem_list_neg (Q := fun r s' => r = w ∧ EP X pins σ Q r s') pl.isList (by omega) (by rw [List.size_toArray] <;> omega) (by omega) (by rw [hj]; simpa using ew) ⟨rfl, fin⟩) hs
theorem ix_tup : IxR X (rIxT X.K) := by
  intro value slice pins s σ H x y v u Q I rx ry h hs
  obtain ⟨p, xs, i, z, rfl, rfl, hq, he, q⟩ := h
  cases rx
  obtain ⟨t, rfl⟩ := ry
  obtain ⟨its, r, pl, hz⟩ := I.tuple hq
  obtain ⟨j, h1, h2, h3, h4, h5⟩ := atI_get he
  obtain ⟨w, ew, rw'⟩ := r.get h2
  have hl := r.length
  have hn := line63
  have fin : EP X pins σ Q w s := ⟨z, H, I, rw', q⟩
  exact subscriptTail_builtinR (x := w) pl.typeIs slot_tuple_getitem.lookup
    (getItem_tuple (j := j) (Q := fun r s' => r = w ∧ EP X pins σ Q r s') pl (by omega) (by omega) (by rw [List.size_toArray, ← hl]; exact h1) (by simpa using ew) ⟨rfl, fin⟩) hs
theorem ix_str : IxR X rIxS := by
  intro value slice pins s σ H x y v u Q I rx ry h hs
  obtain ⟨z, i, c, rfl, rfl, hz, he, q⟩ := h
  obtain ⟨t, rfl⟩ := rx
  obtain ⟨t', rfl⟩ := ry
  obtain ⟨j, h1, h2, h3, h4, h5⟩ := atI_get he
  have hl : z.cps.toList.length = z.length := by simp [Str.length]
  rw [hl] at h1 h4 h5
  have hn := line63
  exact tail_any (typeIs_str s z t) slot_str_getitem.lookup (getItem_str (c := c) (by
    have e1 : decide (i < -(2 ^ 63 : Int)) = false := decide_eq_false (by omega)
    have e2 : decide (i ≥ 2 ^ 63) = false := decide_eq_false (by omega)
    rw [e1, e2, Bool.or_false]) (by rw [h1]; simpa using h2) ⟨.str ⟨#[c]⟩, H, I.tok _, ⟨_, rfl⟩, q⟩) hs
/-- list, tuple or str -/
def rIx (K : PySem.W.Frag) : R2 := fun x y H Q => rIxL K x y H Q ∨ rIxT K x y H Q ∨ rIxS x y H Q
/-! ### xs[i] = v, any sign -/
theorem Inv.lst {pins : List (Addr × Obj)} {σ : St} {H : Hp} {s : Shared} {p : Addr} {xs : List V} (I : Inv X pins σ H s) (h : H p = some (.lst xs)) :
    ∃ (its : List Value) (n : Nat), Vals xs its ∧ s.heap.get? p = some { cls := .type "list", data := .seq its.toArray n } ∧ xs.length ≤ sizeLine := by
  obtain ⟨z, its, n, r, e⟩ := I.hok p _ h
  exact ⟨its, n, r, e, z⟩
def rSetL : V → V → V → Hp → (Hp → Prop) → Prop := fun o i v H Q => ∃ p xs k j, o = .ref p ∧ i = .int k ∧ H p = some (.lst xs) ∧ ixN xs.length k = some j ∧ Q (upd H p (.lst (xs.set j v)))
/-! ### slices -/
/-- xs[lo:hi] of a list: a new list -/
def rSlL (K : PySem.W.Frag) : V → Option Int → Option Int → Hp → VK → Prop := fun x lo hi H Q => ∃ a xs, x = .ref a ∧ SqL K H a xs ∧ ∀ p, H p = none → Q (.ref p) (upd H p (.lst (cutV xs lo hi)))
/-! ### in, not in: flat items -/
def flatV : V → Bool
  | .non => true
  | .bl _ => true
  | .int _ => true
  | .str _ => true
  | _ => false
/-- == of flat values -/
def eqV : V → V → Bool
  | .non, .non => true
  | .bl a, .bl b => a == b
  | .bl a, .int b => (if a then 1 else 0) == b
  | .int a, .bl b => a == (if b then 1 else 0)
  | .int a, .int b => a == b
  | .str a, .str b => a == b
  | _, _ => false
/-- the items' answers, read off the values (a value's own answer does not lean on its token) -/
def eqU (x : V) (u : Value) : Bool := match u with
  | .none => eqV .non x
  | .bool b => eqV (.bl b) x
  | .int i _ => eqV (.int i) x
  | .str z _ => eqV (.str z) x
  | _ => false
def inV (x : V) (xs : List V) : Bool := xs.any fun y => eqV y x
/-- x in a list or tuple of flat items -/
def rIn (K : PySem.W.Frag) (neg : Bool) : R2 := fun x y H Q => ∃ p xs, y = .ref p ∧ (SqL K H p xs ∨ SqT K H p xs) ∧ flatV x = true ∧ xs.all flatV = true ∧ Q (.bl (if neg then !inV x xs else inV x xs)) H
theorem op_notIn_str : OpR X (compareOp .NotIn) (fun x y H Q => ∃ i j, x = .str i ∧ y = .str j ∧ Q (.bl (!(!(Builtin.Str.occurrences j i 0 j.length 1).isEmpty))) H) := by
  intro pins s σ H x y v u Q I rx ry h
  obtain ⟨i, j, rfl, rfl, q⟩ := h
  obtain ⟨t, rfl⟩ := rx
  obtain ⟨t', rfl⟩ := ry
  exact notIn_str ⟨.bl _, H, I, rfl, q⟩

/-! ### len, list(x), tuple(x) of any list or tuple that is read -/
theorem call_len_seq : CallR X (.builtin "len") (fun xs H Q => ∃ p ys, xs = [.ref p] ∧ (SqL X.K H p ys ∨ SqT X.K H p ys) ∧ Q (.int ys.length) H) := by
  intro pins s σ H xs us Q I r h
  obtain ⟨p, ys, rfl, hq, q⟩ := h
  obtain ⟨u, rfl, rx⟩ := vals1 r
  cases rx
  have hn := line63
  rcases hq with hq | hq
  · obtain ⟨its, r', pl, hz⟩ := I.list hq
    have hlen := r'.length
    exact Calls.call_len_list pl.isList (by simp only [List.size_toArray] <;> omega) ⟨.int ys.length, H, I.tok _, ⟨s.toks + 1, by rw [List.size_toArray, hlen]⟩, q⟩
  · obtain ⟨its, r', pl, hz⟩ := I.tuple hq
    have hlen := r'.length
    exact len_tuple pl (by simp only [List.size_toArray] <;> omega) ⟨.int ys.length, H, I.tok _, ⟨s.toks + 1, by rw [List.size_toArray, hlen]⟩, q⟩
theorem CallR.or {f : Value} {r r' : List V → Hp → VK → Prop} (h : CallR X f r) (h' : CallR X f r') : CallR X f (fun xs H Q => r xs H Q ∨ r' xs H Q) := by
  intro pins s σ H xs us Q I rs q
  rcases q with q | q
  · exact h pins s σ H xs us Q I rs q
  · exact h' pins s σ H xs us Q I rs q
/-! ### the call of a builtin's method: o.m(..) -/
/-- the value is of that builtin type -/
def tyV (K : PySem.W.Frag) (T : String) (x : V) (H : Hp) : Prop := match x with
  | .str _ => T = "str"
  | .int _ => T = "int"
  | .ref p => (T = "list" ∧ ∃ xs, SqL K H p xs) ∨ (T = "tuple" ∧ ∃ o, K.lookup p = some o ∧ o.cls = .type "tuple" ∧ o.dict = none) ∨
      (T = "dict" ∧ ((∃ kvs, H p = some (.dK kvs)) ∨ ∃ kvs, H p = some (.dT kvs))) ∨ (T = "set" ∧ ∃ S n, H p = some (.set S n))
  | _ => False
theorem tyV_is {pins : List (Addr × Obj)} {σ : St} {H : Hp} {s : Shared} {T : String} {x : V} {v : Value} (I : Inv X pins σ H s) (r : RelV x v) (ty : tyV X.K T x H) :
    s.TypeIs v T ∧ ∀ a, v = .ref a → ∃ ob, s.heap.get? a = some ob ∧ ob.dict = none := by
  cases x with
  | str z =>
    obtain ⟨t, rfl⟩ := r
    cases (show T = "str" from ty)
    exact ⟨typeIs_str s z t, fun _ e => nomatch e⟩
  | int i =>
    obtain ⟨t, rfl⟩ := r
    cases (show T = "int" from ty)
    exact ⟨typeIs_int s i t, fun _ e => nomatch e⟩
  | ref p =>
    cases r
    rcases ty with ⟨rfl, xs, hq⟩ | ⟨rfl, o, hk, hc, hd⟩ | ⟨rfl, hk⟩ | ⟨rfl, S, n, hk⟩
    · obtain ⟨its, _, pl, _⟩ := I.list hq
      refine ⟨pl.isList.typeIs, fun a e => ?_⟩
      cases e
      obtain ⟨o, n, e, c, hd, _⟩ := pl
      exact ⟨o, e, hd⟩
    · refine ⟨⟨o, I.kIn p o hk, hc⟩, fun a e => ?_⟩
      cases e
      exact ⟨o, I.kIn _ o hk, hd⟩
    · have z : ∃ o, s.heap.get? p = some o ∧ o.ExactDict := by
        rcases hk with ⟨kvs, hk⟩ | ⟨kvs, hk⟩
        · obtain ⟨_, _, _, _, o, _, _, e, ex, _⟩ := I.hok p _ hk
          exact ⟨o, e, ex⟩
        · obtain ⟨_, _, _, _, o, _, _, e, ex, _⟩ := I.hok p _ hk
          exact ⟨o, e, ex⟩
      obtain ⟨o, e, ex⟩ := z
      refine ⟨⟨o, e, ex.1⟩, fun a e2 => ?_⟩
      cases e2
      exact ⟨o, e, ex.2.1⟩
    · obtain ⟨o, _, _, _, e, ex, _⟩ := I.hok p _ hk
      refine ⟨⟨o, e, ex.1⟩, fun a e2 => ?_⟩
      cases e2
      exact ⟨o, e, ex.2.1⟩
  | _ => exact False.elim ty
def tBM0 (K : PySem.W.Frag) (T : String) (r : V → List V → Hp → VK → Prop) (to : TE) : TE := fun σ H Q => to σ H fun x H1 => tyV K T x H1 ∧ r x [] H1 Q
def tBM (K : PySem.W.Frag) (T : String) (r : V → List V → Hp → VK → Prop) (to : TE) (t : TA) : TE := fun σ H Q => to σ H fun x H1 => tyV K T x H1 ∧ t σ H1 fun xs H2 => r x xs H2 Q
variable {o e : Expr} {es : List Expr} {to : TE} {t : TA} {name : Str} {apos cpos : Pos} {T id : String} {r : V → List V → Hp → VK → Prop}
theorem pe_bm (pa : PlainAttrs T) (slot : Slot T name id) (hty : typeOf (.builtin id) = pure (.type "method_descriptor")) (hm : MtR X id r) (ho : PE X o to) (ha : PA X (e :: es) t)
    (hbase : attributeBase o name X.env (eval o X.env) = eval o X.env := by rfl)
    (hfew : ((backTo cpos (starEach (e :: es) X.env)).all (fun x => !x.1) && (backToKw cpos (keywordEach [] X.env)).all (fun x => x.1.isSome)
      && decide ((e :: es).length + ([] : List Keyword).length + (if ([] : List Keyword).isEmpty then 0 else 1) < 30)) = true := by rfl)
    (hline : (apos.endLine == cpos.line) = true := by rfl) (hs : starEach (e :: es) X.env = (false, eval e X.env) :: starEach es X.env := by rfl) (hplain : (backTo cpos (starEach es X.env)).any (·.1) = false := by rfl) :
    PE X (.Call (.Attribute o name apos) (e :: es) [] cpos) (tBM X.K T r to t) := by
  intro pins s σ H Q I h
  refine wpAny_Call_method_late hbase hfew hline rfl (thn (ho pins s σ H _ I h) fun v s1 ⟨x, H1, I1, r1, ty, q1⟩ => ?_)
  obtain ⟨h1, h2⟩ := tyV_is I1 r1 ty
  refine ⟨T, id, pa, slot, hty, h1, h2, ?_⟩
  have hA := ha cpos pins s1 σ H1 _ I1 q1
  rw [hs] at hA ⊢
  refine Calls.callWith_builtin (by show (false || (backTo cpos (starEach es X.env)).any (·.1)) = false; rw [hplain] <;> rfl) (Calls.evalArgs_plain ?_)
  exact thn hA fun us s2 ⟨vs, H2, I2, r2, q2⟩ => hm pins s2 σ H2 x vs v us Q I2 r1 r2 q2
/- xs.append(e), list.index on a module's tuple .. are MtR facts of 06m -/
end
end L2

namespace L2
open PySem PySem.Spec PyProof.Rows

def MtM (X : Cx) (id : String) (r : V → List V → Hp → VK → Prop) : Prop :=
  ∀ (pins : List (Addr × Obj)) (s : Shared) (σ : St) (H : Hp) (x : V) (xs : List V) (v : Value) (us : List Value) (Q : VK), Inv X pins σ H s → RelV x v → Vals xs us → r x xs H Q →
    wpAny (model X.prog X.w) X.A (call (.builtin id) (v :: us)) (EP X pins σ Q) X.xe s

/-! ### lists of values -/
theorem Vals.one : ∀ {x : V} {us : List Value}, Vals [x] us → ∃ u, us = [u] ∧ RelV x u
  | _, _, .cons r .nil => ⟨_, rfl, r⟩
theorem Vals.two : ∀ {x y : V} {us : List Value}, Vals [x, y] us → ∃ u v, us = [u, v] ∧ RelV x u ∧ RelV y v
  | _, _, _, .cons r (.cons q .nil) => ⟨_, _, rfl, r, q⟩
theorem Vals.zero : ∀ {us : List Value}, Vals [] us → us = []
  | _, .nil => rfl
theorem Vals.dropLast {xs : List V} {us : List Value} (h : Vals xs us) : Vals xs.dropLast us.dropLast := by
  induction h with
  | nil => exact .nil
  | cons r t ih =>
    cases t with
    | nil => exact .nil
    | cons q t' => exact .cons r ih
theorem Vals.eraseIdx : ∀ {xs : List V} {us : List Value} (i : Nat), Vals xs us → Vals (xs.eraseIdx i) (us.eraseIdx i)
  | _, _, _, .nil => .nil
  | _, _, 0, .cons _ t => t
  | _, _, i + 1, .cons r t => .cons r (Vals.eraseIdx i t)
theorem Vals.reverse {xs : List V} {us : List Value} (h : Vals xs us) : Vals xs.reverse us.reverse := by
  induction h with
  | nil => exact .nil
  | cons r t ih => rw [List.reverse_cons, List.reverse_cons]; exact Vals.append ih (.cons r .nil)
theorem len_erase {α : Type} : ∀ (l : List α) (i : Nat), (l.eraseIdx i).length ≤ l.length
  | [], _ => Nat.le_refl _
  | _ :: _, 0 => Nat.le_succ _
  | _ :: r, i + 1 => Nat.succ_le_succ (len_erase r i)
section
variable {X : Cx} {pins : List (Addr × Obj)} {σ : St} {H : Hp} {s : Shared} {l b : Addr} {xs ys zs : List V}

/-! ### the two steps: a tracked list is rewritten, a new list is laid -/
theorem Inv.lset {its its' : List Value} {n : Nat} {f : Array Value → Array Value} {t' : Nat} (I : Inv X pins σ H s) (hH : H l = some (.lst xs))
    (e : s.heap.get? l = some { cls := .type "list", data := .seq its.toArray n }) (hf : f its.toArray = its'.toArray) (hv : Vals ys its') (hz : ys.length ≤ sizeLine) :
    Inv X pins σ (upd H l (.lst ys)) { s with heap := s.heap.update l (Obj.mapSeq f), toks := t' } := by
  have q := PySem.IsL.update e f
  rw [hf] at q
  refine I.write (x := l) (e := l) (by rw [hH]; exact trivial) (.inl rfl) (fun b' u hb hu => (Heap.get?_update_other s.heap (Obj.mapSeq f) (Ne.symm hb)).trans hu) ⟨_, q⟩ ?_
  exact ⟨hz, its', _, hv, q⟩
theorem Inv.lnew {its : List Value} {t' : Nat} (I : Inv X pins σ H s) (hv : Vals ys its) (hz : ys.length ≤ sizeLine) :
    Inv X pins σ (upd H s.heap.objs.size (.lst ys)) { s with heap := s.heap.push { cls := .type "list", data := .seq its.toArray }, toks := t' } :=
  I.laid (fun _ _ q => Heap.get?_push_of_some _ q) (Nat.le_refl _) ⟨hz, its, 0, hv, Heap.get?_push_size _ rfl⟩
theorem Inv.fresh (I : Inv X pins σ H s) : H s.heap.objs.size = none := I.hok.fresh (Nat.le_refl _)
theorem Inv.lstM (I : Inv X pins σ H s) (hH : H l = some (.lst xs)) : xs.length ≤ sizeLine ∧ ∃ (its : List Value) (n : Nat), Vals xs its ∧ xs.length = its.length ∧ s.heap.get? l = some { cls := .type "list", data := .seq its.toArray n } := by
  obtain ⟨z, its, n, r, e⟩ := I.hok l _ hH
  exact ⟨z, its, n, r, r.length, e⟩

end

section
variable {X : Cx}

/-! ### methods -/
def rAppend : V → List V → Hp → VK → Prop := fun x vs H Q => ∃ l xs y, x = .ref l ∧ vs = [y] ∧ H l = some (.lst xs) ∧ xs.length < sizeLine ∧ Q .non (upd H l (.lst (xs ++ [y])))
theorem mt_append : MtM X "list.append" rAppend := by
  intro pins s σ H x vs v us Q I rx rv h
  obtain ⟨l, xs, y, rfl, rfl, hH, hz, q⟩ := h
  cases rx
  obtain ⟨u, rfl, ru⟩ := rv.one
  obtain ⟨z, its, n, r, hl, e⟩ := I.lstM hH
  refine call_meets F.slot_list_append ⟨_, e, rfl⟩ F.entry_list_append (F.args_list_append_2 _ _) (PySem.list_append l its.toArray n u (by rw [List.size_toArray]; omega)) ⟨e, ?_⟩
  refine ⟨.non, _, I.lset (its' := its ++ [u]) hH e (by simp) (r.append (.cons ru .nil)) ?_, rfl, q⟩
  rw [List.length_append, List.length_singleton]
  omega

def rExtend : V → List V → Hp → VK → Prop := fun x vs H Q => ∃ l b xs zs, x = .ref l ∧ vs = [.ref b] ∧ H l = some (.lst xs) ∧ H b = some (.lst zs) ∧ xs.length + zs.length ≤ sizeLine ∧ Q .non (upd H l (.lst (xs ++ zs)))
def rPop : V → List V → Hp → VK → Prop := fun x vs H Q => ∃ l xs y, x = .ref l ∧ vs = [] ∧ H l = some (.lst xs) ∧ xs[xs.length - 1]? = some y ∧ Q y (upd H l (.lst xs.dropLast))
def rPopAt : V → List V → Hp → VK → Prop := fun x vs H Q => ∃ l xs i k y, x = .ref l ∧ vs = [.int i] ∧ H l = some (.lst xs) ∧ -(2 ^ 63) ≤ i ∧ i < 2 ^ 63 ∧ seqIndex? i xs.length = some k ∧ xs[k]? = some y ∧ Q y (upd H l (.lst (xs.eraseIdx k)))
theorem mt_popAt : MtM X "list.pop" rPopAt := by
  intro pins s σ H x vs v us Q I rx rv h
  obtain ⟨l, xs, i, k, y, rfl, rfl, hH, h1, h2, hk, hy, q⟩ := h
  cases rx
  obtain ⟨u, rfl, ru⟩ := rv.one
  obtain ⟨t, rfl⟩ := ru
  obtain ⟨z, its, n, r, hl, e⟩ := I.lstM hH
  obtain ⟨w, hw, rw'⟩ := r.get hy
  refine call_meets F.slot_list_pop ⟨_, e, rfl⟩ F.entry_list_pop (F.args_list_pop_2 _ _)
    (MeetsSeq.list_pop_at l its.toArray n i t k w (fitsIndex_both h1 h2) (by rw [List.size_toArray, ← hl]; exact hk) (by rw [← Array.getElem?_toList]; exact hw) (by rw [List.size_toArray]; omega)) ⟨e, ?_⟩
  refine ⟨y, _, I.lset (its' := its.eraseIdx k) hH e ?_ (r.eraseIdx k) ?_, rw', q⟩
  · show its.toArray.eraseIdxIfInBounds k = (its.eraseIdx k).toArray
    rw [List.eraseIdxIfInBounds_toArray]
  · have := len_erase xs k
    omega

def rReverse : V → List V → Hp → VK → Prop := fun x vs H Q => ∃ l xs, x = .ref l ∧ vs = [] ∧ H l = some (.lst xs) ∧ Q .non (upd H l (.lst xs.reverse))
def rClear : V → List V → Hp → VK → Prop := fun x vs H Q => ∃ l xs, x = .ref l ∧ vs = [] ∧ H l = some (.lst xs) ∧ Q .non (upd H l (.lst []))
/-! ### list + list, list += list, list * int -/
def rCat : R2 := fun x y H Q => ∃ l b xs zs, x = .ref l ∧ y = .ref b ∧ H l = some (.lst xs) ∧ H b = some (.lst zs) ∧ xs.length + zs.length ≤ sizeLine ∧ ∀ p, H p = none → Q (.ref p) (upd H p (.lst (xs ++ zs)))
theorem op_cat : OpR X (binaryOp .Add) rCat := by
  intro pins s σ H x y v u Q I rx ry h
  obtain ⟨l, b, xs, zs, rfl, rfl, hH, hB, hz, q⟩ := h
  cases rx
  cases ry
  obtain ⟨z, its, n, r, hl, e⟩ := I.lstM hH
  obtain ⟨z2, its2, n2, r2, hl2, e2⟩ := I.lstM hB
  refine PySem.P.add_list e e2 ?_ (by rw [List.size_toArray, List.size_toArray]; omega)
  have ea : its.toArray ++ its2.toArray = (its ++ its2).toArray := by simp
  rw [ea]
  exact ⟨.ref _, _, I.lnew (t' := s.toks) (r.append r2) (by rw [List.length_append]; omega), rfl, q _ I.fresh⟩
/-- a list times an int (a negative one is nothing) -/
def rRep : R2 := fun x y H Q => ∃ l k xs, x = .ref l ∧ y = .int k ∧ H l = some (.lst xs) ∧ -(2 ^ 63) ≤ k ∧ k < 2 ^ 63 ∧ xs.length * k.toNat ≤ sizeLine ∧
  ∀ p, H p = none → Q (.ref p) (upd H p (.lst (List.replicate k.toNat xs).flatten))
/-! ### del xs[i] -/
end

/-! ### xs[a:b] = ys -/
section
variable {prog : Program} {w : World} {A : Around} {E : Value → Shared → Prop} {s : Shared}
end

section
variable {X : Cx}
end
end L2

namespace Att
open PySem PySem.W PySem.Calls PyProof.Rows

/-! ### the script -/
theorem ints_of_wellAll {P : Params} {h : Heap} : ∀ (ns : List Int) (vs : List Value), WellAll P h vs (ns.map WData.int) → IntsAre vs ns := by
  intro ns
  induction ns with
  | nil =>
    intro vs w
    rw [List.map_nil] at w
    cases w
    exact .nil
  | cons n ns ih =>
    intro vs w
    rw [List.map_cons] at w
    cases w with
    | cons a b =>
      cases a
      exact .cons _ _ (ih _ b)

theorem script_of {l : OpenLaw} {n : Nat} (hn : l.most = some n) {P : Params} {h : Heap} {args : List WData} {vals : List Value}
    (hpre : l.row.toRowW.claim.pre args = true) (hwl : WellAll P h vals args) :
    ∃ a vs ns, vals = [Value.ref a] ∧ args = [WData.list (ns.map WData.int)] ∧ h.get? a = some { cls := .type "list", data := .seq vs.toArray } ∧ IntsAre vs ns ∧ ns.length ≤ n := by
  have hsh : WShape.hasAll [] args [.list .int] = true := (pre_splitW hpre).1
  have hc : l.pre.holds [] { args := args } = true := (pre_splitW hpre).2
  obtain ⟨d, r, rfl, h1, h2⟩ := hasAllW_cons hsh
  obtain rfl := hasAllW_nil h2
  obtain ⟨xs, rfl, h3⟩ := hasW_list h1
  obtain ⟨ns, rfl⟩ := items_int h3
  have hlen : ns.length ≤ n := by
    unfold OpenLaw.pre at hc
    have h4 : (WTm.not (.lt (.lit (.int (n : Int))) (.len (.arg 0)))).holds [] { args := [.list (ns.map .int)] } = true := by
      have h4 := (holds_andW hc).1
      rw [hn] at h4
      exact h4
    have h5 := condW_of h4 (w_not (w_lt w_lit (w_len_list (w_arg rfl))))
    rw [List.length_map] at h5
    refine Nat.le_of_not_lt fun q => ?_
    have q' : (n : Int) < ((ns.length : Nat) : Int) := by omega
    first
      | (rw [decide_eq_true q'] at h5; exact absurd h5 (by decide))
      | (simp at h5; omega)
  cases hwl with
  | cons w1 w2 =>
    cases w2
    cases w1 with
    | list ho hall => exact ⟨_, _, ns, rfl, rfl, ho, ints_of_wellAll ns _ hall, hlen⟩

theorem post_true (l : OpenLaw) (args : List WData) : l.row.toRowW.claim.post args (.bool true) args = true :=
  postW_of (r := l.row.toRowW) (X := (true == true))
    (show WShape.has [] (.bool true) .bool = true by first | rfl | decide | simp [WShape.has, WShape.arms, WShape.armsAll])
    (show (WTm.eq .res (.lit (.bool true))).value [] { args := args, res := some (.bool true), after := args } = some (.bool (true == true)) from w_eq_bool (w_res rfl) w_lit) rfl

/-! ### the attachment: holds_open's last premise (the goal 'hc' behind k_head) from a wpAny of the law's body -/
/-- the same from a codeAny of the CALL (for a layer whose function contracts speak of calls) -/
theorem attach_call {l : OpenLaw} {n : Nat} {q : Program} {loose : List Str} {XP : (Str → Option Value) → Heap → Prop} {YP : World → Heap → Prop} {d : DefRec}
    (hn : l.most = some n) (hdf : d.params.defaults = [])
    (call : ∀ (w : World) (s₀ s₁ : Shared) (mg mb : Str → Option Value) (fa : Addr) (o : Obj) (pm cd doc : Value) (a : Addr) (vs : List Value) (ns : List Int),
      Ground q loose [] XP w s₀ mg mb s₁.heap → YP w s₁.heap →
      s₁.heap.get? fa = some o → o.data = .func (docDef d.name d.params d.body d.scope pm cd doc) → s₁.heap.CodeRec cd d.name → mg d.name = some (.ref fa) →
      s₁.heap.get? a = some { cls := .type "list", data := .seq vs.toArray } → IntsAre vs ns → ns.length ≤ n → s₁.gens = #[] →
      codeAny (model l.prog w) callerA (.call (.ref fa) ⟨[.ref a], []⟩) (fun r s' => r = .ok (.ret (.bool true)) ∧ OldK s₁.heap s'.heap ∧ s'.os = s₁.os ∧ AllBare s'.gens) s₁) :
    WalkO q loose XP YP l.row.toRowW d [] (fun f vs => PySem.call f vs) := by
  intro w s₀ s₁ mg mb G Y fa o pm cd doc dV kV ho hd hcd hD hmg hg args vals as hpre hlay hrd hwl hlo
  obtain rfl : dV = .none := Dflts.none hD hdf
  obtain rfl : kV = .none := Dflts.noKw hD
  obtain ⟨a, vs, ns, rfl, rfl, hobj, hints, hlen⟩ := script_of hn hpre hwl
  refine enter_call (codeAny_mono (call w s₀ s₁ mg mb fa o pm cd doc a vs ns G Y ho (fd_plain hd) hcd hmg hobj hints hlen hg) fun r s' hq => ?_)
  obtain ⟨rfl, h2, h3, h4⟩ := hq
  exact ⟨.inl ⟨.bool true, .bool true, [], rfl, fun _ => rfl, .bool true, post_true l _, fun _ => ⟨List.Pairwise.nil, fun _ hm => (nomatch hm)⟩⟩, h2, h3, h4⟩

/-! ### rules over ANY heap (no ledger) from facts about the written part K: the library's own take a ledger (News) for what they write -/
section
variable {prog : Program} {w : World} {A : Around} {E : Value → Shared → Prop} {s : Shared} {K : Frag}

/-! the whole heap as the ledger: makes every rule that writes through a ledger a rule over any heap -/
def noObjs (h : Heap) : Heap := { h with objs := #[] }
def ledger (h : Heap) (L d : Addr) : List (Addr × Obj) := (List.range h.objs.size).filterMap fun a => if a = L ∨ a = d then none else (h.get? a).map fun o => (a, o)
end
end Att

namespace L2
open PySem PySem.Spec PyProof.Rows

theorem vals_ints : ∀ {vs : List Value} {ns : List Int}, IntsAre vs ns → Vals (ns.map V.int) vs
  | _, _, .nil => .nil
  | _, _, .cons n t h => .cons ⟨t, rfl⟩ (vals_ints h)

/-- nothing is tracked but the script, known to the object (or it is an object of the module) -/
def Only (H : Hp) : Prop := ∀ b, H b = none ∨ ∃ o xs, H b = some (.frz o (.lst xs))

/-- THE HEAD: the law's promise, at the heap behind the top. F, the promise of the law's def, may use that base is part of the heap (so K.In base, base.Ns mainGlobals mg stand in Mod) -/
theorem law_call {P : Program} {w : World} {K : PySem.W.Frag} {mg mb : Str → Option Value} {CX : CXT} {k : Nat} {fa a : Addr} {fd : FuncData} {x : Str} {sp : Sp} {s₁ : Shared} {vs : List Value} {ns : List Int}
    (KX : K.In s₁.heap) (hns : s₁.heap.Ns mainGlobals mg) (hb : s₁.heap.Ns builtinsNs mb) (hbb : ∀ x : Str, x ≠ "__name__" → mb x = bootBuiltins x) (hlim : s₁.heap.NoLimit) (hg : s₁.gens = #[])
    (ha : s₁.heap.get? a = some { cls := .type "list", data := .seq vs.toArray }) (hi : IntsAre vs ns) (hl : ns.length ≤ sizeLine) (hr : Room k callerA)
    (F : ∀ base : Heap, K.In base → base.Ns mainGlobals mg → FnOk P w K mg base CX k fa fd [x] sp) (hbind : ∀ (s : Shared) (u : Value), BindsTo s fd ⟨[u], []⟩ [(x, u)])
    (hsp : ∀ H : Hp, Only H → SqL K H a (ns.map V.int) → sp [.ref a] H (fun v _ => v = .bl true) fun _ _ _ => False)
    (hCX : ∀ H e s', CX [] H s₁ (fun _ _ _ => False) e s' → False) :
    codeAny (model P w) callerA (.call (.ref fa) ⟨[.ref a], []⟩) (fun r s' => r = .ok (.ret (.bool true)) ∧ OldK s₁.heap s'.heap ∧ s'.os = s₁.os ∧ AllBare s'.gens) s₁ := by
  have rv := vals_ints hi
  have lenV := hi.length
  -- from an abstract heap in which nothing but the script may be tracked
  have core : ∀ H : Hp, Only H → SqL K H a (ns.map V.int) → HOk P w H s₁.heap → (∀ b, H b ≠ none → b = a) → (H a ≠ none → K.lookup a = none) →
      codeAny (model P w) callerA (.call (.ref fa) ⟨[.ref a], []⟩) (fun r s' => r = .ok (.ret (.bool true)) ∧ OldK s₁.heap s'.heap ∧ s'.os = s₁.os ∧ AllBare s'.gens) s₁ := by
    intro H hO hS hok hA hK
    have base_of : ∀ {b : Addr} {o : Obj}, s₁.heap.get? b = some o → H b = none → (hidT s₁.heap H).get? b = some o := fun e n => hidT_get e n
    have noA : ∀ {b : Addr} {o : Obj} {es : Array DictEntry} {ep : Nat}, s₁.heap.get? b = some o → o.data = .dict es ep → H b = none := fun {b o es ep} e d => by
      cases q : H b with
      | none => rfl
      | some u =>
        have e' : b = a := hA b (by rw [q]; simp)
        subst e'
        rw [ha] at e; cases e
        have d' : Data.seq vs.toArray _ = Data.dict es ep := d
        cases d'
    have nsK : ∀ {b : Addr} {m : Str → Option Value}, s₁.heap.Ns b m → (hidT s₁.heap H).Ns b m := fun {b m} ⟨o, es, ep, e, d, r⟩ => ⟨o, es, ep, base_of e (noA e d), d, r⟩
    have hKb : K.In (hidT s₁.heap H) := fun b o e => base_of (KX b o e) (by
      cases q : H b with
      | none => rfl
      | some u =>
        have e' : b = a := hA b (by rw [q]; simp)
        subst e'
        rw [hK (by rw [q]; simp)] at e; cases e)
    have hM : Mod K mg (hidT s₁.heap H) := ⟨hKb, nsK hns, ⟨mb, nsK hb, hbb⟩, let ⟨mc, h1, h2⟩ := hlim; ⟨mc, nsK h1, h2⟩⟩
    have e0 : Env0 P w K mg (hidT s₁.heap H) callerA [] s₁ H := ⟨rfl, hM, fun b o e => of_hidT e, Nat.le_of_eq (hidT_size _ _), trivial, fun b hb => absurd (show b ∈ ([] : List Addr) from hb) (by simp), hok, .of_eq hg⟩
    refine codeAny_mono ((F _ hKb (nsK hns)).run callerA [] s₁ H ⟨[.ref a], []⟩ [.ref a] [.ref a] _ _ hr e0 (hbind s₁ (.ref a)) (.cons rfl .nil) (hsp H hO hS)) fun r s' h => ?_
    cases r with
    | error e => exact (hCX H e s' h).elim
    | ok fl =>
      cases fl with
      | next => exact False.elim h
      | brk => exact False.elim h
      | cont => exact False.elim h
      | ret u =>
        obtain ⟨v, H', os, bare, un, hok', r', q⟩ := h
        have q' : v = .bl true := q
        subst q'
        obtain rfl : u = Value.bool true := r'
        refine ⟨rfl, OldK.of_keep fun b o e => ?_, os, bare⟩
        cases q : H b with
        | none => exact un.keep b o e q (by intro z; exact absurd (show b ∈ ([] : List Addr) from z) (by simp)) (by simp)
        | some u =>
          rcases hO b with z | ⟨ob, xs, z⟩
          · rw [q] at z; cases z
          · have z2 := un.frzs b ob _ z
            obtain ⟨e1, _⟩ := hok b _ z
            obtain ⟨e2, _⟩ := hok' b _ z2
            rw [e] at e1; cases e1
            exact e2
  cases hk : K.lookup a with
  | some o =>
    -- the script is one of the module's own objects
    have e := KX a o hk
    rw [ha] at e
    cases e
    refine core (fun _ => none) (fun _ => .inl rfl) (.inr ⟨_, vs.toArray, _, hk, rfl, rfl, rfl, by rw [List.size_toArray, lenV]; exact hl, by simpa using rv⟩) (fun b u z => by have z' : (none : Option HO) = some u := z; cases z') (fun b z => absurd rfl z) fun z => absurd rfl z
  | none =>
    refine core (fun b => if b = a then some (.frz { cls := .type "list", data := .seq vs.toArray } (.lst (ns.map V.int))) else none) (fun b => ?_) (.inl (.inr ⟨{ cls := .type "list", data := .seq vs.toArray }, if_pos rfl⟩)) (fun b u z => ?_) (fun b z => ?_) fun _ => hk
    · by_cases hb : b = a
      · exact .inr ⟨_, _, if_pos hb⟩
      · exact .inl (if_neg hb)
    · by_cases hb : b = a
      · have z' := (if_pos hb).symm.trans z
        cases z'
        subst hb
        exact ⟨ha, by rw [List.length_map]; exact hl, vs, _, rv, ha⟩
      · have z' := (if_neg hb).symm.trans z
        cases z'
    · by_cases hb : b = a
      · exact hb
      · exact absurd (if_neg hb) z
end L2

namespace L2
open PySem PySem.Spec PyProof.Rows

abbrev KOf {K : PySem.W.Frag} {h : Heap} (_ : K.In h) : PySem.W.Frag := K

/-- the goal that k_head leaves (case hc), from the law's promise. F gives the function object fd (K's own) once, then the promise over every base -/
theorem walk_of {l : PySem.W.OpenLaw} {n k : Nat} {q : Program} {loose : List Str} {XP : (Str → Option Value) → Heap → Prop} {YP : World → Heap → Prop} {d : DefRec} {K : Params → PySem.W.Frag} {CX : World → CXT} {sp : World → Sp} {x : Str}
    (hn : l.most = some n) (hn2 : n ≤ sizeLine) (hdf : d.params.defaults = []) (hr : Room k callerA)
    (hY : ∀ (w : World) (h : Heap), YP w h → (K w.params).In h)
    (F : ∀ (w : World) (mg : Str → Option Value) (fa : Addr) (h : Heap), (K w.params).In h → h.Ns mainGlobals mg → mg d.name = some (.ref fa) →
      ∃ fd : FuncData, (∀ (s : Shared) (u : Value), BindsTo s fd ⟨[u], []⟩ [(x, u)]) ∧
        ∀ base : Heap, (K w.params).In base → base.Ns mainGlobals mg → FnOk l.prog w (K w.params) mg base (CX w) k fa fd [x] (sp w))
    (hsp : ∀ (w : World) (H : Hp) (a : Addr) (ns : List Int), ns.length ≤ n → Only H → SqL (K w.params) H a (ns.map V.int) → sp w [.ref a] H (fun v _ => v = .bl true) fun _ _ _ => False)
    (hCX : ∀ (w : World) (H : Hp) (s : Shared) (e : Value) (s' : Shared), CX w [] H s (fun _ _ _ => False) e s' → False) :
    PySem.W.WalkO q loose XP YP l.row.toRowW d [] (fun f vs => PySem.call f vs) := by
  refine Att.attach_call hn hdf fun w s₀ s₁ mg mb fa o pm cd doc a vs ns G Y ho hd hcd hmg hobj hints hlen hg => ?_
  have KX := hY w _ Y
  obtain ⟨fd, hb, hF⟩ := F w mg fa _ KX G.T.g hmg
  exact law_call KX G.T.g G.T.b G.T.builtins G.T.nolimit hg hobj hints (Nat.le_trans hlen hn2) hr hF hb (fun H hO hS => hsp w H a ns hlen hO hS) fun H e s' => hCX w H s₁ e s'
end L2



/-! SHORT WORDS over the layer: a def of the text, its body, what a loop and a test want. -/
namespace L2
open PySem PySem.Spec PyProof.Rows

/-! ### the text by places -/
/-- the j-th statement of a class's body -/
def inClass (s : Stmt) (j : Nat) : Stmt := match s with
  | .ClassDef _ _ _ body _ _ _ _ _ _ _ => body.getD j (.Pass ⟨0, 0, 0, 0⟩)
  | _ => .Pass ⟨0, 0, 0, 0⟩
def defArgs (s : Stmt) : Arguments := match s with
  | .FunctionDef _ a _ _ _ _ _ _ _ _ => a
  | _ => { posonlyargs := [], args := [], vararg := none, kwonlyargs := [], kw_defaults := [], kwarg := none, defaults := [] }
def defBody (s : Stmt) : List Stmt := match s with
  | .FunctionDef _ _ b _ _ _ _ _ _ _ => b
  | _ => []
def defScope (s : Stmt) : Scope := match s with
  | .FunctionDef _ _ _ _ _ _ sc _ _ _ => sc
  | _ => { kind := .function, names := [], isGenerator := false, isCoroutine := false }

/-! ### no exception leaves a def -/
abbrev CX0 : CXT := fun _ _ _ _ _ _ => False
abbrev E0 : XK := fun _ _ _ => False
/-! ### a def (or method) of the text as it stands behind the top -/
structure Fun (K : PySem.W.Frag) (x qual : Str) (st : Stmt) (f : Addr) (fd : FuncData) : Prop where
  ex : ∃ (oc : Value) (od : Option Addr) (kV doc pm : Value) (an : Option Addr) (cdv ct : Value) (osl : Array (Option Value)),
    fd = PySem.W.fnOf x qual (defArgs st) (defBody st) (defScope st) .none kV doc pm an cdv ct ∧ K.lookup f = some ⟨oc, od, .func fd, osl⟩ ∧ PySem.W.codeIn K cdv qual = true
  kp : PySem.W.keepIn K (.ref f) = true
section
variable {P : Program} {w : World} {K : PySem.W.Frag} {mg : Str → Option Value} {base : Heap}
/-- THE RULE for a def: its body as a term of rules, and the reading of that term -/
theorem Fun.ok {x qual : Str} {st : Stmt} {f : Addr} {fd : FuncData} {N ps : List Str} {k : Nat} {sp : Sp} (F : Fun K x qual st f fd) (S : FnScope N ps (defScope st)) (len : ∀ vs H Q E, sp vs H Q E → vs.length = ps.length)
    (hbody : ∀ (cdv : Value) (A : Around) (outer : List Env) (s : Shared) (H : Hp) (vs : List V) (Q : VK) (E : XK), Room k (A.deeper (envOfC qual (defScope st) s.heap.objs.size f cdv)) → sp vs H Q E →
      ∃ t, PSs (cxOf CX0 P w K mg base N qual (defScope st) f cdv A outer s H E).nox (defBody st) t ∧ t { nx := fun _ H' => Q .non H', rt := Q } (start N vs) H) : FnOk P w K mg base CX0 (k + 1) f fd ps sp := by
  obtain ⟨oc, od, kV, doc, pm, an, cdv, ct, osl, rfl, lk, hcd⟩ := F.ex
  refine fn_of lk hcd S len fun A outer s H vs Q E hr hsp => ?_
  obtain ⟨t, h, q⟩ := hbody cdv A outer s H vs Q E hr hsp
  exact ⟨t, h.nox, q⟩
/-- how its arguments bind (no defaults): h is «fun _ _ _ _ _ _ us hl => match us, hl with | [_, _], _ => rfl», one _ a parameter -/
theorem Fun.binds {x qual : Str} {st : Stmt} {f : Addr} {fd : FuncData} {ps : List Str} (F : Fun K x qual st f fd)
    (h : ∀ (kV doc pm : Value) (an : Option Addr) (cdv ct : Value) (us : List Value), us.length = ps.length → bindArgs (PySem.W.fnOf x qual (defArgs st) (defBody st) (defScope st) .none kV doc pm an cdv ct) ⟨us, []⟩ = pure (ps.zip us)) : Binds K fd ps [] := by
  obtain ⟨oc, od, kV, doc, pm, an, cdv, ct, osl, rfl, lk, hcd⟩ := F.ex
  exact .all (h kV doc pm an cdv ct)
theorem fun_mk {x qual : Str} {st : Stmt} {f : Addr} {oc : Value} {od an : Option Addr} {osl : Array (Option Value)} {kV doc pm cdv ct : Value} (l : K.lookup f = some ⟨oc, od, .func (PySem.W.fnOf x qual (defArgs st) (defBody st) (defScope st) .none kV doc pm an cdv ct), osl⟩)
    (c : PySem.W.codeIn K cdv qual = true) (k : PySem.W.keepIn K (.ref f) = true) : Fun K x qual st f (PySem.W.fnOf x qual (defArgs st) (defBody st) (defScope st) .none kV doc pm an cdv ct) := ⟨⟨oc, od, kV, doc, pm, an, cdv, ct, osl, rfl, l, c⟩, k⟩
end
/-! ### expressions in short: the name that stands in the i-th slot -/
section
variable {X : Cx}
theorem pv (i : Nat) {x : Str} {pos : Pos} (hN : X.N[i]? = some x := by rfl) (hv : Vis X.env.scope x := by first | exact Or.inl rfl | exact Or.inr (Or.inl rfl) | exact Or.inr (Or.inr rfl)) (hd : (x == ("__debug__" : Str)) = false := by decide)
    (hcd : (x == ("__classdict__" : Str)) = false := by decide) : PE X (.Name x pos) (tVar i) := pe_var hN hv hd hcd
end

/-! ### tests -/
theorem iteF {A B : Prop} (h : B) : if false = true then A else B := by
  rw [if_neg Bool.false_ne_true]
  exact h
theorem iteT {A B : Prop} (h : A) : if true = true then A else B := by
  rw [if_pos rfl]
  exact h
theorem ite2 {c A B : Prop} [Decidable c] (h1 : c → A) (h2 : ¬ c → B) : if c then A else B := by
  by_cases h : c
  · rw [if_pos h]
    exact h1 h
  · rw [if_neg h]
    exact h2 h
theorem iteNS {c A B : Prop} [Decidable c] (hc : c) (h : B) : if (!decide c) = true then A else B := by
  rw [decide_eq_true hc]
  exact iteF h

/-! ### heaps -/
/-- all that was tracked is as it was -/
def Same (H H' : Hp) : Prop := ∀ b o, H b = some o → H' b = some o
theorem Same.refl (H : Hp) : Same H H := fun _ _ h => h
theorem Same.trans {H H1 H2 : Hp} (a : Same H H1) (b : Same H1 H2) : Same H H2 := fun c o h => b c o (a c o h)
theorem Same.free {H H' : Hp} (e : Same H H') {l : Addr} (h : H' l = Option.none) : H l = Option.none := by
  cases q : H l with
  | none => rfl
  | some o =>
    rw [e l o q] at h
    cases h
theorem Same.seq {K : PySem.W.Frag} {H H' : Hp} {a : Addr} {xs : List V} (e : Same H H') (h : SqL K H a xs) : SqL K H' a xs := by
  rcases h with (h | ⟨o, h⟩) | h
  · exact .inl (.inl (e _ _ h))
  · exact .inl (.inr ⟨o, e _ _ h⟩)
  · exact .inr h

end L2

namespace L2
open PySem PySem.Spec PyProof.Rows

/-! ### lists of pairs as tables -/
section
variable {κ : Type} [DecidableEq κ]
def valV (kvs : List (κ × V)) (k : κ) : Option V := (kvs.find? fun kv => decide (kv.1 = k)).map (·.2)
/-- in its place, or at the end -/
def putK (kvs : List (κ × V)) (k : κ) (v : V) : List (κ × V) :=
  if (kvs.any fun kv => decide (kv.1 = k)) = true then kvs.map (fun kv => if kv.1 = k then (kv.1, v) else kv) else kvs ++ [(k, v)]
def dropK (kvs : List (κ × V)) (k : κ) : List (κ × V) := kvs.filter fun kv => decide (kv.1 ≠ k)

theorem valV_pos {p : κ × V} {r : List (κ × V)} {k : κ} (e : p.1 = k) : valV (p :: r) k = some p.2 := by simp [valV, List.find?_cons, e]
theorem valV_neg {p : κ × V} {r : List (κ × V)} {k : κ} (e : ¬ p.1 = k) : valV (p :: r) k = valV r k := by simp [valV, List.find?_cons, e]
theorem valV_any (k : κ) : ∀ kvs : List (κ × V), (kvs.any fun kv => decide (kv.1 = k)) = (valV kvs k).isSome
  | [] => rfl
  | p :: r => by
    rw [List.any_cons]
    by_cases e : p.1 = k
    · simp only [valV_pos e, decide_eq_true e, Bool.true_or, Option.isSome_some]
    · rw [valV_neg e, decide_eq_false e, Bool.false_or]; exact valV_any k r
theorem RelO.isSome_eq {o : Option V} {u : Option Value} (r : RelO o u) : o.isSome = u.isSome := by
  cases o with
  | none => cases u with
    | none => rfl
    | some _ => exact (show False from r).elim
  | some _ => cases u with
    | none => exact (show False from r).elim
    | some _ => rfl
theorem RelO.getD {o : Option V} {u : Option Value} {d : V} {d' : Value} (r : RelO o u) (rd : RelV d d') : RelV (o.getD d) (u.getD d') := by
  cases o with
  | none => cases u with
    | none => exact rd
    | some _ => exact (show False from r).elim
  | some _ => cases u with
    | none => exact (show False from r).elim
    | some _ => exact r

/-- raw tables of the same keys -/
theorem KV.val {kvs : List (κ × V)} {vs : List (κ × Value)} (r : KV kvs vs) (k : κ) : RelO (valV kvs k) (valueAt vs k) := by
  unfold KV at r
  induction r with
  | nil => exact True.intro
  | @cons p q ps qs h t ih =>
    obtain ⟨h1, h2⟩ := h
    by_cases e : p.1 = k
    · have e' : q.1 = k := h1.symm.trans e
      have b : valueAt (q :: qs) k = some q.2 := by simp [valueAt, List.find?_cons, e']
      rw [valV_pos e, b]; exact h2
    · have e' : ¬ q.1 = k := fun z => e (h1.trans z)
      have b : valueAt (q :: qs) k = valueAt qs k := by simp [valueAt, List.find?_cons, e']
      rw [valV_neg e, b]; exact ih
theorem KV.any {kvs : List (κ × V)} {vs : List (κ × Value)} (r : KV kvs vs) (k : κ) : (kvs.any fun kv => decide (kv.1 = k)) = vs.any fun kv => decide (kv.1 = k) := by
  unfold KV at r
  induction r with
  | nil => rfl
  | cons h t ih => rw [List.any_cons, List.any_cons, ih, h.1]
theorem KV.repl {kvs : List (κ × V)} {vs : List (κ × Value)} (r : KV kvs vs) (k : κ) {y : V} {u : Value} (ry : RelV y u) :
    KV (kvs.map fun kv => if kv.1 = k then (kv.1, y) else kv) (vs.map fun kv => if kv.1 = k then (kv.1, u) else kv) := by
  unfold KV at r ⊢
  induction r with
  | nil => exact .nil
  | @cons p q ps qs h t ih =>
    rw [List.map_cons, List.map_cons]
    refine .cons ?_ ih
    obtain ⟨h1, h2⟩ := h
    by_cases e : p.1 = k
    · rw [if_pos e, if_pos (h1.symm.trans e)]; exact ⟨h1, ry⟩
    · rw [if_neg e, if_neg (fun z => e (h1.trans z))]; exact ⟨h1, h2⟩
theorem KV.put {kvs : List (κ × V)} {vs : List (κ × Value)} (r : KV kvs vs) (k : κ) {y : V} {u : Value} (ry : RelV y u) : KV (putK kvs k y) (stored vs k u) := by
  unfold putK stored
  rw [r.any k]
  by_cases e : (vs.any fun kv => decide (kv.1 = k)) = true
  · rw [if_pos e, if_pos e]; exact r.repl k ry
  · rw [if_neg e, if_neg e]; exact Paired.snoc r ⟨rfl, ry⟩
theorem KV.drop {kvs : List (κ × V)} {vs : List (κ × Value)} (r : KV kvs vs) (k : κ) : KV (dropK kvs k) (without vs k) := by
  unfold KV at r ⊢
  unfold dropK without
  induction r with
  | nil => exact .nil
  | @cons p q ps qs h t ih =>
    obtain ⟨h1, h2⟩ := h
    rw [List.filter_cons, List.filter_cons]
    by_cases e : p.1 = k
    · have a : ¬ decide (p.1 ≠ k) = true := by simp [e]
      have b : ¬ decide (q.1 ≠ k) = true := by simp [h1.symm.trans e]
      rw [if_neg a, if_neg b]; exact ih
    · have e' : ¬ q.1 = k := fun z => e (h1.trans z)
      have a : decide (p.1 ≠ k) = true := by simp [e]
      have b : decide (q.1 ≠ k) = true := by simp [e']
      rw [if_pos a, if_pos b]; exact .cons ⟨h1, h2⟩ ih
theorem KV.keys {kvs : List (κ × V)} {vs : List (κ × Value)} (r : KV kvs vs) : kvs.map (·.1) = vs.map (·.1) := by
  unfold KV at r
  induction r with
  | nil => rfl
  | cons h t ih => rw [List.map_cons, List.map_cons, ih, h.1]
theorem KV.length {kvs : List (κ × V)} {vs : List (κ × Value)} (r : KV kvs vs) : kvs.length = vs.length := Paired.length r
end


/-! ### a tracked dict, its keys ints and texts or tuples of these -/
/-- raw entries of a dict with tuple keys -/
abbrev KT (H : Hp) : List (List Key × V) → List (List Key × Addr × Value) → Prop := Paired fun p q => p.1 = q.1 ∧ H q.2.1 = some (.tup (p.1.map kV)) ∧ RelV p.2 q.2.2
theorem KT.val {H : Hp} {kvs : List (List Key × V)} {xs : List (List Key × Addr × Value)} (r : KT H kvs xs) (k : List Key) : RelO (valV kvs k) ((atKey xs k).map (·.2)) := by
  induction r with
  | nil => exact True.intro
  | @cons p q ps qs h t ih =>
    obtain ⟨h1, _, h2⟩ := h
    by_cases e : p.1 = k
    · have e' : q.1 = k := h1.symm.trans e
      have b : atKey (q :: qs) k = some q.2 := by simp [atKey, List.find?_cons, e']
      rw [valV_pos e, b]; exact h2
    · have e' : ¬ q.1 = k := fun z => e (h1.trans z)
      have b : atKey (q :: qs) k = atKey qs k := by simp [atKey, List.find?_cons, e']
      rw [valV_neg e, b]; exact ih
theorem KT.repl {H : Hp} {kvs : List (List Key × V)} {xs : List (List Key × Addr × Value)} (r : KT H kvs xs) (k : List Key) {y : V} {u : Value} (ry : RelV y u) :
    KT H (kvs.map fun kv => if kv.1 = k then (kv.1, y) else kv) (xs.map (putAt k u)) := by
  induction r with
  | nil => exact .nil
  | @cons p q ps qs h t ih =>
    rw [List.map_cons, List.map_cons]
    refine .cons ?_ ih
    obtain ⟨h1, h2, h3⟩ := h
    unfold putAt
    by_cases e : p.1 = k
    · rw [if_pos e, if_pos (h1.symm.trans e)]; exact ⟨h1, h2, ry⟩
    · rw [if_neg e, if_neg (fun z => e (h1.trans z))]; exact ⟨h1, h2, h3⟩
theorem KT.put {H : Hp} {kvs : List (List Key × V)} {xs : List (List Key × Addr × Value)} (r : KT H kvs xs) (k : List Key) {b : Addr} {y : V} {u : Value} (hb : H b = some (.tup (k.map kV))) (ry : RelV y u) :
    KT H (putK kvs k y) (storedH xs k b u) := by
  have e : (kvs.any fun kv => decide (kv.1 = k)) = (atKey xs k).isSome := by
    rw [valV_any, (r.val k).isSome_eq, Option.isSome_map]
  unfold putK storedH
  rw [e]
  by_cases q : (atKey xs k).isSome = true
  · rw [if_pos q, if_pos q]; exact r.repl k ry
  · rw [if_neg q, if_neg q]; exact Paired.snoc r ⟨rfl, hb, ry⟩
theorem KT.keeps {H H' : Hp} {kvs : List (List Key × V)} {xs : List (List Key × Addr × Value)} (r : KT H kvs xs) (ht : ∀ b ys, H b = some (.tup ys) → H' b = some (.tup ys)) : KT H' kvs xs :=
  Paired.mapP r fun _ _ z => ⟨z.1, ht _ _ z.2.1, z.2.2⟩

section
variable {P : Program} {w : World} {H : Hp} {h : Heap} {a : Addr}
end

/-- what the dict at a holds at the key y -/
def DGet (H : Hp) (a : Addr) (y : V) (r : Option V) : Prop :=
  (∃ kvs k, Rd H a (.dK kvs) ∧ y = kV k ∧ r = valV kvs k) ∨ ∃ kvs k b, Rd H a (.dT kvs) ∧ y = .ref b ∧ H b = some (.tup (k.map kV)) ∧ r = valV kvs k
/-- the heap behind a[y] = v -/
def DPut (H : Hp) (a : Addr) (y v : V) (H' : Hp) : Prop :=
  (∃ kvs k, H a = some (.dK kvs) ∧ y = kV k ∧ kvs.length < sizeLine ∧ H' = upd H a (.dK (putK kvs k v))) ∨
  ∃ kvs k b, H a = some (.dT kvs) ∧ y = .ref b ∧ H b = some (.tup (k.map kV)) ∧ kvs.length < sizeLine ∧ H' = upd H a (.dT (putK kvs k v))
theorem DGet.k {H : Hp} {a : Addr} {kvs : List (Key × V)} {k : Key} (e : H a = some (.dK kvs)) : DGet H a (kV k) (valV kvs k) := .inl ⟨kvs, k, .inl e, rfl, rfl⟩
theorem DGet.t {H : Hp} {a b : Addr} {kvs : List (List Key × V)} {k : List Key} (e : H a = some (.dT kvs)) (eb : H b = some (.tup (k.map kV))) : DGet H a (.ref b) (valV kvs k) := .inr ⟨kvs, k, b, .inl e, rfl, eb, rfl⟩
theorem DPut.k {H : Hp} {a : Addr} {kvs : List (Key × V)} {k : Key} {v : V} (e : H a = some (.dK kvs)) (hl : kvs.length < sizeLine) : DPut H a (kV k) v (upd H a (.dK (putK kvs k v))) := .inl ⟨kvs, k, e, rfl, hl, rfl⟩
theorem DPut.t {H : Hp} {a b : Addr} {kvs : List (List Key × V)} {k : List Key} {v : V} (e : H a = some (.dT kvs)) (eb : H b = some (.tup (k.map kV))) (hl : kvs.length < sizeLine) :
    DPut H a (.ref b) v (upd H a (.dT (putK kvs k v))) := .inr ⟨kvs, k, b, e, rfl, eb, hl, rfl⟩


section
variable {X : Cx} {pins : List (Addr × Obj)} {σ : St} {H : Hp} {s : Shared} {a : Addr} {y v : V} {u r : Value} {o : Option V} {A : Around} {E : Value → Shared → Prop}

theorem Inv.big (I : Inv X pins σ H s) : sysModules < s.heap.objs.size := by
  have h : mainGlobals < s.heap.objs.size := (I.mod.glob.keeps I.bk).lt
  exact Nat.lt_trans (by decide) h

end

section
variable {X : Cx} {pins : List (Addr × Obj)} {σ : St} {H : Hp} {s : Shared} {a : Addr} {kvs : List (Key × V)} {k : Key} {u : Value} {A : Around} {E : Value → Shared → Prop}
end


/-! ### readings and rules -/
/-- the element of a subscription, not a slice -/
def NoSl (i : Expr) : Prop := ∀ ov iv, subscripted i false ov iv = operate [ov, iv] (getItem ov iv)
/-- d[y] -/
def tDGet (td ty : TE) : TE := fun σ H Q => td σ H fun x H1 => ty σ H1 fun y H2 => ∃ a v, x = .ref a ∧ DGet H2 a y (some v) ∧ Q v H2
/-- y in d, y not in d -/
def tDIn (ty td : TE) : TE := fun σ H Q => ty σ H fun y H1 => td σ H1 fun x H2 => ∃ a o, x = .ref a ∧ DGet H2 a y o ∧ Q (.bl o.isSome) H2
def tDNotIn (ty td : TE) : TE := fun σ H Q => ty σ H fun y H1 => td σ H1 fun x H2 => ∃ a o, x = .ref a ∧ DGet H2 a y o ∧ Q (.bl (!o.isSome)) H2
/-- d[y] = v -/
def sDPut (td ty tv : TE) : TS := fun D σ H => tv σ H fun v H1 => td σ H1 fun x H2 => ty σ H2 fun y H3 => ∃ a H4, x = .ref a ∧ DPut H3 a y v H4 ∧ D.nx σ H4
/-- d[y] op= v -/
def sDAug (td ty tv : TE) (rd : V → V → Hp → VK → Prop) : TS := fun D σ H => td σ H fun x H1 => ty σ H1 fun y H2 => ∃ a v, x = .ref a ∧ DGet H2 a y (some v) ∧
  tv σ H2 fun y2 H3 => rd v y2 H3 fun z H4 => ∃ H5, DPut H4 a y z H5 ∧ D.nx σ H5
/-- del d[y] -/
def sDDel (td ty : TE) : TS := fun D σ H => td σ H fun x H1 => ty σ H1 fun y H2 => ∃ a kvs k, x = .ref a ∧ H2 a = some (.dK kvs) ∧ y = kV k ∧ (valV kvs k).isSome = true ∧ D.nx σ (upd H2 a (.dK (dropK kvs k)))

section
variable {X : Cx} {o i e value : Expr} {pos pos' tpos : Pos} {td ty tv : TE}
end


/-! ### displays -/
/-- {}, to be a dict of the kind that is wanted -/
def tDNewK : TE := fun _ H Q => ∀ p, H p = none → Q (.ref p) (upd H p (.dK []))
def tDNewT : TE := fun _ H Q => ∀ p, H p = none → Q (.ref p) (upd H p (.dT []))
section
variable {X : Cx} {pos : Pos}
end

/-- the pairs of a display, from the left -/
def tPairs : List (TE × TE) → St → Hp → (List (V × V) → Hp → Prop) → Prop
  | [], _, H, Q => Q [] H
  | (tk, tv) :: r, σ, H, Q => tk σ H fun x H1 => tv σ H1 fun y H2 => tPairs r σ H2 fun ps H3 => Q ((x, y) :: ps) H3
abbrev VV : List (V × V) → List (Value × Value) → Prop := Paired fun p q => RelV p.1 q.1 ∧ RelV p.2 q.2
def PPs (X : Cx) (pos : Pos) (keys : List (Option Expr)) (values : List Expr) (trs : List (TE × TE)) : Prop :=
  ∀ (pins : List (Addr × Obj)) (s : Shared) (σ : St) (H : Hp) (Q : List (V × V) → Hp → Prop), Inv X pins σ H s → tPairs trs σ H Q →
    wpAny (model X.prog X.w) X.A (evalPairs (pairTrees keys values X.env pos)) (fun vs s' => ∃ ps H', Inv X pins σ H' s' ∧ VV ps vs ∧ Q ps H') X.xe s
def mergeK (kvs more : List (Key × V)) : List (Key × V) := more.foldl (fun acc kv => putK acc kv.1 kv.2) kvs
/-- {k: v, ..} with keys ints and texts; the new dict stands empty while the pairs are made -/
def tDisp (trs : List (TE × TE)) : TE := fun σ H Q => ∀ p, H p = none → tPairs trs σ (upd H p (.dK [])) fun ps H2 => H2 p = some (.dK []) ∧ ∃ kvs : List (Key × V), ps = kvs.map (fun kv => (kV kv.1, kv.2)) ∧ kvs.length ≤ 15 ∧ Q (.ref p) (upd H2 p (.dK (mergeK [] kvs)))
/-! ### methods -/
/-- a method call o.m(e) of a built-in, with one argument: what must be seen of the text -/
structure M1 (X : Cx) (o : Expr) (m : Str) (apos : Pos) (e : Expr) (cpos : Pos) : Prop where
  base : attributeBase o m X.env (eval o X.env) = eval o X.env
  few : ((backTo cpos (starEach [e] X.env)).all (fun x => !x.1) && (backToKw cpos (keywordEach [] X.env)).all (fun x => x.1.isSome)
    && decide (([e] : List Expr).length + ([] : List Keyword).length + (if ([] : List Keyword).isEmpty then 0 else 1) < 30)) = true
  line : (apos.endLine == cpos.line) = true
  trees : backTo cpos (starEach [e] X.env) = [(false, eval e X.env)]
structure M2 (X : Cx) (o : Expr) (m : Str) (apos : Pos) (e f : Expr) (cpos : Pos) : Prop where
  base : attributeBase o m X.env (eval o X.env) = eval o X.env
  few : ((backTo cpos (starEach [e, f] X.env)).all (fun x => !x.1) && (backToKw cpos (keywordEach [] X.env)).all (fun x => x.1.isSome)
    && decide (([e, f] : List Expr).length + ([] : List Keyword).length + (if ([] : List Keyword).isEmpty then 0 else 1) < 30)) = true
  line : (apos.endLine == cpos.line) = true
  trees : backTo cpos (starEach [e, f] X.env) = [(false, eval e X.env), (false, eval f X.env)]

/-- a is a dict, whatever its keys -/
def IsD (H : Hp) (a : Addr) : Prop := (∃ kvs, Rd H a (.dK kvs)) ∨ ∃ kvs, Rd H a (.dT kvs)
section
variable {X : Cx} {pins : List (Addr × Obj)} {σ : St} {H : Hp} {s : Shared} {a : Addr} {y d : V} {u r : Value} {o : Option V} {A : Around} {E : Value → Shared → Prop}
end

def tDGet1 (td ty : TE) : TE := fun σ H Q => td σ H fun x H1 => ∃ a, x = .ref a ∧ IsD H1 a ∧ ty σ H1 fun y H2 => ∃ o, DGet H2 a y o ∧ Q (o.getD .non) H2
def tDGet2 (td ty tx : TE) : TE := fun σ H Q => td σ H fun x H1 => ∃ a, x = .ref a ∧ IsD H1 a ∧ ty σ H1 fun y H2 => tx σ H2 fun z H3 => ∃ o, DGet H3 a y o ∧ Q (o.getD z) H3
/-- d.pop(k): there; d.pop(k, x): there or not -/
def tDPop1 (td ty : TE) : TE := fun σ H Q => td σ H fun x H1 => ∃ a, x = .ref a ∧ IsD H1 a ∧ ty σ H1 fun y H2 => ∃ kvs k v, H2 a = some (.dK kvs) ∧ y = kV k ∧ valV kvs k = some v ∧ Q v (upd H2 a (.dK (dropK kvs k)))
def tDPop2 (td ty tx : TE) : TE := fun σ H Q => td σ H fun x H1 => ∃ a, x = .ref a ∧ IsD H1 a ∧ ty σ H1 fun y H2 => tx σ H2 fun z H3 => ∃ kvs k, H3 a = some (.dK kvs) ∧ y = kV k ∧
  (∀ v, valV kvs k = some v → Q v (upd H3 a (.dK (dropK kvs k)))) ∧ (valV kvs k = none → Q z H3)
section
variable {X : Cx} {o e f : Expr} {apos cpos : Pos} {td ty tx : TE}
end

/-! ### dict(d): a copy -/
section
variable {X : Cx} {pins : List (Addr × Obj)} {σ : St} {H : Hp} {s : Shared} {a : Addr} {kvs : List (Key × V)} {A : Around} {E : Value → Shared → Prop}
end


section
variable {X : Cx} {pins : List (Addr × Obj)} {σ : St} {H : Hp} {s : Shared} {a : Addr} {y : V} {u : Value} {A : Around} {E : Value → Shared → Prop}
end
end L2


namespace L2
open PySem PySem.Spec PyProof.Rows
section
variable {X : Cx}
end
/-! ### a dict's pairs: keys that differ -/
section
variable {κ : Type} [DecidableEq κ]
end
end L2

namespace L3
open PySem PySem.Spec PyProof.Rows L2

/-! ### deep data at a value -/
mutual
def Den (K : PySem.W.Frag) (H : Hp) : PyData → V → Prop
  | .none, v => v = .non
  | .bool b, v => v = .bl b
  | .int i, v => v = .int i
  | .str x, v => v = .str x
  | .tuple ds, v => ∃ a xs, v = .ref a ∧ SqT K H a xs ∧ Dens K H ds xs
  | .list ds, v => ∃ a xs, v = .ref a ∧ SqL K H a xs ∧ Dens K H ds xs
  | .dict _, _ => False
def Dens (K : PySem.W.Frag) (H : Hp) : List PyData → List V → Prop
  | [], xs => xs = []
  | d :: ds, xs => ∃ x r, xs = x :: r ∧ Den K H d x ∧ Dens K H ds r
end

section
variable {K : PySem.W.Frag} {H H' : Hp} {a : Addr} {xs : List V}
theorem same_seqT (e : Same H H') (h : SqT K H a xs) : SqT K H' a xs := by
  rcases h with (h | ⟨o, h⟩) | h
  · exact .inl (.inl (e _ _ h))
  · exact .inl (.inr ⟨o, e _ _ h⟩)
  · exact .inr h
theorem same_new {p : Addr} (h : H p = none) (o : HO) : Same H (upd H p o) := fun b u q => by rw [upd_ne (ne_of_none q h)]; exact q
/-- what a write at a list leaves -/
theorem upd_seqT {p : Addr} {ys : List V} {o : HO} (hp : H p = some (.lst ys)) (h : SqT K H a xs) : SqT K (upd H p o) a xs := by
  rcases h with (h | ⟨u, h⟩) | h
  · exact .inl (.inl (by rw [upd_ne (ne_of h hp (by intro z; cases z))]; exact h))
  · exact .inl (.inr ⟨u, by rw [upd_ne (ne_of h hp (by intro z; cases z))]; exact h⟩)
  · exact .inr h
end

mutual
/-- no list inside -/
def nol : PyData → Bool
  | .list _ => false
  | .tuple ds => nols ds
  | .dict _ => false
  | _ => true
def nols : List PyData → Bool
  | [] => true
  | d :: ds => nol d && nols ds
end

mutual
theorem Den.same {K : PySem.W.Frag} {H H' : Hp} (e : Same H H') : ∀ (d : PyData) (v : V), Den K H d v → Den K H' d v
  | .none, v, h => by simpa only [Den] using h
  | .bool b, v, h => by simpa only [Den] using h
  | .int i, v, h => by simpa only [Den] using h
  | .str x, v, h => by simpa only [Den] using h
  | .tuple ds, v, h => by
    simp only [Den] at h ⊢
    obtain ⟨a, xs, e1, e2, e3⟩ := h
    exact ⟨a, xs, e1, same_seqT e e2, Dens.same e ds xs e3⟩
  | .list ds, v, h => by
    simp only [Den] at h ⊢
    obtain ⟨a, xs, e1, e2, e3⟩ := h
    exact ⟨a, xs, e1, e.seq e2, Dens.same e ds xs e3⟩
  | .dict _, v, h => by simp only [Den] at h
theorem Dens.same {K : PySem.W.Frag} {H H' : Hp} (e : Same H H') : ∀ (ds : List PyData) (xs : List V), Dens K H ds xs → Dens K H' ds xs
  | [], xs, h => by simpa only [Dens] using h
  | d :: ds, xs, h => by
    simp only [Dens] at h ⊢
    obtain ⟨x, r, e1, e2, e3⟩ := h
    exact ⟨x, r, e1, Den.same e d x e2, Dens.same e ds r e3⟩
end
mutual
theorem Den.upd {K : PySem.W.Frag} {H : Hp} {p : Addr} {ys : List V} {o : HO} (hp : H p = some (.lst ys)) : ∀ (d : PyData) (v : V), nol d = true → Den K H d v → Den K (upd H p o) d v
  | .none, v, _, h => by simpa only [Den] using h
  | .bool b, v, _, h => by simpa only [Den] using h
  | .int i, v, _, h => by simpa only [Den] using h
  | .str x, v, _, h => by simpa only [Den] using h
  | .tuple ds, v, n, h => by
    simp only [Den] at h ⊢
    simp only [nol] at n
    obtain ⟨a, xs, e1, e2, e3⟩ := h
    exact ⟨a, xs, e1, upd_seqT hp e2, Dens.upd hp ds xs n e3⟩
  | .list ds, v, n, h => by simp only [nol] at n; cases n
  | .dict _, v, n, h => by simp only [nol] at n; cases n
theorem Dens.upd {K : PySem.W.Frag} {H : Hp} {p : Addr} {ys : List V} {o : HO} (hp : H p = some (.lst ys)) : ∀ (ds : List PyData) (xs : List V), nols ds = true → Dens K H ds xs → Dens K (upd H p o) ds xs
  | [], xs, _, h => by simpa only [Dens] using h
  | d :: ds, xs, n, h => by
    simp only [nols, Bool.and_eq_true] at n
    simp only [Dens] at h ⊢
    obtain ⟨x, r, e1, e2, e3⟩ := h
    exact ⟨x, r, e1, Den.upd hp d x n.1 e2, Dens.upd hp ds r n.2 e3⟩
end
section
variable {K : PySem.W.Frag} {H : Hp}
theorem Dens.nil : Dens K H [] [] := by simp only [Dens]
theorem Dens.cons {d : PyData} {ds : List PyData} {x : V} {r : List V} (h : Den K H d x) (t : Dens K H ds r) : Dens K H (d :: ds) (x :: r) := by
  simp only [Dens]; exact ⟨x, r, rfl, h, t⟩
theorem Dens.length : ∀ {ds : List PyData} {xs : List V}, Dens K H ds xs → xs.length = ds.length
  | [], xs, h => by simp only [Dens] at h; subst h; rfl
  | d :: ds, xs, h => by
    simp only [Dens] at h
    obtain ⟨x, r, rfl, _, t⟩ := h
    simp only [List.length_cons, Dens.length t]
theorem Dens.append : ∀ {ds es : List PyData} {xs ys : List V}, Dens K H ds xs → Dens K H es ys → Dens K H (ds ++ es) (xs ++ ys)
  | [], es, xs, ys, h, k => by simp only [Dens] at h; subst h; exact k
  | d :: ds, es, xs, ys, h, k => by
    simp only [Dens] at h
    obtain ⟨x, r, rfl, e, t⟩ := h
    exact Dens.cons e (Dens.append t k)
theorem Dens.get : ∀ {ds : List PyData} {xs : List V} {i : Nat} {x : V}, Dens K H ds xs → xs[i]? = some x → ∃ d, ds[i]? = some d ∧ Den K H d x
  | [], xs, i, x, h, e => by simp only [Dens] at h; subst h; simp at e
  | d :: ds, xs, i, x, h, e => by
    simp only [Dens] at h
    obtain ⟨y, r, rfl, f, t⟩ := h
    cases i with
    | zero => simp at e; subst e; exact ⟨d, rfl, f⟩
    | succ i =>
      obtain ⟨d', e1, e2⟩ := Dens.get (i := i) t (by simpa using e)
      exact ⟨d', by simpa using e1, e2⟩
theorem Dens.at : ∀ {ds : List PyData} {xs : List V} {i : Nat} {d : PyData}, Dens K H ds xs → ds[i]? = some d → ∃ x, xs[i]? = some x ∧ Den K H d x
  | [], xs, i, d, h, e => by simp at e
  | d' :: ds, xs, i, d, h, e => by
    simp only [Dens] at h
    obtain ⟨y, r, rfl, f, t⟩ := h
    cases i with
    | zero => simp at e; subst e; exact ⟨y, rfl, f⟩
    | succ i =>
      obtain ⟨x, e1, e2⟩ := Dens.at (i := i) t (by simpa using e)
      exact ⟨x, by simpa using e1, e2⟩
theorem Dens.drop : ∀ {ds : List PyData} {xs : List V} (n : Nat), Dens K H ds xs → Dens K H (ds.drop n) (xs.drop n)
  | ds, xs, 0, h => h
  | [], xs, n + 1, h => by simp only [Dens] at h; subst h; exact Dens.nil
  | d :: ds, xs, n + 1, h => by
    simp only [Dens] at h
    obtain ⟨y, r, rfl, f, t⟩ := h
    exact Dens.drop n t
theorem Dens.take : ∀ {ds : List PyData} {xs : List V} (n : Nat), Dens K H ds xs → Dens K H (ds.take n) (xs.take n)
  | ds, xs, 0, h => Dens.nil
  | [], xs, n + 1, h => by simp only [Dens] at h; subst h; exact Dens.nil
  | d :: ds, xs, n + 1, h => by
    simp only [Dens] at h
    obtain ⟨y, r, rfl, f, t⟩ := h
    exact Dens.cons f (Dens.take n t)
theorem den_int {i : Int} : Den K H (.int i) (.int i) := by simp only [Den]
theorem den_bl {i : Bool} : Den K H (.bool i) (.bl i) := by simp only [Den]
theorem den_tup {a : Addr} {xs : List V} {ds : List PyData} (h : SqT K H a xs) (t : Dens K H ds xs) : Den K H (.tuple ds) (.ref a) := by simp only [Den]; exact ⟨a, xs, rfl, h, t⟩
theorem den_lst {a : Addr} {xs : List V} {ds : List PyData} (h : SqL K H a xs) (t : Dens K H ds xs) : Den K H (.list ds) (.ref a) := by simp only [Den]; exact ⟨a, xs, rfl, h, t⟩
theorem Den.tup_of {v : V} {ds : List PyData} (h : Den K H (.tuple ds) v) : ∃ a xs, v = .ref a ∧ SqT K H a xs ∧ Dens K H ds xs := by simpa only [Den] using h
theorem Den.lst_of {v : V} {ds : List PyData} (h : Den K H (.list ds) v) : ∃ a xs, v = .ref a ∧ SqL K H a xs ∧ Dens K H ds xs := by simpa only [Den] using h
theorem Den.int_of {v : V} {i : Int} (h : Den K H (.int i) v) : v = .int i := by simpa only [Den] using h
theorem Den.bl_of {v : V} {i : Bool} (h : Den K H (.bool i) v) : v = .bl i := by simpa only [Den] using h
theorem Den.str_of {v : V} {i : Str} (h : Den K H (.str i) v) : v = .str i := by simpa only [Den] using h
theorem Den.non_of {v : V} (h : Den K H .none v) : v = .non := by simpa only [Den] using h
theorem Dens.two {d e : PyData} {xs : List V} (h : Dens K H [d, e] xs) : ∃ x y, xs = [x, y] ∧ Den K H d x ∧ Den K H e y := by
  simp only [Dens] at h
  obtain ⟨x, r, rfl, h1, y, r', rfl, h2, rfl⟩ := h
  exact ⟨x, y, rfl, h1, h2⟩
theorem Dens.three {d e f : PyData} {xs : List V} (h : Dens K H [d, e, f] xs) : ∃ x y z, xs = [x, y, z] ∧ Den K H d x ∧ Den K H e y ∧ Den K H f z := by
  simp only [Dens] at h
  obtain ⟨x, r, rfl, h1, y, r', rfl, h2, z, r'', rfl, h3, rfl⟩ := h
  exact ⟨x, y, z, rfl, h1, h2, h3⟩
end

/-! ### the heap holds it -/
mutual
theorem Den.reads {X : Cx} {pins : List (Addr × Obj)} {σ : L2.St} {H : Hp} {s : Shared} (I : Inv X pins σ H s) : ∀ (d : PyData) (v : V) (u : Value), Den X.K H d v → RelV v u → ∃ as, Reads s.heap u d as
  | .none, v, u, h, r => by simp only [Den] at h; subst h; cases r; exact ⟨_, .none⟩
  | .bool b, v, u, h, r => by simp only [Den] at h; subst h; cases r; exact ⟨_, .bool b⟩
  | .int i, v, u, h, r => by simp only [Den] at h; subst h; obtain ⟨t, rfl⟩ := r; exact ⟨_, .int i t⟩
  | .str x, v, u, h, r => by simp only [Den] at h; subst h; obtain ⟨t, rfl⟩ := r; exact ⟨_, .str x t⟩
  | .tuple ds, v, u, h, r => by
    simp only [Den] at h
    obtain ⟨a, xs, rfl, h1, h2⟩ := h
    cases r
    obtain ⟨its, rv, ⟨o, e1, e2, n, e3⟩, _⟩ := I.tuple h1
    obtain ⟨as, q⟩ := Dens.reads I ds xs its h2 rv
    exact ⟨_, .tuple e1 e2 e3 q⟩
  | .list ds, v, u, h, r => by
    simp only [Den] at h
    obtain ⟨a, xs, rfl, h1, h2⟩ := h
    cases r
    obtain ⟨its, rv, p, _⟩ := I.list h1
    obtain ⟨o, e1, e2, n, e3⟩ := p.isList
    obtain ⟨as, q⟩ := Dens.reads I ds xs its h2 rv
    exact ⟨_, .list e1 e2 e3 q⟩
  | .dict _, v, u, h, r => by simp only [Den] at h
theorem Dens.reads {X : Cx} {pins : List (Addr × Obj)} {σ : L2.St} {H : Hp} {s : Shared} (I : Inv X pins σ H s) : ∀ (ds : List PyData) (xs : List V) (us : List Value), Dens X.K H ds xs → Vals xs us → ∃ as, ReadsAll s.heap us ds as
  | [], xs, us, h, r => by simp only [Dens] at h; subst h; cases r; exact ⟨_, .nil⟩
  | d :: ds, xs, us, h, r => by
    simp only [Dens] at h
    obtain ⟨x, r', rfl, h1, h2⟩ := h
    cases r with
    | cons q t =>
      obtain ⟨as, e1⟩ := Den.reads I d x _ h1 q
      obtain ⟨bs, e2⟩ := Dens.reads I ds r' _ h2 t
      exact ⟨_, .cons e1 e2⟩
end

/-! ### == and != of deep data -/
def shp (d : PyData) : Bool := d.canLay0 && decide (d.depth ≤ 32)
def rEqD (K : PySem.W.Frag) (neg : Bool) : R2 := fun x y H Q => ∃ d e, Den K H d x ∧ Den K H e y ∧ shp d = true ∧ shp e = true ∧ Q (.bl (if neg then !PyData.eqv d e else PyData.eqv d e)) H
section
variable {X : Cx}
theorem shp_can {d : PyData} (h : shp d = true) : d.canLay0 = true := (Bool.and_eq_true_iff.mp h).1
theorem shp_dep {d : PyData} (h : shp d = true) : d.depth ≤ 32 := of_decide_eq_true (Bool.and_eq_true_iff.mp h).2
theorem op_eqD (hu : X.A.units + 40 < cLine) : OpR X (compareOp .Eq) (rEqD X.K false) := by
  intro pins s σ H x y v u Q I rx ry h
  obtain ⟨d, e, h1, h2, s1, s2, q⟩ := h
  obtain ⟨as, r1⟩ := Den.reads I d x v h1 rx
  obtain ⟨bs, r2⟩ := Den.reads I e y u h2 ry
  exact SeqAt.rcAt_reads r1 r2 (shp_can s1) (shp_can s2) (by have := shp_dep s1; omega) X.prog X.w X.xe _ ⟨.bl _, H, I, rfl, q⟩
/-! ### in, not in -/
theorem in1_units {A : Around} : A.in1.units = A.units + 1 := rfl
/-- what an item answers, told by the heap -/
theorem mem_D {pins : List (Addr × Obj)} {σ : L2.St} {H : Hp} {s : Shared} {x : V} {v : Value} {d : PyData} (I : Inv X pins σ H s) (rx : RelV x v) (hd : Den X.K H d x) (sd : shp d = true) (hu : X.A.units + 40 < cLine) :
    ∀ {es : List PyData} {xs : List V} {us : List Value}, Dens X.K H es xs → Vals xs us → (∀ e ∈ es, shp e = true) →
      ∃ f : Value → Bool, (∀ u ∈ us, SeqAt.EqAt X.A.in1 s u v (f u)) ∧ us.any f = es.any fun e => PyData.eqv e d := by
  classical
  intro es xs us h r hs
  obtain ⟨as, rd⟩ := Den.reads I d x v hd rx
  refine ⟨fun u => decide (∃ e as, e ∈ es ∧ Reads s.heap u e as ∧ PyData.eqv e d = true), ?_, ?_⟩
  · intro u hu'
    -- u reads some e
    have : ∀ {es' : List PyData} {xs' : List V} {us' : List Value}, Dens X.K H es' xs' → Vals xs' us' → u ∈ us' → ∃ e ∈ es', ∃ as, Reads s.heap u e as := by
      intro es'
      induction es' with
      | nil => intro xs' us' h r m; simp only [Dens] at h; subst h; cases r; cases m
      | cons e es' ih =>
        intro xs' us' h r m
        simp only [Dens] at h
        obtain ⟨y, t, rfl, h1, h2⟩ := h
        cases r with
        | cons q t' =>
          rcases List.mem_cons.mp m with rfl | m
          · obtain ⟨as, z⟩ := Den.reads I e y _ h1 q
            exact ⟨e, List.mem_cons_self, as, z⟩
          · obtain ⟨e', m', z⟩ := ih h2 t' m
            exact ⟨e', List.mem_cons_of_mem _ m', z⟩
    obtain ⟨e, me, as', re⟩ := this h r hu'
    have q := SeqAt.eqAt_reads e d X.A.in1 s u v as' as re rd (shp_can (hs e me)) (shp_can sd) (by have := shp_dep sd; rw [in1_units]; omega)
    have ee : decide (∃ e as, e ∈ es ∧ Reads s.heap u e as ∧ PyData.eqv e d = true) = PyData.eqv e d := by
      cases z : PyData.eqv e d with
      | true => exact decide_eq_true ⟨e, as', me, re, z⟩
      | false =>
        refine decide_eq_false ?_
        rintro ⟨e', as'', me', re', z'⟩
        have := SeqAt.Reads.unique e e' u _ _ (shp_can (hs e me)) re re'
        subst this
        rw [z] at z'; cases z'
    show SeqAt.EqAt X.A.in1 s u v (decide (∃ e as, e ∈ es ∧ Reads s.heap u e as ∧ PyData.eqv e d = true))
    rw [ee]; exact q
  · apply Bool.eq_iff_iff.mpr
    rw [List.any_eq_true, List.any_eq_true]
    constructor
    · rintro ⟨u, mu, z⟩
      obtain ⟨e, as', me, _, z⟩ := of_decide_eq_true z
      exact ⟨e, me, z⟩
    · rintro ⟨e, me, z⟩
      obtain ⟨i, hi, rfl⟩ := List.getElem_of_mem me
      obtain ⟨y, ey, dy⟩ := Dens.at (i := i) h (List.getElem?_eq_getElem hi)
      obtain ⟨u, eu, ru⟩ := r.get ey
      obtain ⟨as', re⟩ := Den.reads I _ y u dy ru
      exact ⟨u, List.mem_of_getElem? eu, decide_eq_true ⟨_, as', me, re, z⟩⟩
def rInD (K : PySem.W.Frag) (neg : Bool) : R2 := fun x y H Q => ∃ d es p xs, y = .ref p ∧ (SqL K H p xs ∨ SqT K H p xs) ∧ Dens K H es xs ∧ Den K H d x ∧ shp d = true ∧ (∀ e ∈ es, shp e = true) ∧
  Q (.bl (if neg then !(es.any fun e => PyData.eqv e d) else es.any fun e => PyData.eqv e d)) H
theorem op_notinD (hu : X.A.units + 40 < cLine) : OpR X (compareOp .NotIn) (rInD X.K true) := by
  intro pins s σ H x y v u Q I rx ry h
  obtain ⟨d, es, p, xs, rfl, hq, hx, hd, sd, se, q⟩ := h
  cases ry
  rcases hq with hq | hq
  · obtain ⟨its, r, pl, hz⟩ := I.list hq
    obtain ⟨f, h1, h2⟩ := mem_D I rx hd sd hu hx r se
    refine SeqAt.notIn_listAt f pl.isList (fun w hw => h1 w (by simpa using hw)) ⟨.bl _, H, I, rfl, ?_⟩
    rw [show its.toArray.any f = its.any f by simp, h2]
    exact q
  · obtain ⟨its, r, pl, hz⟩ := I.tuple hq
    obtain ⟨f, h1, h2⟩ := mem_D I rx hd sd hu hx r se
    refine SeqAt.notIn_tupleAt f pl (fun w hw => h1 w (by simpa using hw)) ⟨.bl _, H, I, rfl, ?_⟩
    rw [show its.toArray.any f = its.any f by simp, h2]
    exact q

/-! ### isinstance -/
def rIsi (K : PySem.W.Frag) : List V → Hp → VK → Prop := fun xs H Q => ∃ x cV c t b, xs = [x, cV] ∧ (∀ u, RelV cV u → u = c) ∧ TyOf K H x t ∧ PySem.W.kitOne K t c = some b ∧ Q (.bl b) H
theorem relv_ty {n : String} : ∀ u, RelV (.ty n) u → u = .type n := fun _ r => r
theorem relv_ref {a : Addr} : ∀ u, RelV (.ref a) u → u = .ref a := fun _ r => r

/-! ### // by a positive divisor of up to 2 ^ 200 -/
def CDivB (i j : Int) : Prop := 0 < j ∧ j < 2 ^ 200
/-- // by any divisor but nought, of less than 2 ^ 200 -/
def CDivZ (i j : Int) : Prop := j ≠ 0 ∧ j.natAbs < 2 ^ 200
end
end L3

namespace L3
open PySem PySem.Spec PyProof.Rows PySem.Calls L2

/-! ### isinstance of an exception: its object by its class alone -/
section
variable {prog : Program} {w : World} {A : Around} {E : Value → Shared → Prop} {s : Shared} {K : PySem.W.Frag} {x C : Addr}
def ExcAt (x C : Addr) (h : Heap) : Prop := ∃ o, h.get? x = some o ∧ o.cls = .ref C
theorem ExcAt.type {h : Heap} (M : Model) (I : ExcAt x C h) : PySem.W.Looks M h (typeOf (.ref x)) (.ref C) := by
  obtain ⟨o, h1, h2⟩ := I
  exact h2 ▸ (PySem.W.Looks.ld h1).andThen .now

structure ExcK (K : PySem.W.Frag) (C : Addr) : Prop where
  ga : PySem.W.findIn K (.ref C) "__getattribute__" = some (some (.builtin "BaseException.__getattribute__"))
  na : PySem.W.findIn K (.ref C) "__getattr__" = some none
  cl : PySem.W.findIn K (.ref C) "__class__" = some (some (.builtin "object.__class__"))
  ob : PySem.W.mroIn K C (.type "object") = some true
  be : PySem.W.mroIn K C (.type "BaseException") = some true
  cc : (PySem.W.clsIn K C).isSome = true

theorem exc_class_get {R : Result → Shared → Prop} {tp : Value} (X : K.In s.heap) (I : ExcAt x C s.heap) (F : ExcK K C)
    (h : R (.ok (.ret (.ref C))) s) : codeAny (model prog w) A (.call (.builtin "getset_descriptor.__get__") ⟨[.builtin "object.__class__", .ref x, tp], []⟩) R s := by
  obtain ⟨hh, g, dr, t, os⟩ := s
  have M0 := I.type (model prog w)
  have M1 := PySem.W.looks_mroIn (M := model prog w) X F.ob
  refine codeAny_call_builtin PySem.W.KF.slot_gs.plain PySem.W.KF.entry_gs (PySem.W.KF.slot_gs.check _ _ _ _ _ _ _ _ PySem.W.KF.type_class (PySem.W.KF.args_gs _ _ _) ?_)
  unfold Builtin.«getset_descriptor.__get__» Builtin.Getset_descriptor.descrGet
  rw [PySem.W.dga_obj]
  refine wpAny_bind (wpAny_pure ?_)
  unfold Builtin.Getset_descriptor.descrGetter Builtin.Getset_descriptor.descrCheckInstance Builtin.Getset_descriptor.descrNameAndClass isInstance
  simp only [PySem.W.KF.owner_class]
  repeat lk
  refine ⟨Code.quiet_builtin _ (by decide +kernel), codeAny_builtin PySem.W.KF.entry_class ?_⟩
  unfold Builtin.«object.__class__» shownTypeOf
  repeat lk
  exact h

theorem exc_ga_entry {Q : Fin → Shared → Prop} {tk : Tok} (X : K.In s.heap) (I : ExcAt x C s.heap) (FX : ExcK K C) (h : Q (.done (.ret (.ref C))) s) :
    wpAny (model prog w) A (Builtin.«object.__getattribute__» ⟨[.ref x, .str "__class__" tk], []⟩) Q E s := by
  obtain ⟨hh, g, dr, t, os⟩ := s
  obtain ⟨o, hx, hc⟩ := id I
  have hT5 : (⟨hh, g, dr, t, os⟩ : Shared).TypeIs (.builtin "object.__class__") "getset_descriptor" := F.typeOf_object_class
  have f5 := F.typeOf_object_class
  have f6 := F.slot_gs_get.lookup
  have f7 := F.slot_gs_set.lookup
  have M1 := PySem.W.looks_findIn (M := model prog w) X FX.cl
  repeat (any_goals (first | assumption | (with_reducible refine wpAny_loadPart_at hx ?_; rw [hc]) | with_reducible refine M1.at ?_ | wp_step))
  refine exc_class_get X I FX ?_
  repeat (any_goals (first | assumption | wp_step))

theorem exc_check {M : Model} {Q : Unit → Shared → Prop} {nameV : Value} (X : K.In s.heap) (I : ExcAt x C s.heap) (FX : ExcK K C) (h : Q () s) :
    wpAny M A (checkBuiltinCall "BaseException.__getattribute__" ⟨[.ref x, nameV], []⟩) Q E s := by
  obtain ⟨hh, g, dr, t, os⟩ := s
  obtain ⟨o, hx, hc⟩ := id I
  have hk : builtinKind "BaseException.__getattribute__" = some .slot := by decide +kernel
  have hsplit : splitId "BaseException.__getattribute__" = some ("BaseException", "__getattribute__") := by decide +kernel
  have ha := F.args_bexc_ga (.ref x) nameV
  have M1 := PySem.W.looks_mroIn (M := M) X FX.be
  simp only [checkBuiltinCall, hk, hsplit]
  refine wpAny_bind ?_
  unfold isInstance
  repeat (first | (with_reducible refine wpAny_loadPart_at hx ?_; rw [hc]) | with_reducible refine M1.at ?_ | wp_step)
  exact h
theorem exc_ga_call {R : Result → Shared → Prop} {tk : Tok} (X : K.In s.heap) (I : ExcAt x C s.heap) (FX : ExcK K C) (h : R (.ok (.ret (.ref C))) s) :
    codeAny (model prog w) A (.call (.builtin "BaseException.__getattribute__") ⟨[.ref x, .str "__class__" tk], []⟩) R s := by
  refine codeAny_call_builtin F.attr_ValueError.ga.plain F.entry_bexc_ga ?_
  refine exc_check X I FX ?_
  refine exc_ga_entry X I FX ?_
  exact h

theorem exc_getattr {Q : Option Value → Shared → Prop} (X : K.In s.heap) (I : ExcAt x C s.heap) (FX : ExcK K C) (h : Q (some (.ref C)) { s with toks := s.toks + 1 }) :
    wpAny (model prog w) A (getAttr? (.ref x) "__class__") Q E s := by
  obtain ⟨hh, g, dr, t, os⟩ := s
  obtain ⟨o, hx, hc⟩ := id I
  have M1 := PySem.W.looks_findIn (M := model prog w) X FX.ga
  have M2 := PySem.W.looks_findIn (M := model prog w) X FX.na
  have f3 := F.attr_ValueError.ga.bind (.ref x)
  have hx2 : (Value.builtin "BaseException.__getattribute__" == Value.builtin "object.__getattribute__") = false := by decide +kernel
  have hx1 : (onTheHeap (Value.ref C) && Value.builtin "BaseException.__getattribute__" == Value.builtin "object.__getattribute__") = false := by rw [hx2]; rfl
  have hx0 : (false && onTheHeap (Value.builtin "BaseException.__getattribute__")) = false := rfl
  unfold getAttr? getAttrBy? getAttrBy
  repeat (any_goals (first | assumption | (with_reducible refine wpAny_loadPart_at hx ?_; rw [hc]) | with_reducible refine M1.at ?_ | with_reducible refine M2.at ?_ | wp_step))
  refine exc_ga_call X I FX ?_
  repeat (any_goals (first | assumption | wp_step))

theorem kitx_exc (FX : ExcK K C) : PySem.W.KitX K (.ref x) (.ref C) (ExcAt x C) where
  ty := fun M h _ p => ExcAt.type M p
  it := fun M h X _ => by
    have z := FX.cc
    unfold PySem.W.clsIn at z
    split at z
    · rename_i ho
      intro A' Q' E' s' k q
      unfold isType loadHead
      exact wpAny_bind (wpAny_loadPart (k _ _ (X _ _ ho)) (wpAny_pure q))
    · cases z
  ne := fun h tp dd its n sl X htp => by
    refine Bool.eq_false_iff.mpr fun q => ?_
    have e : C = tp := Value.ref.inj (beq_iff_eq.mp q)
    subst e
    have z := FX.cc
    unfold PySem.W.clsIn at z
    split at z
    · rename_i ho
      have y := (X _ _ ho).symm.trans htp
      cases y
    · cases z
  ca := fun X p k => exc_getattr X p FX k
end
end L3

namespace L3
open PySem PySem.Spec PyProof.Rows PySem.Calls L2

abbrev bmV : List Value := [.type "ValueError", .type "Exception", .type "BaseException", .type "object"]
/-- an own error class of the text, under ValueError -/
structure ExcC (K : PySem.W.Frag) (mg : Str → Option Value) (x : Str) (C : Addr) : Prop where
  nm : mg x = some (.ref C)
  ex : PySem.W.excIn K C bmV "ValueError.__new__" = true
theorem ExcC.own {K : PySem.W.Frag} {mg : Str → Option Value} {x : Str} {C : Addr} {h : Heap} (Z : ExcC K mg x C) (X : K.In h) : OwnCls x C bmV "ValueError.__new__" mg h := by
  constructor
  · exact Z.nm
  have z := Z.ex
  unfold PySem.W.excIn at z
  split at z
  case h_2 => cases z
  rename_i dc cd sl ho
  split at z
  case h_2 => cases z
  rename_i C1 tl k0 k1 k2 k3 nid k5 e1 e2
  simp only [Bool.and_eq_true, beq_iff_eq, Bool.not_eq_true'] at z
  obtain ⟨⟨⟨⟨⟨z1, z2⟩, z3⟩, z4⟩, z5⟩, z6⟩ := z
  subst z1 z2
  obtain ⟨c1, c2, c3, c4, c5, c6, c7, c8, c9, c10, c11⟩ := cd
  dsimp only at e1 z3 z5 z6
  subst e1 z3
  have e3 : sl = #[k0, k1, k2, k3, some (.builtin "ValueError.__new__"), k5] := by
    cases sl with
    | mk l => simp only at e2; rw [e2]
  subst e3
  exact ⟨tl, c4, c1, c5, c2, c6, c7, c8, c9, c10, dc, k0, k1, k2, k3, k5, _, X _ _ ho, .of_isNs (PySem.W.isNs_of_in X z5), PySem.W.nsMap_none_of_in X z5 z6, PySem.W.tail_of_in X z4⟩

/-! ### how an exception lies behind a call -/
def CXE (P : Program) (w : World) : CXT := fun outer H s E e s' =>
  ∃ (ea : Addr) (cls a0 : Value) (H' : Hp) (B : Heap), e = .ref ea ∧ E cls none H' ∧ s'.os = s.os ∧ AllBare s'.gens ∧ Heap.FlyingW B outer ea cls a0 s'.heap ∧ HOk P w H' B ∧
    Un (frs outer) [] H H' s.heap s'.heap ∧ ∀ b o, s.heap.get? b = some o → b ∉ frs outer → ∃ o', B.get? b = some o' ∧ (H b = none → o' = o)

theorem passF {P : Program} {w : World} {X : Cx} : Passes (CXE P w) X (fun _ _ _ => False) := fun _ _ _ _ _ _ _ h => by
  obtain ⟨_, _, _, _, _, _, f, _⟩ := h
  exact f.elim

section
variable {P : Program} {w : World} {K : PySem.W.Frag} {mg : Str → Option Value} {base : Heap} {N : List Str} {qual : Str} {scope : Scope} {f : Addr} {cd : Value} {A : Around} {outer : List Env} {s0 s : Shared} {H0 H : Hp} {E : XK}
  {pins : List (Addr × Obj)} {σ : L2.St}

theorem frs_cons {env : Env} {L : Addr} (h : env.frame = some L) : frs (env :: outer) = L :: frs outer := by
  unfold frs; rw [List.filterMap_cons, h]
/-- an exception just made leaves the def -/
theorem raise_xe {C e : Addr} {h' : Heap} {args : List Value} (I : Inv (cxOf (CXE P w) P w K mg base N qual scope f cd A outer s0 H0 E) pins σ H s) (hx : Heap.MadeExcOf s.heap h' e (.ref C) args) (hE : E (.ref C) none H) :
    (cxOf (CXE P w) P w K mg base N qual scope f cd A outer s0 H0 E).xe (.ref e) { s with heap := h' } := by
  have efr : frs (envOfC qual scope s0.heap.objs.size f cd :: outer) = s0.heap.objs.size :: frs outer := frs_cons rfl
  have hb : ∀ b o, s.heap.get? b = some o → b ∉ s0.heap.objs.size :: frs outer → (PySem.W.hideAll s.heap (s0.heap.objs.size :: frs outer)).get? b = some o := fun b o e n => PySem.W.hideAll_get _ e n
  have nfr : ∀ b u, H b = some u → b ∉ s0.heap.objs.size :: frs outer := fun b u e m => by
    have := I.stkFree b (by show b ∈ frs (envOfC qual scope s0.heap.objs.size f cd :: outer); rw [efr]; exact m)
    rw [e] at this; cases this
  have old : ∀ b o, s0.heap.get? b = some o → b ∉ frs outer → b ∉ s0.heap.objs.size :: frs outer := fun b o e n m => by
    rcases List.mem_cons.mp m with z | z
    · exact absurd (Heap.lt_size e) (by rw [z]; exact Nat.lt_irrefl _)
    · exact n z
  have hst : s.heap.FunFrames base (envOfC qual scope s0.heap.objs.size f cd :: outer) := I.stack
  refine wpAny_leaves_madeW (base := PySem.W.hideAll s.heap (s0.heap.objs.size :: frs outer)) (h := s.heap) (outer := outer) (L := s0.heap.objs.size) I.ok.frames rfl (fun b o q => PySem.W.of_hideAll _ q)
    (PySem.W.funFrames_hide hst fun env he b hb => ?_) hx fun h2 t x1 _ _ x4 => ?_
  · rw [← efr]; exact List.mem_filterMap.mpr ⟨env, he, hb⟩
  have up : s.heap.UpToSlots h2 := (Heap.UpToSlots.of_keeps hx.keeps).trans x4
  have I0 := I.base
  refine ⟨e, .ref C, .ref t, H, _, rfl, hE, I.os, I.bare, x1, fun b u q => (I.hok b u q).stay (fun c v hc z => hb c v z ?_) (fun _ z => z) fun _ _ z => z, ⟨fun b o q n hf _ => ?_, fun b o q n hf _ => ?_, fun b o q n hx => I0.free b o q n hx, fun b o q _ => ?_, I0.tups, I0.frzs, I0.tbls⟩, fun b o q hf => ?_⟩
  · rcases hc with rfl | hc
    · exact nfr c u q
    · exact nfr c _ hc
  · exact x1.1 b o (hb b o (I0.keep b o q n hf (by simp [cxOf])) (old b o q hf))
  · obtain ⟨sl, e1⟩ := I0.slot b o q n hf (by simp [cxOf])
    obtain ⟨_, o2, e2, nd⟩ := hst.mem (b := b) (by show b ∈ frs _; rw [efr]; exact List.mem_cons_of_mem _ hf)
    rw [e1] at e2; cases e2
    obtain ⟨sl2, e3⟩ := up b _ e1 nd
    exact ⟨sl2, e3⟩
  · obtain ⟨o1, e1⟩ := I0.there b o q (by simp [cxOf])
    by_cases hf : b ∈ frs outer
    · obtain ⟨_, o2, e2, nd⟩ := hst.mem (b := b) (by show b ∈ frs _; rw [efr]; exact List.mem_cons_of_mem _ hf)
      obtain ⟨sl2, e3⟩ := up b _ e2 nd
      exact ⟨_, e3⟩
    · exact ⟨o1, x1.1 b o1 (hb b o1 e1 (old b o q hf))⟩
  · obtain ⟨o1, e1⟩ := I0.there b o q (by simp [cxOf])
    refine ⟨o1, hb b o1 e1 (old b o q hf), fun n => ?_⟩
    have e2 := I0.keep b o q n hf (by simp [cxOf])
    have e3 : s.heap.get? b = some o := e2
    rw [e1] at e3; cases e3; rfl

/-- an exception of a callee leaves the def -/
theorem pass_xe {e : Value} {s' : Shared} (I : Inv (cxOf (CXE P w) P w K mg base N qual scope f cd A outer s0 H0 E) pins σ H s) (h : CXE P w (envOfC qual scope s0.heap.objs.size f cd :: outer) H s E e s') :
    (cxOf (CXE P w) P w K mg base N qual scope f cd A outer s0 H0 E).xe e s' := by
  obtain ⟨ea, cls, a0, H', B, rfl, hE, os, bare, fl, hok, un, st⟩ := h
  have efr : frs (envOfC qual scope s0.heap.objs.size f cd :: outer) = s0.heap.objs.size :: frs outer := frs_cons rfl
  rw [efr] at un st
  have I0 := I.base
  have old : ∀ b o, s0.heap.get? b = some o → b ∉ frs outer → b ∉ s0.heap.objs.size :: frs outer := fun b o e n m => by
    rcases List.mem_cons.mp m with z | z
    · exact absurd (Heap.lt_size e) (by rw [z]; exact Nat.lt_irrefl _)
    · exact n z
  have hst := fl.2.2.1
  refine wpAny_leaves_onW (outer := outer) (L := s0.heap.objs.size) I.ok.frames rfl fl fun h2 x1 x4 => ?_
  refine ⟨ea, cls, a0, H', B, rfl, hE, os.trans I.os, bare, x1, hok, ⟨fun b o q n hf _ => ?_, fun b o q n hf _ => ?_, fun b o q n hx => ?_, fun b o q _ => ?_, fun b xs q => un.tups b xs (I0.tups b xs q), fun b o u q => un.frzs b o u (I0.frzs b o u q), fun b ps q => ?_⟩, fun b o q hf => ?_⟩
  · have e1 : s.heap.get? b = some o := I0.keep b o q n hf (by simp [cxOf])
    obtain ⟨o', e2, e3⟩ := st b o e1 (old b o q hf)
    rw [e3 (I0.free b o q n (by simp [cxOf]))] at e2
    exact x1.1 b o e2
  · obtain ⟨sl, e1⟩ := I0.slot b o q n hf (by simp [cxOf])
    obtain ⟨sl1, e2⟩ := un.slot b _ e1 (I0.free b o q n (by simp [cxOf])) (List.mem_cons_of_mem _ hf) (by simp)
    obtain ⟨_, o2, e3, nd⟩ := hst.mem (b := b) (by show b ∈ frs _; rw [efr]; exact List.mem_cons_of_mem _ hf)
    rw [e2] at e3; cases e3
    obtain ⟨sl2, e4⟩ := x4 b _ e2 nd
    exact ⟨sl2, e4⟩
  · obtain ⟨o1, e1⟩ := I0.there b o q (by simp [cxOf])
    exact un.free b o1 e1 (I0.free b o q n (by simp [cxOf])) (by simp)
  · obtain ⟨o1, e1⟩ := I0.there b o q (by simp [cxOf])
    by_cases hf : b ∈ frs outer
    · obtain ⟨_, o2, e3, nd⟩ := hst.mem (b := b) (by show b ∈ frs _; rw [efr]; exact List.mem_cons_of_mem _ hf)
      obtain ⟨sl2, e4⟩ := x4 b _ e3 nd
      exact ⟨_, e4⟩
    · obtain ⟨o', e2, _⟩ := st b o1 e1 (old b o q hf)
      exact ⟨o', x1.1 b o' e2⟩
  · obtain ⟨m1, e1⟩ := I0.tbls b ps q
    obtain ⟨m2, e2⟩ := un.tbls b _ e1
    exact ⟨m1 ++ m2, by rw [e2, Array.append_assoc]⟩
  · obtain ⟨o1, e1⟩ := I0.there b o q (by simp [cxOf])
    obtain ⟨o', e2, e3⟩ := st b o1 e1 (old b o q hf)
    refine ⟨o', e2, fun n => ?_⟩
    rw [e3 (I0.free b o q n (by simp [cxOf]))]
    have e4 : s.heap.get? b = some o := I0.keep b o q n hf (by simp [cxOf])
    rw [e1] at e4; cases e4; rfl
theorem passX : Passes (CXE P w) (cxOf (CXE P w) P w K mg base N qual scope f cd A outer s0 H0 E) E := fun _ _ _ _ _ _ I h => pass_xe I h
/-- raise C(e, ..) of an own class -/
def tRaise (t : TA) (C : Addr) (E : XK) : TS := fun _ σ H => t σ H fun vs H1 => vs.length ≤ sizeLine ∧ E (.ref C) none H1
theorem ps_raise {x : Str} {C : Addr} {e : Expr} {es : List Expr} {t : TA} {np cpos pos : Pos} (Z : ExcC K mg x C) (ha : PA (cxOf (CXE P w) P w K mg base N qual scope f cd A outer s0 H0 E) (e :: es) t) (hk : scope.kind = .function)
    (hx : scope.names.lookup x = some .globalImplicit) (hh : A.handled = none)
    (he : starEach (e :: es) (envOfC qual scope s0.heap.objs.size f cd) = (false, eval e (envOfC qual scope s0.heap.objs.size f cd)) :: starEach es (envOfC qual scope s0.heap.objs.size f cd) := by rfl)
    (hpl : (backTo cpos (starEach es (envOfC qual scope s0.heap.objs.size f cd))).any (·.1) = false := by rfl) (hd : (x == ("__debug__" : Str)) = false := by decide) :
    PS (cxOf (CXE P w) P w K mg base N qual scope f cd A outer s0 H0 E) (.Raise (some (.Call (.Name x np) (e :: es) [] cpos)) none pos) (tRaise t C E) := by
  intro pins s σ H D I h
  have O := Z.own I.mod.kin
  obtain ⟨tl, N1, nm, q, bs, hdct, sn, sub, ab, col, dd, k0, k1, k2, k3, k5, mN, hC, hN, hni, T⟩ := O.obj
  refine wpAny_Raise_call_subT (C := C) (nm := nm) (q := q) (N := N1) (bs := bs) (bm := tl) (hdct := hdct) (sn := sn) (sub := sub) (ab := ab) (col := col) (dd := dd) (k0 := k0) (k1 := k1) (k2 := k2) (k3 := k3) (k5 := k5)
    PySem.F.excBase_ValueError (mN := mN) (T.hasType PySem.F.excBase_ValueError.hasBase) hh ?_ hni ?_
  · show (backTo cpos (starEach (e :: es) (envOfC qual scope s0.heap.objs.size f cd))).any (·.1) = false
    rw [he]
    show (false || (backTo cpos (starEach es (envOfC qual scope s0.heap.objs.size f cd))).any (·.1)) = false
    rw [hpl]; rfl
  refine ld_glob I hx Z.nm ⟨rfl, ?_⟩ hd
  have h1 := ha cpos pins s σ H _ I h
  show wpAny _ _ (evalArgs (.ref C) true (backTo cpos (starEach (e :: es) (envOfC qual scope s0.heap.objs.size f cd))) []) _ _ s
  have h2 : wpAny (model P w) (A.deeper (envOfC qual scope s0.heap.objs.size f cd)) (spliced (backTo cpos (starEach (e :: es) (envOfC qual scope s0.heap.objs.size f cd)))) _ _ s := h1
  rw [he] at h2 ⊢
  refine Calls.evalArgs_plain (wpAny_mono h2 (fun us s2 z => ?_) fun _ _ y => y)
  obtain ⟨vs, H2, I2, r, zl, zE⟩ := z
  exact ⟨rfl, by rw [← r.length]; exact zl, I2.bk _ _ hC, hN.keeps I2.bk, T.keeps I2.bk, fun h' e hm => raise_xe I2 hm zE⟩
end
end L3

namespace L3
open PySem PySem.Spec PyProof.Rows PySem.Calls L2

/-! ### a clause takes the exception -/
theorem exc_matches {M : Model} {A : Around} {E : Value → Shared → Prop} {Q : Bool → Shared → Prop} {s : Shared} {K : PySem.W.Frag} {e C D : Addr} (X : K.In s.heap) (I : ExcAt e C s.heap) (hs : PySem.W.mroIn K C (.ref D) = some true)
    (hb : PySem.W.mroIn K D (.type "BaseException") = some true) (ht : PySem.W.typeIn K (.ref D) = some (.type "type")) (hc : (PySem.W.clsIn K D).isSome = true) (h : Q true s) : wpAny M A (excMatches (.ref e) (.ref D)) Q E s := by
  obtain ⟨hh, g, dr, t, os⟩ := s
  have M0 := I.type M
  have M1 := PySem.W.looks_mroIn (M := M) X hs
  have M2 := PySem.W.looks_mroIn (M := M) X hb
  have M3 := PySem.W.looks_typeIn (M := M) X ht
  have f := tc_notTuple
  have M4 : PySem.W.Looks M hh (isType (.ref D)) true := by
    unfold PySem.W.clsIn at hc
    split at hc
    · rename_i ho
      intro A' Q' E' s' k q
      unfold isType loadHead
      exact wpAny_bind (wpAny_loadPart (k _ _ (X _ _ ho)) (wpAny_pure q))
    · cases hc
  unfold excMatches isInstance isExcClass
  repeat (first | with_reducible refine M0.at ?_ | with_reducible refine M1.at ?_ | with_reducible refine M2.at ?_ | with_reducible refine M3.at ?_ | with_reducible refine M4.at ?_ | wp_step)
  exact h
theorem objOk_there {P : Program} {w : World} {H : Hp} {h : Heap} {a : Addr} {o : HO} (x : ObjOk P w H h a o) : ∃ ob, h.get? a = some ob := by
  cases o with
  | lst xs => obtain ⟨_, _, _, _, e⟩ := x; exact ⟨_, e⟩
  | tup xs => obtain ⟨_, _, _, o, e, _⟩ := x; exact ⟨_, e⟩
  | dK kvs => obtain ⟨_, _, _, _, o, _, _, e, _⟩ := x; exact ⟨_, e⟩
  | dT kvs => obtain ⟨_, _, _, _, o, _, _, e, _⟩ := x; exact ⟨_, e⟩
  | set S n => obtain ⟨o, _, _, _, e, _⟩ := x; exact ⟨_, e⟩
  | ins C dx fs => obtain ⟨_, _, _, e, _⟩ := x; exact ⟨_, e⟩
  | own y => obtain ⟨_, e⟩ := x; exact ⟨_, e⟩
  | xd fs => obtain ⟨_, ⟨_, _, _, e, _⟩, _⟩ := x; exact ⟨_, e⟩
  | rng lo hi => obtain ⟨_, _, _, e⟩ := x; exact ⟨_, e⟩
  | frz ob u => obtain ⟨e, _⟩ := x; exact ⟨_, e⟩
  | tbl ps => exact ⟨_, (show h.get? a = some _ from x)⟩
  | met f y => exact ⟨_, (show h.get? a = some _ from x)⟩
  | ext φ => obtain ⟨_, ⟨_, e⟩, _⟩ := x; exact ⟨_, e⟩
/-- the caught exception, tracked -/
abbrev excO (e C : Addr) : HO := .ext (ExcAt e C)

/-- the classes of a clause: known to the text -/
structure Takes (K : PySem.W.Frag) (mg : Str → Option Value) (x : Str) (D : Addr) : Prop where
  nm : mg x = some (.ref D)
  be : PySem.W.mroIn K D (.type "BaseException") = some true
  ty : PySem.W.typeIn K (.ref D) = some (.type "type")
  cc : (PySem.W.clsIn K D).isSome = true

def unb (i : Nat) (D : Ends) : Ends := { nx := fun σ H => D.nx (σ.set i none) H, rt := D.rt, bk := fun σ H => D.bk (σ.set i none) H, ct := fun σ H => D.ct (σ.set i none) H }
abbrev Cx.tried (X : Cx) (E' : Value → Shared → Prop) (pn' : List (Addr × Obj)) : Cx := { X with xe := E', pn := pn' }
abbrev Cx.caught (X : Cx) (e : Addr) : Cx := { X with A := X.A.mark (some (.ref e)), calm := false, xe := fun _ _ => False }

section
variable {X : Cx} {pins : List (Addr × Obj)} {σ : L2.St} {H H' : Hp} {s : Shared}
theorem okTried (ok : X.Ok) (E' : Value → Shared → Prop) (pn' : List (Addr × Obj)) : (Cx.tried X E' pn').Ok :=
  ⟨ok.mod, ok.kind, ok.glob, ok.blt, ok.above, ok.inj, ok.has, ok.cab, ok.hd, ok.frames, ok.stk, ok.exf, ok.bs, ok.bsz, ok.noex, ok.exfs, ok.funs, ok.frf⟩
theorem okUntried {E' : Value → Shared → Prop} {pn' : List (Addr × Obj)} (ok : (Cx.tried X E' pn').Ok) : X.Ok :=
  ⟨ok.mod, ok.kind, ok.glob, ok.blt, ok.above, ok.inj, ok.has, ok.cab, ok.hd, ok.frames, ok.stk, ok.exf, ok.bs, ok.bsz, ok.noex, ok.exfs, ok.funs, ok.frf⟩
theorem okCaught (ok : X.Ok) (e : Addr) : (Cx.caught X e).Ok :=
  ⟨ok.mod, ok.kind, ok.glob, ok.blt, ok.above, ok.inj, ok.has, ok.cab, fun z => (nomatch (show false = true from z)), ok.frames, ok.stk, ok.exf, ok.bs, ok.bsz, ok.noex, ok.exfs, ok.funs, ok.frf⟩
theorem okUncaught {e : Addr} (ok : (Cx.caught X e).Ok) (hd : X.calm = true → X.A.handled = none) : X.Ok :=
  ⟨ok.mod, ok.kind, ok.glob, ok.blt, ok.above, ok.inj, ok.has, ok.cab, hd, ok.frames, ok.stk, ok.exf, ok.bs, ok.bsz, ok.noex, ok.exfs, ok.funs, ok.frf⟩
theorem Inv.tried (I : Inv X pins σ H s) (E' : Value → Shared → Prop) : Inv (Cx.tried X E' (X.pn ++ pins)) [] σ H s :=
  ⟨okTried I.ok E' _, I.os, I.bare, I.base, I.loc, I.cell, I.free, I.freeC, fun p hp => I.pin p (by simpa using hp), I.hok, I.len⟩
theorem Inv.untried {E' : Value → Shared → Prop} {pins' : List (Addr × Obj)} (I : Inv (Cx.tried X E' (X.pn ++ pins)) pins' σ H s) : Inv X pins σ H s :=
  ⟨okUntried I.ok, I.os, I.bare, I.base, I.loc, I.cell, I.free, I.freeC, fun p hp => I.pin p (List.mem_append_left _ hp), I.hok, I.len⟩
theorem Inv.caught (I : Inv X pins σ H s) (e : Addr) : Inv (Cx.caught X e) pins σ H s :=
  ⟨okCaught I.ok e, I.os, I.bare, I.base, I.loc, I.cell, I.free, I.freeC, I.pin, I.hok, I.len⟩
theorem Inv.uncaught {e : Addr} (I : Inv (Cx.caught X e) pins σ H s) (hd : X.calm = true → X.A.handled = none) : Inv X pins σ H s :=
  ⟨okUncaught I.ok hd, I.os, I.bare, I.base, I.loc, I.cell, I.free, I.freeC, I.pin, I.hok, I.len⟩

/-- a name goes: what is known of the others stays -/
theorem goes_ok {M : Model} {A : Around} {E : Value → Shared → Prop} {i : Nat} {n : Str} {pos : Pos} {Q : Unit → Shared → Prop} (I : Inv X pins σ H s) (hN : X.N.Nodup) (hi : X.N[i]? = some n) (hl : X.env.scope.names.lookup n = some .local)
    (h : ∀ s', Inv X pins (σ.set i none) H s' → Q () s') : wpAny M A (do bindName X.env n .none; unbindBehindTheSuite X.env n pos) Q E s := by
  obtain ⟨m, hn, hm⟩ := id I.loc
  have hcls : (X.env.scope.kind == .class || (X.env.scope.kind == .module && X.env.locals != X.env.globals)) = false := by rw [I.ok.kind]; rfl
  have hiσ : i < σ.length := by rw [I.len]; exact (List.getElem?_eq_some_iff.mp hi).1
  have cne := I.cne
  refine wpAny_nameGoes_keeps hl hn hcls fun h' v hn' hs => ?_
  obtain ⟨oL, _, _, hoL, _⟩ := id hn
  have neL : ∀ b o, X.s₀.heap.get? b = some o → b ≠ X.env.locals := fun b o e => Nat.ne_of_lt (Nat.lt_of_lt_of_le (Heap.lt_size e) I.ok.above)
  refine h _ ⟨I.ok, I.os, I.bare, ⟨fun b o e n hb hx => (hs.2 b (neL b o e)).trans (I.base.keep b o e n hb hx), fun b o e n hb hx => ?_, I.base.free, fun b o e hx => ?_, I.base.tups, I.base.frzs, I.base.tbls⟩, ⟨_, hn', fun j y v' e1 e2 e3 => ?_⟩, fun y c e => ?_, I.free, I.freeC, fun p hp => ?_, fun b ob e => ?_, by simpa using I.len⟩
  · obtain ⟨sl, e1⟩ := I.base.slot b o e n hb hx
    exact ⟨sl, (hs.2 b (neL b o e)).trans e1⟩
  · obtain ⟨o', e1⟩ := I.base.there b o e hx
    exact ⟨o', (hs.2 b (neL b o e)).trans e1⟩
  · by_cases hj : j = i
    · subst hj
      rw [List.getElem?_set_self hiσ] at e2
      cases e2
    · rw [List.getElem?_set_ne (Ne.symm hj)] at e2
      obtain ⟨u', r', q⟩ := hm j y v' e1 e2 e3
      refine ⟨u', r', ?_⟩
      rcases q with ⟨k, e⟩ | ⟨k, c, e, z⟩
      · refine .inl ⟨k, ?_⟩
        have : y ≠ n := fun e => hj (nodup_ix hN e1 (e ▸ hi))
        simp [this, e]
      · exact .inr ⟨k, c, e, z.sameBut hs (cne y c e)⟩
  · obtain ⟨w', z⟩ := I.cell y c e
    exact ⟨w', z.sameBut hs (cne y c e)⟩
  · obtain ⟨e, n, ne, nf, d⟩ := I.pin p hp
    exact ⟨(hs.2 p.1 ne).trans e, n, ne, nf, d⟩
  · refine (I.hok b ob e).stay (fun c w' hc q => (hs.2 c ?_).trans q) (fun _ q => q) fun _ _ q => q
    rintro rfl
    have hf := I.free
    rcases hc with z | z
    · rw [← z, hf] at e; cases e
    · rw [hf] at z; cases z
end
end L3

namespace L3
open PySem PySem.Spec PyProof.Rows PySem.Calls L2
section
variable {X : Cx}
/-- what a clause wants: the class, the state of the names at the call, the heap -/
def hand (K : PySem.W.Frag) (Dd : Addr) (i : Nat) (ts : TS) (D : Ends) (σ' : L2.St) : XK := fun cls _ H' =>
  ∃ C : Addr, cls = .ref C ∧ PySem.W.mroIn K C (.ref Dd) = some true ∧ ∀ e, H' e = none → ts (unb i D) (σ'.set i (some (.ref e))) (upd H' e (excO e C))
def tTry (K : PySem.W.Frag) (Dd : Addr) (i : Nat) (tb : (L2.St → XK) → TS) (ts : TS) : TS := fun D σ H => tb (hand K Dd i ts D) D σ H
theorem sp_untried {pins : List (Addr × Obj)} {E' : Value → Shared → Prop} {D : Ends} {f : Flow} {s1 : Shared} (h : SP (Cx.tried X E' (X.pn ++ pins)) [] D f s1) : SP X pins D f s1 := by
  cases f with
  | next => obtain ⟨σ', H', I, q⟩ := h; exact ⟨σ', H', Inv.untried I, q⟩
  | brk => obtain ⟨σ', H', I, q⟩ := h; exact ⟨σ', H', Inv.untried I, q⟩
  | cont => obtain ⟨σ', H', I, q⟩ := h; exact ⟨σ', H', Inv.untried I, q⟩
  | ret u => obtain ⟨v, σ', H', I, r, q⟩ := h; exact ⟨v, σ', H', Inv.untried I, r, q⟩

/-- try: body, except x as n: suite -/
theorem ps_try {x n : Str} {Dd : Addr} {i : Nat} {body suite : List Stmt} {b0 : Stmt} {np hpos pos : Pos} {tb : (L2.St → XK) → TS} {ts : TS} (Z : Takes X.K X.mg x Dd) (hstk : X.stack = X.env :: X.outer) (hfr : X.env.frame = some X.env.locals)
    (hN : X.N.Nodup) (hi : X.N[i]? = some n) (hl : X.env.scope.names.lookup n = some .local) (hg : Gl X x)
    (hb : ∀ (E' : Value → Shared → Prop) (pn' : List (Addr × Obj)) (Eh : L2.St → XK), (∀ pins σ H s e s', Inv (Cx.tried X E' pn') pins σ H s → CXE X.prog X.w X.stack H s (Eh σ) e s' → E' e s') → PSs (Cx.tried X E' pn') body (tb Eh))
    (hs : ∀ e : Addr, PSs (Cx.caught X e) (b0 :: suite) ts) (hd : (x == ("__debug__" : Str)) = false := by decide) :
    PS X (.Try body [.ExceptHandler (some (.Name x np)) (some n) (b0 :: suite) hpos] [] [] pos) (tTry X.K Dd i tb ts) := by
  intro pins s σ H D I h
  have hfrs : frs X.stack = X.env.locals :: X.fs := by rw [hstk]; exact frs_cons hfr
  refine wpAny_Try_except (wpAny_mono (hb (fun e s1 => ∃ σ' H1 sc, Inv X pins σ' H1 sc ∧ CXE X.prog X.w X.stack H1 sc (hand X.K Dd i ts D σ') e s1) (X.pn ++ pins) (hand X.K Dd i ts D) (fun p2 σ2 H2 s2 e s' I2 h2 => ⟨σ2, H2, s2, Inv.untried I2, h2⟩) [] s σ H D (Inv.tried I _) h) (fun f s1 q => ?_) fun e s1 q => ?_)
  · have q' := sp_untried q
    cases f with
    | next => exact wpAny_execs_nil q'
    | brk => exact q'
    | cont => exact q'
    | ret u => exact q'
  obtain ⟨σ', H1, sc, Ic, ea, cls, a0, H', B, rfl, hE, os, bare, fl, hok, un, st⟩ := q
  obtain ⟨C, rfl, hsub, hgo⟩ := hE
  have hff : X.A.frames = some (X.env :: X.outer) := by rw [Ic.ok.frames, hstk]
  rw [hstk] at fl
  -- what stays through the landing
  have land : ∀ {h2 : Heap}, Heap.FlyingW B (X.env :: X.outer) ea (.ref C) a0 h2 → s1.heap.UpToSlots h2 → Un (frs X.stack) [] H1 H' sc.heap h2 ∧ HOk X.prog X.w H' h2 := fun {h2} f2 up => by
    have hst := f2.2.2.1
    have memf : ∀ b, b ∈ frs X.stack → b ∈ (X.env :: X.outer).filterMap (·.frame) := fun b hb => by rw [hstk] at hb; exact hb
    refine ⟨⟨fun b o q n hf _ => ?_, fun b o q n hf _ => ?_, un.free, fun b o q _ => ?_, un.tups, un.frzs, un.tbls⟩, hok.kept f2.1⟩
    · obtain ⟨o', e2, e3⟩ := st b o q hf
      rw [e3 n] at e2
      exact f2.1 b o e2
    · obtain ⟨sl, e1⟩ := un.slot b o q n hf (by simp)
      obtain ⟨_, o2, e2, nd⟩ := fl.2.2.1.mem (memf b hf)
      rw [e1] at e2; cases e2
      obtain ⟨sl2, e3⟩ := up b _ e1 nd
      exact ⟨sl2, e3⟩
    · by_cases hf : b ∈ frs X.stack
      · obtain ⟨_, o2, e2, _⟩ := hst.mem (memf b hf)
        exact ⟨o2, e2⟩
      · obtain ⟨o', e2, _⟩ := st b o q hf
        exact ⟨o', f2.1 b o' e2⟩
  have he0 : H' ea = none := by
    cases z : H' ea with
    | none => rfl
    | some o =>
      obtain ⟨ob, e1⟩ := objOk_there (hok ea o z)
      rw [fl.2.1] at e1; cases e1
  have hsc : sc.heap.get? ea = none := by
    cases z : sc.heap.get? ea with
    | none => rfl
    | some o =>
      by_cases hf : ea ∈ frs X.stack
      · obtain ⟨_, o2, e2, nd⟩ := fl.2.2.1.mem (b := ea) (by rw [hstk] at hf; exact hf)
        obtain ⟨oe, vs, e3, _, e4, _⟩ := fl.first
        rw [e2] at e3; cases e3
        exact absurd e4 (nd vs)
      · obtain ⟨o', e2, _⟩ := st ea o z hf
        rw [fl.2.1] at e2; cases e2
  refine wpAny_looks_onW hff hfr fl fun h4 hld up4 => ?_
  refine wpAny_landsW hld fun h5 fl5 up5' => ?_
  have up5 : s1.heap.UpToSlots h5 := up4.trans up5'
  obtain ⟨un5, hok5⟩ := land fl5 up5
  have I5 : Inv X pins σ' H' { s1 with heap := h5 } := Ic.call' (ch := []) os un5 hok5 bare (fun b z => nomatch z)
  have x5 : ExcAt ea C h5 := by obtain ⟨ob, e1, e2⟩ := fl5.there; exact ⟨ob, e1, e2⟩
  have hdh : X.calm = true → X.A.handled = none := Ic.ok.hd
  refine wpAny_handleBy_cons (codeAny_handlers_test ?_) (by intro z; cases z)
  refine ld_glob (X := Cx.caught X ea) (Inv.caught I5 ea) hg Z.nm ?_ hd
  refine exc_matches (K := X.K) I5.kIn x5 hsub Z.be Z.ty Z.cc ?_
  show codeAny _ _ _ _ _
  refine codeAny_handlers_suite_as ?_
  refine lands_againW fl5 fun h6 fl6 up6' => ?_
  have up6 : s1.heap.UpToSlots h6 := up5.trans up6'
  obtain ⟨un6, hok6⟩ := land fl6 up6
  have x6 : ExcAt ea C h6 := by obtain ⟨ob, e1, e2⟩ := fl6.there; exact ⟨ob, e1, e2⟩
  have un7 : Un (frs X.stack) [] H1 (upd H' ea (excO ea C)) sc.heap h6 := by
    refine ⟨un6.keep, un6.slot, fun b o q n hx => ?_, un6.there, fun b xs q => ?_, fun b o u q => ?_, fun b ps q => ?_⟩
    · have ne : b ≠ ea := fun z => by rw [z, hsc] at q; cases q
      rw [upd_ne ne]; exact un6.free b o q n hx
    · have e := un6.tups b xs q
      rw [upd_ne (ne_of_none e he0)]; exact e
    · have e := un6.frzs b o u q
      rw [upd_ne (ne_of_none e he0)]; exact e
    · obtain ⟨m, e⟩ := un6.tbls b ps q
      exact ⟨m, by rw [upd_ne (ne_of_none e he0)]; exact e⟩
  have hok7 : HOk X.prog X.w (upd H' ea (excO ea C)) h6 := fun b u e => by
    by_cases hb : b = ea
    · subst hb
      rw [upd_same] at e; cases e
      obtain ⟨ob, e1, e2⟩ := id x6
      exact ⟨x6, ⟨ob, e1⟩, fun h1 h2 ⟨o1, p1, p2⟩ k => ⟨o1, k o1 p1, p2⟩⟩
    · rw [upd_ne hb] at e
      exact (hok6 b u e).stay (fun c v _ q => q) (fun c q => by rw [upd_ne (ne_of_none q he0)]; exact q) fun c xs q => by rw [upd_ne (ne_of_none q he0)]; exact q
  have I7 : Inv X pins σ' (upd H' ea (excO ea C)) { s1 with heap := h6 } := Ic.call' (ch := []) os un7 hok7 bare (fun b z => nomatch z)
  refine store_ok I7 hN hi (.inl hl) (v := .ref ea) rfl (fun s8 I8 => ?_) (.inr hl)
  refine wpAny_mono (hs ea pins s8 _ _ (unb i D) (Inv.caught I8 ea) (hgo ea he0)) (fun f s9 q => ?_) fun _ _ z => z.elim
  cases f with
  | next =>
    obtain ⟨σ9, H9, I9, q9⟩ := q
    exact goes_ok (Inv.uncaught I9 hdh) hN hi hl fun s10 I10 => ⟨_, H9, I10, q9⟩
  | brk =>
    obtain ⟨σ9, H9, I9, q9⟩ := q
    exact goes_ok (Inv.uncaught I9 hdh) hN hi hl fun s10 I10 => ⟨_, H9, I10, q9⟩
  | cont =>
    obtain ⟨σ9, H9, I9, q9⟩ := q
    exact goes_ok (Inv.uncaught I9 hdh) hN hi hl fun s10 I10 => ⟨_, H9, I10, q9⟩
  | ret u =>
    obtain ⟨v, σ9, H9, I9, r9, q9⟩ := q
    exact goes_ok (Inv.uncaught I9 hdh) hN hi hl fun s10 I10 => ⟨v, _, H9, I10, r9, q9⟩
end
end L3

namespace L3
open PySem PySem.Spec PyProof.Rows PySem.Calls L2

/-! ### defs: their objects, what they promise, calls -/
/-- a def of the text stands under its name -/
def Src (K : PySem.W.Frag) (mg : Str → Option Value) (x : Str) (st : Stmt) : Prop := ∃ f fd, Fun K x x st f fd ∧ mg x = some (.ref f)
/-- a def that may be called: it keeps sp, k calls deep -/
def Cal (P : Program) (w : World) (K : PySem.W.Frag) (mg : Str → Option Value) (base : Heap) (k : Nat) (x : Str) (ps : List Str) (sp : Sp) : Prop :=
  ∃ f fd, FnOk P w K mg base (CXE P w) k f fd ps sp ∧ Binds K fd ps [] ∧ PySem.W.keepIn K (.ref f) = true ∧ mg x = some (.ref f)
section
variable {P : Program} {w : World} {K : PySem.W.Frag} {mg : Str → Option Value} {base : Heap} {x : Str} {st : Stmt} {k : Nat} {ps N : List Str} {sp : Sp}
theorem Cal.mono {j : Nat} (c : Cal P w K mg base j x ps sp) (h : j ≤ k) : Cal P w K mg base k x ps sp := by
  obtain ⟨f, fd, F, r⟩ := c
  exact ⟨f, fd, F.mono h, r⟩
theorem Src.cal (S : Src K mg x st) (ok : ∀ f fd, Fun K x x st f fd → FnOk P w K mg base (CXE P w) k f fd ps sp)
    (hb : ∀ (kV doc pm : Value) (an : Option Addr) (cdv ct : Value) (us : List Value), us.length = ps.length → bindArgs (PySem.W.fnOf x x (defArgs st) (defBody st) (defScope st) .none kV doc pm an cdv ct) ⟨us, []⟩ = pure (ps.zip us)) :
    Cal P w K mg base k x ps sp := by
  obtain ⟨f, fd, F, e⟩ := S
  exact ⟨f, fd, ok f fd F, F.binds hb, F.kp, e⟩
/-- a def that may raise -/
theorem okX {f : Addr} {fd : FuncData} (F : Fun K x x st f fd) (S : FnScope N ps (defScope st)) (len : ∀ vs H Q E, sp vs H Q E → vs.length = ps.length)
    (hbody : ∀ (cdv : Value) (A : Around) (outer : List Env) (s : Shared) (H : Hp) (vs : List V) (Q : VK) (E : XK), Room k (A.deeper (envOfC x (defScope st) s.heap.objs.size f cdv)) → sp vs H Q E →
      ∃ t, PSs (cxOf (CXE P w) P w K mg base N x (defScope st) f cdv A outer s H E) (defBody st) t ∧ t { nx := fun _ H' => Q .non H', rt := Q } (start N vs) H) : FnOk P w K mg base (CXE P w) (k + 1) f fd ps sp := by
  obtain ⟨oc, od, kV, doc, pm, an, cdv, ct, osl, rfl, lk, hcd⟩ := F.ex
  exact fn_of lk hcd S len fun A outer s H vs Q E hr hsp => hbody cdv A outer s H vs Q E hr hsp
/-- a def that raises nothing -/
theorem okN {f : Addr} {fd : FuncData} (F : Fun K x x st f fd) (S : FnScope N ps (defScope st)) (len : ∀ vs H Q E, sp vs H Q E → vs.length = ps.length)
    (hbody : ∀ (cdv : Value) (A : Around) (outer : List Env) (s : Shared) (H : Hp) (vs : List V) (Q : VK) (E : XK), Room k (A.deeper (envOfC x (defScope st) s.heap.objs.size f cdv)) → sp vs H Q E →
      ∃ t, PSs (cxOf (CXE P w) P w K mg base N x (defScope st) f cdv A outer s H E).nox (defBody st) t ∧ t { nx := fun _ H' => Q .non H', rt := Q } (start N vs) H) : FnOk P w K mg base (CXE P w) (k + 1) f fd ps sp := by
  refine okX F S len fun cdv A outer s H vs Q E hr hsp => ?_
  obtain ⟨t, h, q⟩ := hbody cdv A outer s H vs Q E hr hsp
  exact ⟨t, h.nox, q⟩
end
section
variable {X : Cx} {k : Nat} {x : Str} {ps : List Str} {sp : Sp} {e : Expr} {es : List Expr} {t : TA} {p pos : Pos} {E : XK}
/-- f(..) of a def that raises nothing here -/
theorem pe_c (c : Cal X.prog X.w X.K X.mg X.base k x ps sp) (hr : Room k X.A) (ha : PA X (e :: es) t) (hg : Gl X x := by rfl) (hdb : (x == ("__debug__" : Str)) = false := by decide)
    (he : starEach (e :: es) X.env = (false, eval e X.env) :: starEach es X.env := by rfl) (hpl : (backTo pos (starEach es X.env)).any (·.1) = false := by rfl) :
    PE X (.Call (.Name x p) (e :: es) [] pos) (tCall sp [] (fun _ _ _ => False) t) := by
  obtain ⟨f, fd, F, hb, hk, hm⟩ := c
  exact pe_call F hr hg hm hk hb .nil passF ha hdb he hpl
/-- f(..) of a def that may raise: the exception goes on -/
theorem pe_cX (c : Cal X.prog X.w X.K X.mg X.base k x ps sp) (hr : Room k X.A) (hx : Passes (CXE X.prog X.w) X E) (ha : PA X (e :: es) t) (hg : Gl X x := by rfl) (hdb : (x == ("__debug__" : Str)) = false := by decide)
    (he : starEach (e :: es) X.env = (false, eval e X.env) :: starEach es X.env := by rfl) (hpl : (backTo pos (starEach es X.env)).any (·.1) = false := by rfl) :
    PE X (.Call (.Name x p) (e :: es) [] pos) (tCall sp [] E t) := by
  obtain ⟨f, fd, F, hb, hk, hm⟩ := c
  exact pe_call F hr hg hm hk hb .nil hx ha hdb he hpl
/-- within try: what the clause wants hangs on the names' state at the call -/
def tCallT (sp : Sp) (Eh : L2.St → XK) (t : TA) : TE := fun σ H Q => t σ H fun vs H1 => sp (vs ++ []) H1 Q (Eh σ)
theorem pe_cT {Eh : L2.St → XK} (c : Cal X.prog X.w X.K X.mg X.base k x ps sp) (hr : Room k X.A) (hx : ∀ pins σ H s e s', Inv X pins σ H s → CXE X.prog X.w X.stack H s (Eh σ) e s' → X.xe e s') (ha : PA X (e :: es) t) (hg : Gl X x := by rfl)
    (hdb : (x == ("__debug__" : Str)) = false := by decide) (he : starEach (e :: es) X.env = (false, eval e X.env) :: starEach es X.env := by rfl) (hpl : (backTo pos (starEach es X.env)).any (·.1) = false := by rfl) :
    PE X (.Call (.Name x p) (e :: es) [] pos) (tCallT sp Eh t) := by
  obtain ⟨f, fd, F, hb, hk, hm⟩ := c
  intro pins s σ H Q I h
  refine wpAny_Call_Name_kw (ld_glob I hg hm ?_ hdb)
  refine PySem.W.callWith_K (h₀ := X.base) I.ok.mod.kin hk (thn (ha pos pins s σ H _ I h) fun us s1 ⟨vs, H1, I1, r, q⟩ => ⟨I1.kIn, ?_⟩) he hpl
  have hl : (us ++ []).length = ps.length := by rw [List.append_nil, ← r.length, ← F.len _ _ _ _ q, List.append_nil]
  refine wpAny_call (codeAny_mono (F.run X.A X.stack s1 H1 ⟨us, []⟩ (us ++ []) (vs ++ []) Q (Eh σ) hr I1.env0 (hb s1 us I1.kIn hl) (r.append .nil) q) fun rr s' hq => ?_)
  cases rr with
  | error e => exact hx pins σ H1 s1 e s' I1 hq
  | ok fl =>
    cases fl with
    | ret u => exact I1.after hq
    | next => exact False.elim hq
    | brk => exact False.elim hq
    | cont => exact False.elim hq
end

/-! ### a def called within a clause (an exception is being handled) -/
structure RoomC (k : Nat) (A : Around) : Prop where
  dp : A.depth + 3 * k + 5 < recursionLimit
  un : A.units + 16 * k + 200 < cLine
theorem RoomC.of {k : Nat} {A : Around} (r : Room k A) (v : Option Value) : RoomC k (A.mark v) := ⟨r.dp, r.un⟩
theorem RoomC.deeper {k : Nat} {A : Around} (r : RoomC (k + 1) A) (env : Env) : RoomC k (A.deeper env) :=
  ⟨by have := r.dp; show A.depth + 1 + 3 * k + 5 < _; omega, by have := r.un; show A.units + 3 + 16 * k + 200 < _; omega⟩
theorem RoomC.units {k : Nat} {A : Around} (r : RoomC k A) : A.units + 64 < cLine := by have := r.un; omega
structure FnOkC (P : Program) (w : World) (K : PySem.W.Frag) (mg : Str → Option Value) (base : Heap) (k : Nat) (f : Addr) (fd : FuncData) (ps : List Str) (sp : Sp) : Prop where
  len : ∀ vs H Q E, sp vs H Q E → vs.length = ps.length
  run : ∀ (A : Around) (outer : List Env) (s : Shared) (H : Hp) (args : Args) (us : List Value) (vs : List V) (Q : VK) (E : XK), RoomC k A → Env0 P w K mg base A outer s H → BindsTo s fd args (ps.zip us) → Vals vs us → sp vs H Q E →
    codeAny (model P w) A (.call (.ref f) args) (CR CX0 outer P w H s Q E) s
def CalC (P : Program) (w : World) (K : PySem.W.Frag) (mg : Str → Option Value) (base : Heap) (k : Nat) (x : Str) (ps : List Str) (sp : Sp) : Prop :=
  ∃ f fd, FnOkC P w K mg base k f fd ps sp ∧ Binds K fd ps [] ∧ PySem.W.keepIn K (.ref f) = true ∧ mg x = some (.ref f)
theorem pe_cC {X : Cx} {k : Nat} {x : Str} {ps : List Str} {sp : Sp} {e : Expr} {es : List Expr} {t : TA} {p pos : Pos} (c : CalC X.prog X.w X.K X.mg X.base k x ps sp) (hr : RoomC k X.A) (ha : PA X (e :: es) t) (hg : Gl X x := by rfl)
    (hdb : (x == ("__debug__" : Str)) = false := by decide) (he : starEach (e :: es) X.env = (false, eval e X.env) :: starEach es X.env := by rfl) (hpl : (backTo pos (starEach es X.env)).any (·.1) = false := by rfl) :
    PE X (.Call (.Name x p) (e :: es) [] pos) (tCall sp [] (fun _ _ _ => False) t) := by
  obtain ⟨f, fd, F, hb, hk, hm⟩ := c
  intro pins s σ H Q I h
  refine wpAny_Call_Name_kw (ld_glob I hg hm ?_ hdb)
  refine PySem.W.callWith_K (h₀ := X.base) I.ok.mod.kin hk (thn (ha pos pins s σ H _ I h) fun us s1 ⟨vs, H1, I1, r, q⟩ => ⟨I1.kIn, ?_⟩) he hpl
  have hl : (us ++ []).length = ps.length := by rw [List.append_nil, ← r.length, ← F.len _ _ _ _ q, List.append_nil]
  refine wpAny_call (codeAny_mono (F.run X.A X.stack s1 H1 ⟨us, []⟩ (us ++ []) (vs ++ []) Q _ hr I1.env0 (hb s1 us I1.kIn hl) (r.append .nil) q) fun rr s' hq => ?_)
  cases rr with
  | error e => exact False.elim hq
  | ok fl =>
    cases fl with
    | ret u => exact I1.after hq
    | next => exact False.elim hq
    | brk => exact False.elim hq
    | cont => exact False.elim hq
/-- the context of such a def's body -/
abbrev cxC (P : Program) (w : World) (K : PySem.W.Frag) (mg : Str → Option Value) (base : Heap) (N : List Str) (qual : Str) (scope : Scope) (f : Addr) (cd : Value) (A : Around) (outer : List Env) (s : Shared) (H : Hp) : Cx :=
  { cxOf CX0 P w K mg base N qual scope f cd A outer s H (fun _ _ _ => False) with calm := false, xe := fun _ _ => False }
theorem inv_startC {P : Program} {w : World} {K : PySem.W.Frag} {mg : Str → Option Value} {base : Heap} {N ps : List Str} {qual : Str} {scope : Scope} {f : Addr} {cd : Value} {A : Around} {outer : List Env} {s s1 : Shared} {H : Hp} {us : List Value} {vs : List V}
    (S : FnScope N ps scope) (e0 : Env0 P w K mg base A outer s H) (hl : vs.length = ps.length) (r : Vals vs us)
    (x : InCallC s s.heap.objs.size (bindL (envOfC qual scope s.heap.objs.size f cd).kindOf (ps.zip us) fun _ => none) (cellsFrom (s.heap.objs.size + 1) scope.names []) (bindC (envOfC qual scope s.heap.objs.size f cd).kindOf (ps.zip us) fun _ => none) s1) :
    Inv (cxC P w K mg base N qual scope f cd A outer s H) [] (start N vs) H s1 := by
  have hpl : ps.length ≤ N.length := by have := congrArg List.length S.pre; rw [List.length_take] at this; omega
  obtain ⟨h1, tk, rfl, hk⟩ := x.done
  have noA : ∀ b : Addr, b ∉ (cxC P w K mg base N qual scope f cd A outer s H).ex := fun b z => absurd (show b ∈ ([] : List Addr) from z) (by simp)
  refine ⟨⟨e0.mod, S.kind, rfl, rfl, Nat.le_refl _, fun y z c h1 h2 => ?_, fun y hy => ?_, fun y c _ h => ?_, fun z => absurd (show false = true from z) Bool.false_ne_true, Around.frames_deeper e0.frames, .inr ⟨rfl, rfl⟩, fun b z => absurd z (noA b), e0.bs, e0.bsz, fun b _ _ => noA b, fun b z => absurd z (noA b), e0.funs, e0.frf⟩,
    rfl, e0.bare, Un.kept hk, ⟨_, x.toInCall.ns, fun i y v h1 h2 h3 => ?_⟩, fun y c h => ⟨_, x.cell y c h⟩, e0.hok.fresh (Nat.le_refl _), fun y c h => ?_, fun p hp => absurd (show p ∈ ([] : List (Addr × Obj)) from hp) (by simp), e0.hok.kept hk, ?_⟩
  · exact name_of_addr x.apart (PySem.mem_of_lookup h1) (PySem.mem_of_lookup h2)
  · have hy : scope.names.lookup y = some .cell ∨ scope.names.lookup y = some .free := hy
    rcases hy with hy | hy
    · exact cell_has hy
    · exact absurd rfl (S.nofree _ (PySem.mem_of_lookup hy))
  · exact Nat.le_of_lt (x.above y c (PySem.mem_of_lookup h))
  · have hi : i < vs.length := by
      unfold L2.start at h2
      by_cases hi : i < vs.length
      · exact hi
      · rw [List.getElem?_append_right (by simpa using hi)] at h2
        rw [List.getElem?_replicate] at h2
        split at h2 <;> cases h2
    have ha : vs[i]? = some v := by
      unfold L2.start at h2
      rw [List.getElem?_append_left (by simpa using hi), List.getElem?_map] at h2
      cases e : vs[i]? with
      | none => rw [e] at h2; cases h2
      | some a => rw [e] at h2; cases h2; rfl
    obtain ⟨u, hu, rv⟩ := r.get ha
    have hp : ps[i]? = some y := by
      rw [← S.pre, List.getElem?_take_of_lt (by omega)]; exact h1
    have ndP : ps.Nodup := by rw [← S.pre]; exact S.nd.sublist (List.take_sublist _ _)
    refine ⟨u, rv, ?_⟩
    rcases S.par y (List.mem_of_getElem? hp) with k | k
    · exact .inl ⟨k, bindL_get ndP hp hu k⟩
    · obtain ⟨c, e⟩ := cell_has (n := s.heap.objs.size + 1) k
      refine .inr ⟨.inl k, c, e, ?_⟩
      have q := x.cell y c e
      rw [bindC_get ndP hp hu (by show scope.names.lookup y ≠ _; rw [k]; decide)] at q
      exact q
  · exact e0.hok.fresh (Nat.le_of_lt (x.above y c (PySem.mem_of_lookup h)))
  · unfold L2.start
    show _ = N.length
    rw [List.length_append, List.length_map, List.length_replicate]
    omega


theorem fn_ofC {P : Program} {w : World} {K : PySem.W.Frag} {mg : Str → Option Value} {base : Heap} {k : Nat} {f : Addr} {name qual : Str} {params : Arguments} {body : List Stmt} {scope : Scope} {dV kV doc pm cdv ct oc : Value} {an od : Option Addr}
    {osl : Array (Option Value)} {N ps : List Str} {sp : Sp} (lk : K.lookup f = some ⟨oc, od, .func (PySem.W.fnOf name qual params body scope dV kV doc pm an cdv ct), osl⟩) (hcd : PySem.W.codeIn K cdv qual = true) (S : FnScope N ps scope)
    (len : ∀ vs H Q E, sp vs H Q E → vs.length = ps.length)
    (hbody : ∀ (A : Around) (outer : List Env) (s : Shared) (H : Hp) (vs : List V) (Q : VK) (E : XK), RoomC k (A.deeper (envOfC qual scope s.heap.objs.size f cdv)) → sp vs H Q E →
      ∃ t, PSs (cxC P w K mg base N qual scope f cdv A outer s H) body t ∧ t { nx := fun _ H' => Q .non H', rt := Q } (start N vs) H) :
    FnOkC P w K mg base (k + 1) f (PySem.W.fnOf name qual params body scope dV kV doc pm an cdv ct) ps sp := by
  refine ⟨len, fun A outer s H args us vs Q E hr e0 hb r hsp => ?_⟩
  have hl := len _ _ _ _ hsp
  have KX : K.In s.heap := e0.mod.kin.keeps fun b o e => (e0.bs b o e).1
  have lim : s.heap.NoLimit := e0.mod.nolimit.keeps fun b o e => (e0.bs b o e).1
  have hkind : ∀ y ∈ ps.zip us, scope.names.lookup y.1 = some .local ∨ (scope.names.lookup y.1 = some .cell ∧ ((cellsFrom (s.heap.objs.size + 1) scope.names []).lookup y.1).isSome = true) := fun ⟨n, v⟩ hy => by
    rcases S.par n (List.of_mem_zip hy).1 with q | q
    · exact .inl q
    · exact .inr ⟨q, PySem.W.cellsFrom_some _ _ _ (.inl q)⟩
  refine codeAny_call_function (by have := hr.dp; omega) (KX _ _ lk) rfl S.co S.gen rfl (PySem.W.codeRec_of KX hcd) (hb _ _ _ _ ?_)
  refine wpAny_newFunctionEnv_cells S.kind hkind fun env he s1 x => ?_
  subst he
  refine ⟨lim.keeps x.toInCall.keep, codeAny_func ?_⟩
  obtain ⟨t, ht, hq⟩ := hbody A outer s H vs Q E (hr.deeper _) hsp
  have I : Inv (cxC P w K mg base N qual scope f cdv A outer s H) [] (start N vs) H s1 := inv_startC S e0 hl r x
  refine wpAny_mono (ht [] s1 (start N vs) H _ I hq) (fun fl s' hs => ?_) fun e s' hs => hs.elim
  have fin : ∀ {σ' : L2.St} {H' : Hp} {v : V} {u : Value}, Inv (cxC P w K mg base N qual scope f cdv A outer s H) [] σ' H' s' → RelV v u → Q v H' → CE outer P w H s Q u s' :=
    fun {σ' H' v u} J rv q => ⟨v, H', J.os, J.bare, J.base, J.hok, rv, q⟩
  cases fl with
  | ret u =>
    obtain ⟨v, σ', H', J, rv, q⟩ := hs
    exact fin J rv q
  | next =>
    obtain ⟨σ', H', J, q⟩ := hs
    exact fin (v := V.non) (u := Value.none) J rfl q
  | brk =>
    obtain ⟨_, _, _, q⟩ := hs
    exact False.elim q
  | cont =>
    obtain ⟨_, _, _, q⟩ := hs
    exact False.elim q

theorem Src.calC {P : Program} {w : World} {K : PySem.W.Frag} {mg : Str → Option Value} {base : Heap} {x : Str} {st : Stmt} {k : Nat} {ps : List Str} {sp : Sp} (S : Src K mg x st) (ok : ∀ f fd, Fun K x x st f fd → FnOkC P w K mg base k f fd ps sp)
    (hb : ∀ (kV doc pm : Value) (an : Option Addr) (cdv ct : Value) (us : List Value), us.length = ps.length → bindArgs (PySem.W.fnOf x x (defArgs st) (defBody st) (defScope st) .none kV doc pm an cdv ct) ⟨us, []⟩ = pure (ps.zip us)) :
    CalC P w K mg base k x ps sp := by
  obtain ⟨f, fd, F, e⟩ := S
  exact ⟨f, fd, ok f fd F, F.binds hb, F.kp, e⟩
theorem okC {P : Program} {w : World} {K : PySem.W.Frag} {mg : Str → Option Value} {base : Heap} {x : Str} {st : Stmt} {k : Nat} {ps N : List Str} {sp : Sp} {f : Addr} {fd : FuncData} (F : Fun K x x st f fd) (S : FnScope N ps (defScope st))
    (len : ∀ vs H Q E, sp vs H Q E → vs.length = ps.length)
    (hbody : ∀ (cdv : Value) (A : Around) (outer : List Env) (s : Shared) (H : Hp) (vs : List V) (Q : VK) (E : XK), RoomC k (A.deeper (envOfC x (defScope st) s.heap.objs.size f cdv)) → sp vs H Q E →
      ∃ t, PSs (cxC P w K mg base N x (defScope st) f cdv A outer s H) (defBody st) t ∧ t { nx := fun _ H' => Q .non H', rt := Q } (start N vs) H) : FnOkC P w K mg base (k + 1) f fd ps sp := by
  obtain ⟨oc, od, kV, doc, pm, an, cdv, ct, osl, rfl, lk, hcd⟩ := F.ex
  exact fn_ofC lk hcd S len fun A outer s H vs Q E hr hsp => hbody cdv A outer s H vs Q E hr hsp
end L3

namespace L3
open PySem PySem.Spec PyProof.Rows PySem.Calls L2

/-! ### an object of the heap that was made behind s is taken into the abstract heap -/
theorem Inv.adopt {X : Cx} {pins : List (Addr × Obj)} {σ : L2.St} {H H' : Hp} {s s' : Shared} {a : Addr} {o : HO} {ch : List Addr} (I : Inv X pins σ H s) (ho : s'.os = s.os) (un : Un (frs X.stack) ch H H' s.heap s'.heap) (hok : HOk X.prog X.w H' s'.heap) (hg : AllBare s'.gens)
    (hch : ∀ b ∈ ch, (b ∈ X.ex ∨ X.s₀.heap.objs.size ≤ b) ∧ b ≠ X.env.locals ∧ (∀ x c, X.env.cells.lookup x = some c → c ≠ b) ∧ ∀ p ∈ X.pn ++ pins, p.1 ≠ b)
    (hs : s.heap.get? a = none) (h0 : H' a = none) (new : ObjOk X.prog X.w (upd H' a o) s'.heap a o) : Inv X pins σ (upd H' a o) s' := by
  refine I.call' (ch := ch) ho ⟨un.keep, un.slot, fun b ob q n hx => ?_, un.there, fun b xs q => ?_, fun b ob u q => ?_, fun b ps q => ?_⟩ (fun b u e => ?_) hg hch
  · have ne : b ≠ a := fun z => by rw [z, hs] at q; cases q
    rw [upd_ne ne]; exact un.free b ob q n hx
  · have e := un.tups b xs q
    rw [upd_ne (ne_of_none e h0)]; exact e
  · have e := un.frzs b ob u q
    rw [upd_ne (ne_of_none e h0)]; exact e
  · obtain ⟨m, e⟩ := un.tbls b ps q
    exact ⟨m, by rw [upd_ne (ne_of_none e h0)]; exact e⟩
  · by_cases hb : b = a
    · subst hb
      rw [upd_same] at e; cases e
      exact new
    · rw [upd_ne hb] at e
      exact (hok b u e).stay (fun c v _ q => q) (fun c q => by rw [upd_ne (ne_of_none q h0)]; exact q) fun c xs q => by rw [upd_ne (ne_of_none q h0)]; exact q

/-! ### a list comprehension -/
/-- the context of its block -/
def cxI (X : Cx) (scope : Scope) (cl : List (Str × Addr)) (N : List Str) (s : Shared) (H : Hp) (C : Addr) (fp : List Addr) : Cx where
  prog := X.prog
  w := X.w
  K := X.K
  mg := X.mg
  base := X.base
  A := X.A
  N := N
  s₀ := s
  H₀ := H
  env := compEnvC scope cl C X.env
  outer := X.stack
  stack := X.stack
  ex := fp
  fn := fun _ => false
  calm := X.calm
  pn := X.pn
  xe := fun _ _ => False
/-- the names that the block sees: its own, then those of around (with their slots there) -/
def sI (tgs : List Str) (caps : List (Str × Nat)) (σ : L2.St) : L2.St := tgs.map (fun _ => none) ++ caps.map fun c => (σ[c.2]?).join
def nI (tgs : List Str) (caps : List (Str × Nat)) : List Str := tgs ++ caps.map (·.1)
structure CompS (X : Cx) (scope : Scope) (cl : List (Str × Addr)) (tgs : List Str) (caps : List (Str × Nat)) : Prop where
  kind : scope.kind = .function
  nocell : ∀ y ∈ scope.names, y.2 ≠ .cell
  locs : ∀ y ∈ scope.names, y.2 = .local → scope.names.lookup y.1 = some .local
  clos : closureFor scope X.env = pure cl
  sub : ∀ x c, cl.lookup x = some c → X.env.cells.lookup x = some c
  has : ∀ x, ((relabel scope X.env).names.lookup x = some .cell ∨ (relabel scope X.env).names.lookup x = some .free) → ∃ c, cl.lookup x = some c
  cap : ∀ c ∈ caps, X.N[c.2]? = some c.1 ∧ X.env.scope.names.lookup c.1 = some .cell ∧ (relabel scope X.env).names.lookup c.1 = some .cell

def lobj (its : List Value) (n : Nat) : Obj := { cls := .type "list", data := .seq its.toArray n }

theorem comp_loop {prog : Program} {w : World} {A : Around} {R : Result → Shared → Prop} {s : Shared} {elt tg iter : Expr} {ifs : List Expr} {scope : Scope} {pos : Pos} {it acc : Value} {env : Env} (J : Nat → Shared → Prop)
    (turn : ∀ n s, J n s → wpAny (model prog w) A (pyNext it) (fun r s1 => match r with
      | none => R (.ok .next) s1
      | some v => wpAny (model prog w) A (letOwnedTupleGo tg it v) (fun _ s2 => wpAny (model prog w) A (assign tg env v) (fun _ s3 =>
          wpAny (model prog w) A (forIn ifs true fun c r => if r = true then do let ok ← isTrue c env (eval c env); pure (ForInStep.yield ok) else pure (ForInStep.yield r)) (fun ok s4 =>
            if ok = true then wpAny (model prog w) A (eval elt env) (fun x s5 => wpAny (model prog w) A (call (.builtin "list.append") [acc, x]) (fun _ s6 => ∃ m, m < n ∧ J m s6) (fun _ _ => False) s5) (fun _ _ => False) s4
            else ∃ m, m < n ∧ J m s4) (fun _ _ => False) s3) (fun _ _ => False) s2) (fun _ _ => False) s1) (fun _ _ => False) s)
    (n : Nat) (h : J n s) : codeAny (model prog w) A (.compLoop (.ListComp elt [⟨tg, iter, ifs, 0⟩] scope pos) 0 it acc env) R s := by
  refine codeAny_loop rfl J (fun n s hJ => ?_) n h
  have no : ∀ (x : Value) (s' : Shared), (fun (_ : Value) (_ : Shared) => False) x s' → (notedBy (model prog w) A env fun e s' => R (.error e) s') x s' := fun _ _ z => z.elim
  show wpAny (model prog w) A (Sem.onRaise (compTurn (.ListComp elt [⟨tg, iter, ifs, 0⟩] scope pos) 0 it acc env) (fun y => do noteFrame y env; theTreesLotGoes y)) _ _ s
  refine wpAny_noted ?_
  rw [compTurn_list]
  refine wpAny_bind (wpAny_standAt (wpAny_bind (wpAny_mono (turn n s hJ) (fun r s1 h1 => ?_) no)))
  cases r with
  | none => exact wpAny_pure h1
  | some v =>
    refine wpAny_bind (wpAny_mono h1 (fun _ s2 h2 => ?_) no)
    refine wpAny_bind (wpAny_mono h2 (fun _ s3 h3 => ?_) no)
    refine wpAny_bind (wpAny_mono h3 (fun ok s4 h4 => ?_) no)
    cases ok with
    | false => exact wpAny_pure ⟨rfl, h4⟩
    | true =>
      rw [if_pos rfl] at h4
      refine wpAny_bind (wpAny_bind (wpAny_mono h4 (fun x s5 h5 => ?_) no))
      exact wpAny_bind (wpAny_mono h5 (fun _ s6 h6 => wpAny_pure (wpAny_pure ⟨rfl, h6⟩)) no)

/-- W: what holds between two turns: the turn, a measure, the list so far, the block's names, the heap -/
def tCompAt (J : It) (g : TG) (tc : TT) (te : TE) (Q : VK) (σ0 : L2.St) (H1 : Hp) : Prop := ∃ W : Nat → Nat → List V → L2.St → Hp → Prop, (∃ m, W 0 m [] σ0 H1) ∧ ∀ i m ys σ' H', W i m ys σ' H' →
  (J.stop i H' ∧ ys.length ≤ sizeLine ∧ ∀ p, H' p = none → Q (.ref p) (upd H' p (.lst ys))) ∨
  (J.go i H' ∧ ys.length < sizeLine ∧ ∃ Nx : List V → L2.St → Hp → Prop, (∀ ys' σ2 H2, Nx ys' σ2 H2 → ∃ m', m' < m ∧ W (i + 1) m' ys' σ2 H2) ∧ ∀ x H2, J.yld i H' x H2 → g x σ' H2 fun σ2 H3 => tc σ2 H3 fun b H4 =>
    if b = true then te σ2 H4 fun y H5 => Nx (ys ++ [y]) σ2 H5 else Nx ys σ2 H4)
def tComp (wi : TI) (g : TG) (tc : TT) (te : TE) (s0 : L2.St → L2.St) : TE := fun σ H Q => wi σ H fun J H1 => tCompAt J g tc te Q (s0 σ) H1

section
variable {X : Cx} {scope : Scope} {cl : List (Str × Addr)} {tgs : List Str} {caps : List (Str × Nat)} {pins : List (Addr × Obj)} {σ : L2.St} {H : Hp} {s : Shared}
theorem sI_get {j : Nat} {x : Str} {v : V} (h1 : (nI tgs caps)[j]? = some x) (h2 : (sI tgs caps σ)[j]? = some (some v)) : ∃ c ∈ caps, c.1 = x ∧ σ[c.2]? = some (some v) := by
  unfold nI at h1
  unfold sI at h2
  by_cases hj : j < tgs.length
  · rw [List.getElem?_append_left (by simpa using hj), List.getElem?_map] at h2
    cases e : tgs[j]? with
    | none => rw [e] at h2; cases h2
    | some y => rw [e] at h2; cases h2
  · rw [List.getElem?_append_right (by simpa using hj)] at h1 h2
    rw [List.length_map] at h2
    rw [List.getElem?_map] at h1 h2
    cases e : caps[j - tgs.length]? with
    | none => rw [e] at h1; cases h1
    | some c =>
      rw [e] at h1 h2
      refine ⟨c, List.mem_of_getElem? e, Option.some.inj h1, ?_⟩
      have h3 : (σ[c.2]?).join = some v := Option.some.inj h2
      cases z : σ[c.2]? with
      | none => rw [z] at h3; cases h3
      | some o => rw [z] at h3; rw [show o = some v from h3]
/-- the block's entry -/
theorem inv_block (S : CompS X scope cl tgs caps) {fp : List Addr} {h' : Heap} (I : Inv X pins σ H s) (f2 : ∀ b ∈ fp, FpOk X pins H b) (hlt : ∀ b ∈ fp, b < s.heap.objs.size) (hns : h'.Ns (s.heap.objs.size + 1) (fun _ => none))
    (hk : ∀ b o, s.heap.get? b = some o → h'.get? b = some o) (hacc : h'.get? s.heap.objs.size = some (lobj [] 0)) {t' : Nat} :
    Inv (cxI X scope cl (nI tgs caps) s H (s.heap.objs.size + 1) fp) (pins ++ [(s.heap.objs.size, lobj [] 0)]) (sI tgs caps σ) H { s with heap := h', toks := t' } := by
  have hC : H (s.heap.objs.size + 1) = none := I.hok.fresh (Nat.le_succ _)
  have hA : H s.heap.objs.size = none := I.hok.fresh (Nat.le_refl _)
  have cc : ∀ x c, cl.lookup x = some c → c < s.heap.objs.size := fun x c e => by
    obtain ⟨v, q⟩ := I.cell x c (S.sub x c e)
    exact q.lt
  have nfs : ∀ b, s.heap.objs.size ≤ b → b ∉ frs X.stack := fun b hb m => by
    obtain ⟨_, o, e, _⟩ := I.stack.mem m
    exact absurd (Nat.lt_of_lt_of_le (Heap.lt_size e) hb) (Nat.lt_irrefl _)
  refine ⟨⟨I.mod, S.kind, I.ok.glob, I.ok.blt, Nat.le_succ _, fun x y c h1 h2 => I.ok.inj x y c (S.sub x c h1) (S.sub y c h2), S.has, fun x c z => absurd (show false = true from z) Bool.false_ne_true, I.ok.hd, I.ok.frames, .inl rfl, fun b hb => ⟨?_, fun x c e => (f2 b hb).2.2.2.2.1 x c (S.sub x c e)⟩, I.bs, Nat.le_trans I.ok.bsz I.sz, fun b o e hb => ?_, fun b hb m => ?_, I.stack, I.stkFree⟩,
    rfl, I.bare, Un.kept hk, ⟨_, hns, fun j x v h1 h2 h3 => ?_⟩, fun x c e => ?_, hC, fun x c e => I.freeC x c (S.sub x c e), fun p hp => ?_, I.hok.kept hk, ?_⟩
  · exact Nat.ne_of_lt (Nat.lt_succ_of_lt (hlt b hb))
  · rcases (f2 b hb).2.2.2.1 with z | z
    · exact I.ok.noex b o e z
    · exact absurd (Nat.lt_of_lt_of_le (Heap.lt_size e) (Nat.le_trans I.ok.bsz z)) (Nat.lt_irrefl _)
  · rcases List.mem_cons.mp (I.stkSub b m) with z | z
    · exact (f2 b hb).2.1 z
    · exact (f2 b hb).2.2.1 z
  · obtain ⟨c, hc, rfl, e⟩ := sI_get h1 h2
    obtain ⟨g1, g2, g3⟩ := S.cap c hc
    obtain ⟨m, hn, hl⟩ := I.loc
    obtain ⟨u, r, l⟩ := hl c.2 c.1 v g1 e (.inr (.inl g2))
    refine ⟨u, r, .inr ⟨.inl g3, ?_⟩⟩
    rcases l with ⟨k, _⟩ | ⟨k, a, e1, z⟩
    · have k' : X.env.scope.names.lookup c.1 = some .local := k
      rw [g2] at k'; cases k'
    · obtain ⟨a', e2⟩ := S.has c.1 (.inl g3)
      have e3 := S.sub _ _ e2
      rw [e1] at e3; cases e3
      obtain ⟨o, z1, z2⟩ := z
      exact ⟨a, e2, o, hk _ _ z1, z2⟩
  · obtain ⟨v, o, z1, z2⟩ := I.cell x c (S.sub x c e)
    exact ⟨v, o, hk _ _ z1, z2⟩
  · have hp' : p ∈ X.pn ++ pins ∨ p = (s.heap.objs.size, lobj [] 0) := by
      have : p ∈ X.pn ++ (pins ++ [(s.heap.objs.size, lobj [] 0)]) := hp
      rw [← List.append_assoc] at this
      rcases List.mem_append.mp this with z | z
      · exact .inl z
      · exact .inr (by simpa using z)
    rcases hp' with z | rfl
    · obtain ⟨e, n, ne, nf, d⟩ := I.pin p z
      have lt := Heap.lt_size e
      refine ⟨hk _ _ e, n, Nat.ne_of_lt (Nat.lt_succ_of_lt lt), fun m => ?_, d⟩
      rcases List.mem_cons.mp (I.stkSub _ m) with y | y
      · exact ne y
      · exact nf y
    · exact ⟨hacc, hA, Nat.ne_of_lt (Nat.lt_succ_self _), nfs _ (Nat.le_refl _), fun v z => by cases z⟩
  · show (sI tgs caps σ).length = (nI tgs caps).length
    simp [sI, nI]

theorem vals_snoc {ys : List V} {its : List Value} {y : V} {u : Value} (h : Vals ys its) (r : RelV y u) : Vals (ys ++ [y]) (its ++ [u]) := h.append (.cons r .nil)
theorem comp_run {elt tg iter : Expr} {ifs : List Expr} {g : TG} {tc : TT} {te : TE} {pos : Pos} {it : Addr} {fp : List Addr} {tn : Nat → Heap → Prop} {J : It} {Q : VK} {RR : Value → Addr → Result → Shared → Prop} {E : Value → Shared → Prop} (hcalm : X.calm = true) (S : CompS X scope cl tgs caps)
    (hg : ∀ s H C fp, PG (cxI X scope cl (nI tgs caps) s H C fp) tg g)
    (hc : (ifs = [] ∧ tc = fun _ H Q => Q true H) ∨ ∃ c, ifs = [c] ∧ ∀ s H C fp, PT (cxI X scope cl (nI tgs caps) s H C fp) c tc)
    (he : ∀ s H C fp, PE (cxI X scope cl (nI tgs caps) s H C fp) elt te)
    (I : Inv X pins σ H s) (T : Turn X.prog X.w X.K tg J fp it tn) (st : tn 0 s.heap) (f2 : ∀ b ∈ fp, FpOk X pins H b)
    (hW : tCompAt J g tc te Q (sI tgs caps σ) H)
    (hend : ∀ p C ys H' s' m, Inv X pins σ (upd H' p (.lst ys)) s' → Q (.ref p) (upd H' p (.lst ys)) → s'.heap.Ns C m → FpOk X pins (upd H' p (.lst ys)) C → RR (.ref p) C (.ok .next) s') :
    wpAny (model X.prog X.w) X.A (newList []) (fun acc s3 => wpAny (model X.prog X.w) X.A (newFunctionEnv scope X.env.globals cl [] X.env.qual none .none (some X.env)) (fun cenv s4 =>
      codeAny (model X.prog X.w) X.A (.compStart (.ListComp elt [⟨tg, iter, ifs, 0⟩] scope pos) 0 (.ref it) acc { cenv with scope := relabel scope X.env }) (RR acc cenv.locals) s4) E s3) E s := by
  have hlt : ∀ b ∈ fp, b < s.heap.objs.size := fun b hb => by
    obtain ⟨o, e, _⟩ := T.obj _ _ st b hb
    exact Heap.lt_size e
  refine wpAny_newObj_type (wpAny_newFunctionEnv S.nocell (by intro y hy; simp at hy) (fun h1 hns1 hsb1 => ?_) S.kind)
  dsimp only at hns1 hsb1 ⊢
  have hC : (s.heap.push { cls := .type "list", dict := none, data := .seq ([] : List Value).toArray }).objs.size = s.heap.objs.size + 1 := Heap.size_push ..
  have old : ∀ b o, s.heap.get? b = some o → h1.get? b = some o := fun b o e =>
    hsb1.extBut b o (by rw [hC]; exact Nat.ne_of_lt (Nat.lt_succ_of_lt (Heap.lt_size e))) (Heap.get?_push_of_some _ (Heap.get?_push_of_some _ e))
  have hacc : h1.get? s.heap.objs.size = some (lobj [] 0) :=
    hsb1.extBut _ _ (by rw [hC]; exact Nat.ne_of_lt (Nat.lt_succ_self _)) (Heap.get?_push_of_some _ (Heap.get?_push_size _ rfl))
  rw [hC] at hns1 ⊢
  obtain ⟨W, ⟨m0, w0⟩, turn⟩ := hW
  have hns2 : h1.Ns (s.heap.objs.size + 1) (fun _ => none) := hns1
  have I4 := inv_block S I f2 hlt hns2 old hacc (t' := s.toks + ([] : List (Str × Value)).length)
  have st4 : tn 0 h1 := T.keep _ _ _ st fun b _ o e => old b o e
  -- the iterator's objects, seen from the block
  have fpI : ∀ {H' : Hp} {o : Obj}, (∀ b ∈ fp, H' b = none) → ∀ b ∈ fp, FpOk (cxI X scope cl (nI tgs caps) s H (s.heap.objs.size + 1) fp) (pins ++ [(s.heap.objs.size, o)]) H' b := fun {H' o} hn b hb => by
    obtain ⟨g0, g1, g2, g3, g4, g5⟩ := f2 b hb
    refine ⟨hn b hb, Nat.ne_of_lt (Nat.lt_succ_of_lt (hlt b hb)), fun m => ?_, .inl hb, fun x c e => g4 x c (S.sub x c e), fun p hp z => ?_⟩
    · rcases List.mem_cons.mp (I.stkSub _ m) with y | y
      · exact g1 y
      · exact g2 y
    · have hp' : p ∈ X.pn ++ (pins ++ [(s.heap.objs.size, o)]) := hp
      rw [← List.append_assoc] at hp'
      rcases List.mem_append.mp hp' with y | y
      · exact g5 p y z
      · have y' : p = (s.heap.objs.size, o) := by simpa using y
        rw [y'] at z
        exact absurd (hlt b hb) (by rw [← z]; exact Nat.lt_irrefl _)
  have loop : codeAny (model X.prog X.w) X.A (.compLoop (.ListComp elt [⟨tg, iter, ifs, 0⟩] scope pos) 0 (.ref it) (.ref s.heap.objs.size) (compEnvC scope cl (s.heap.objs.size + 1) X.env)) (RR (.ref s.heap.objs.size) (s.heap.objs.size + 1)) { s with heap := h1, toks := s.toks + ([] : List (Str × Value)).length } := by
    refine comp_loop (fun n s' => ∃ i ys its k σ' H', Inv (cxI X scope cl (nI tgs caps) s H (s.heap.objs.size + 1) fp) (pins ++ [(s.heap.objs.size, lobj its k)]) σ' H' s' ∧ Vals ys its ∧ tn i s'.heap ∧ (∀ b ∈ fp, H' b = none) ∧ W i n ys σ' H') ?_ m0
      ⟨0, [], [], 0, _, H, I4, .nil, st4, fun b hb => (f2 b hb).1, w0⟩
    rintro n s5 ⟨i, ys, its, k, σ5, H5, I5, v5, st5, fr5, w5⟩
    rcases turn i n ys σ5 H5 w5 with ⟨stop, hz, q⟩ | ⟨go, hz, Nx, hNx, step⟩
    · refine thn (T.done (cxI X scope cl (nI tgs caps) s H (s.heap.objs.size + 1) fp) rfl rfl rfl hcalm i _ s5 σ5 H5 _ I5 (fpI fr5) st5 stop) fun r s6 ⟨hr, I6⟩ => ?_
      subst hr
      obtain ⟨z1, z2, z3, z4, _⟩ := I6.pin (s.heap.objs.size, lobj its k) (by simp)
      obtain ⟨m, hn, _⟩ := I6.loc
      have hA : H5 s.heap.objs.size = none := z2
      refine hend s.heap.objs.size (s.heap.objs.size + 1) ys H5 s6 m (Inv.adopt I (ch := fp) I6.os I6.base I6.hok I6.bare (fun b hb => ⟨(f2 b hb).2.2.2.1, (f2 b hb).2.1, (f2 b hb).2.2.2.2.1, (f2 b hb).2.2.2.2.2⟩) (Heap.get?_none_of_le (Nat.le_refl _)) hA ⟨hz, its, k, v5, z1⟩) (q _ hA) hn ?_
      exact I.fpOk (Nat.le_succ _) (by rw [upd_ne (Nat.ne_of_gt (Nat.lt_succ_self _))]; exact I6.free)
    · refine thn (T.item (cxI X scope cl (nI tgs caps) s H (s.heap.objs.size + 1) fp) rfl rfl rfl hcalm i _ s5 σ5 H5 _ I5 (fpI fr5) st5 go) fun r s6 ⟨u, hr, h6⟩ => ?_
      subst hr
      refine thn h6 fun _ s7 ⟨x, H7, I7, r7, y7, st7, fr7⟩ => ?_
      have I7' := I7.pinned (fpI fr7) (T.obj _ _ st7)
      refine thn (hg _ _ _ _ _ s7 σ5 H7 x u _ I7' r7 (step x H7 y7)) fun _ s8 ⟨σ8, H8, I8, q8⟩ => ?_
      -- behind the tests and the element: the iterator and the list so far are as they were
      have back : ∀ {σ9 : L2.St} {H9 : Hp} {s9 : Shared}, Inv (cxI X scope cl (nI tgs caps) s H (s.heap.objs.size + 1) fp) ((pins ++ [(s.heap.objs.size, lobj its k)]) ++ pinsAt fp s7.heap) σ9 H9 s9 → tn (i + 1) s9.heap ∧ ∀ b ∈ fp, H9 b = none := fun {σ9 H9 s9} I9 => by
        refine ⟨T.keep _ _ _ st7 fun b hb o e => (I9.pin (b, o) (List.mem_append_right _ (List.mem_append_right _ (mem_pinsAt hb e)))).1, fun b hb => ?_⟩
        obtain ⟨o, e, d⟩ := T.obj _ _ st7 b hb
        exact (I9.pin (b, o) (List.mem_append_right _ (List.mem_append_right _ (mem_pinsAt hb e)))).2.1
      have tests : ∀ {Q' : Bool → Shared → Prop}, (∀ b s9 H9, Inv (cxI X scope cl (nI tgs caps) s H (s.heap.objs.size + 1) fp) ((pins ++ [(s.heap.objs.size, lobj its k)]) ++ pinsAt fp s7.heap) σ8 H9 s9 →
          (if b = true then te σ8 H9 fun y H5 => Nx (ys ++ [y]) σ8 H5 else Nx ys σ8 H9) → Q' b s9) →
          wpAny (model X.prog X.w) X.A (forIn ifs true fun c r => if r = true then do let ok ← isTrue c (compEnvC scope cl (s.heap.objs.size + 1) X.env) (eval c (compEnvC scope cl (s.heap.objs.size + 1) X.env)); pure (ForInStep.yield ok) else pure (ForInStep.yield r)) Q' (fun _ _ => False) s8 := fun {Q'} hQ => by
        rcases hc with ⟨rfl, rfl⟩ | ⟨c, rfl, hc⟩
        · exact wpAny_tests_nil (hQ true s8 H8 I8 q8)
        · refine wpAny_tests_one (thn (hc _ _ _ _ _ s8 σ8 H8 _ I8 q8) fun b s9 ⟨H9, I9, q9⟩ => hQ b s9 H9 I9 q9)
      refine tests fun b s9 H9 I9 q9 => ?_
      cases b with
      | false =>
        obtain ⟨m', hm, w9⟩ := hNx _ _ _ q9
        obtain ⟨b1, b2⟩ := back I9
        exact ⟨m', hm, i + 1, ys, its, k, σ8, H9, I9.unpinned, v5, b1, b2, w9⟩
      | true =>
        rw [if_pos rfl]
        rw [if_pos rfl] at q9
        refine thn (he _ _ _ _ _ s9 σ8 H9 _ I9 q9) fun u2 s10 ⟨y, H10, I10, r10, q10⟩ => ?_
        obtain ⟨m', hm, w10⟩ := hNx _ _ _ q10
        obtain ⟨b1, b2⟩ := back I10
        obtain ⟨z1, z2, z3, z4, _⟩ := I10.pin (s.heap.objs.size, lobj its k) (by simp)
        have hsz : its.toArray.size ≤ sizeLine := by rw [List.size_toArray, ← v5.length]; exact Nat.le_of_lt hz
        refine append_at (hsz := hsz) z1 fun h11 hs11 hD11 => ?_
        have I10u : Inv (cxI X scope cl (nI tgs caps) s H (s.heap.objs.size + 1) fp) pins σ8 H10 s10 := I10.unpinned.unpinned
        have I11 : Inv (cxI X scope cl (nI tgs caps) s H (s.heap.objs.size + 1) fp) pins σ8 H10 { s10 with heap := h11 } := by
          refine Inv.turned (t' := s10.toks) (it := s.heap.objs.size) I10u (fun b o hb e => (hs11.2 b hb).trans e) z2 z3 (.inr (Nat.le_refl _)) (fun x c e => ?_) (fun p hp z => ?_)
          · obtain ⟨v, q⟩ := I.cell x c (S.sub x c e)
            exact Nat.ne_of_lt q.lt
          · obtain ⟨e, _⟩ := I.pin p hp
            exact absurd (Heap.lt_size e) (by rw [z]; exact Nat.lt_irrefl _)
        have nacc : ∀ b ∈ fp, b ≠ s.heap.objs.size := fun b hb => Nat.ne_of_lt (hlt b hb)
        refine ⟨m', hm, i + 1, ys ++ [y], its ++ [u2], k + 1, σ8, H10, I11.pins_of fun p hp => ?_, vals_snoc v5 r10, T.keep _ _ _ b1 fun b hb o e => (hs11.2 b (nacc b hb)).trans e, b2, w10⟩
        rcases List.mem_append.mp hp with z | z
        · exact I11.pin p (List.mem_append_right _ z)
        · have e : p = (s.heap.objs.size, lobj (its ++ [u2]) (k + 1)) := by simpa using z
          subst e
          refine ⟨?_, z2, z3, z4, fun v z => by cases z⟩
          show h11.get? s.heap.objs.size = some (lobj (its ++ [u2]) (k + 1))
          rw [hD11]
          unfold lobj
          rw [List.push_toArray]
  exact codeAny_compStart_list loop (T.self _ 0 _ _ _ st4 loop)

section
variable {elt tg iter : Expr} {ifs : List Expr} {wi : TI} {g : TG} {tc : TT} {te : TE} {pos : Pos}
theorem pe_lc (hcalm : X.calm = true) (S : CompS X scope cl tgs caps) (hi : PI X tg iter wi) (hg : ∀ s H C fp, PG (cxI X scope cl (nI tgs caps) s H C fp) tg g)
    (hc : (ifs = [] ∧ tc = fun _ H Q => Q true H) ∨ ∃ c, ifs = [c] ∧ ∀ s H C fp, PT (cxI X scope cl (nI tgs caps) s H C fp) c tc)
    (he : ∀ s H C fp, PE (cxI X scope cl (nI tgs caps) s H C fp) elt te) (hs : ∀ x, foldedSetIterable iter X.env x = pure x := by intro _; rfl) :
    PE X (.ListComp elt [⟨tg, iter, ifs, 0⟩] scope pos) (tComp wi g tc te (sI tgs caps)) := by
  intro pins s σ H Q I h
  rw [eval_ListComp]
  refine wpAny_comprehension_free (use := none) rfl hs S.clos S.kind S.locs (thn (hi pins s σ H _ I h) fun v s1 h1 => thn h1 fun itv s2 h2 => ?_)
  obtain ⟨it, fp, tn, J, H2, rfl, I2, T, st2, f2, hW⟩ := h2
  refine comp_run hcalm S hg hc he I2 T st2 f2 hW fun p C ys H' s' m I3 q hn fk => ?_
  obtain ⟨g0, g1, g2, g3, g4, g5⟩ := fk
  exact ⟨m, hn, fun h' hs' => ⟨.ref p, _, Inv.turned (t' := s'.toks) I3 (fun b o hb e => (hs'.2 b hb).trans e) g0 g1 g3 g4 g5, rfl, q⟩⟩
/-- y = [..], y a plain local on the same row -/
theorem ps_lc {i : Nat} {y : Str} {py spos : Pos} (hcalm : X.calm = true) (S : CompS X scope cl tgs caps) (hN : X.N.Nodup) (hy : X.N[i]? = some y) (hl : X.env.scope.names.lookup y = some .local) (hi : PI X tg iter wi) (hg : ∀ s H C fp, PG (cxI X scope cl (nI tgs caps) s H C fp) tg g)
    (hc : (ifs = [] ∧ tc = fun _ H Q => Q true H) ∨ ∃ c, ifs = [c] ∧ ∀ s H C fp, PT (cxI X scope cl (nI tgs caps) s H C fp) c tc)
    (he : ∀ s H C fp, PE (cxI X scope cl (nI tgs caps) s H C fp) elt te) (hsw : swapsWith (.ListComp elt [⟨tg, iter, ifs, 0⟩] scope pos) (some (.Name y py)) spos.line X.env = pure true := by rfl) (hs : ∀ x, foldedSetIterable iter X.env x = pure x := by intro _; rfl) :
    PS X (.Assign [.Name y py] (.ListComp elt [⟨tg, iter, ifs, 0⟩] scope pos) spos) (fun D σ H => tComp wi g tc te (sI tgs caps) σ H fun v H1 => D.nx (σ.set i (some v)) H1) := by
  intro pins s σ H D I h
  rw [exec_Assign_Name_used _ _ _ _ hsw]
  refine wpAny_bind (wpAny_standAt (wpAny_bind ?_))
  show wpAny _ X.A (do let _ ← comprehension (.ListComp elt [⟨tg, iter, ifs, 0⟩] scope pos) scope X.env _ (newList []) false (eval iter X.env) (some (assign (.Name y py) X.env))) _ _ s
  refine wpAny_bind (wpAny_mono (wpAny_comprehension_free (use := some (assign (.Name y py) X.env)) (Q := fun _ s' => SP X pins D .next s') rfl hs S.clos S.kind S.locs (thn (hi pins s σ H _ I h) fun v s1 h1 => thn h1 fun itv s2 h2 => ?_)) (fun _ s' hq => wpAny_pure (wpAny_pure hq)) fun _ _ z => z)
  obtain ⟨it, fp, tn, J, H2, rfl, I2, T, st2, f2, hW⟩ := h2
  refine comp_run (Q := fun v H1 => D.nx (σ.set i (some v)) H1) hcalm S hg hc he I2 T st2 f2 hW fun p C ys H' s' m I3 q hn fk => ?_
  obtain ⟨g0, g1, g2, g3, g4, g5⟩ := fk
  show wpAny _ X.A (assign (.Name y py) X.env (.ref p)) _ _ s'
  refine wpAny_assign_Name (store_ok2 I3 hN hy (.inl hl) (v := .ref p) rfl (fun s4 I4 hsb => ?_) (.inr hl))
  obtain ⟨a, hsb, ha⟩ := hsb
  have hCa : C ≠ a := by
    rcases ha with rfl | ha
    · exact g1
    · exact fun z => g4 _ _ ha z.symm
  exact ⟨m, hn.sameBut hsb hCa, fun h' hs' => ⟨_, _, Inv.turned (t' := s4.toks) I4 (fun b o hb e => (hs'.2 b hb).trans e) g0 g1 g3 g4 g5, q⟩⟩
end

/-! ### the forms one uses -/
theorem comp_list {K : PySem.W.Frag} {a : Addr} {xs : List V} {g : TG} {tc : TT} {te : TE} {Q : VK} {σ0 : L2.St} {H0 : Hp} (Pv : Nat → List V → L2.St → Hp → Prop) (h0 : Pv 0 [] σ0 H0) (hx : xs.length ≤ sizeLine)
    (hl : ∀ i ys σ H, i ≤ xs.length → Pv i ys σ H → SqL K H a xs ∧ ys.length ≤ i)
    (hs : ∀ i x ys σ H, xs[i]? = some x → Pv i ys σ H → g x σ H fun σ2 H3 => tc σ2 H3 fun b H4 => if b = true then te σ2 H4 fun y H5 => Pv (i + 1) (ys ++ [y]) σ2 H5 else Pv (i + 1) ys σ2 H4)
    (hd : ∀ ys σ H, Pv xs.length ys σ H → ∀ p, H p = none → Q (.ref p) (upd H p (.lst ys))) :
    tCompAt (Itl K a) g tc te Q σ0 H0 := by
  refine ⟨fun i m ys σ H => m = xs.length - i ∧ i ≤ xs.length ∧ Pv i ys σ H, ⟨xs.length, by simp, Nat.zero_le _, h0⟩, ?_⟩
  rintro i m ys σ H ⟨rfl, hi, p⟩
  obtain ⟨q, hy⟩ := hl i ys σ H hi p
  by_cases hlt : i < xs.length
  · refine .inr ⟨⟨xs, xs[i], q, by simp [hlt]⟩, by omega, Pv (i + 1), fun ys' σ' H' p' => ⟨xs.length - (i + 1), by omega, rfl, hlt, p'⟩, fun x H' y => ?_⟩
    obtain ⟨rfl, y⟩ := y
    exact hs i x ys σ _ (y xs q) p
  · have e : i = xs.length := by omega
    subst e
    exact .inl ⟨⟨xs, q, Nat.le_refl _⟩, by omega, hd ys σ H p⟩
end
end L3

namespace L3
open PySem PySem.Spec PyProof.Rows PySem.Calls L2
theorem b_abs : bootBuiltins "abs" = some (.builtin "abs") := by decide +kernel
theorem b_len : bootBuiltins "len" = some (.builtin "len") := by decide +kernel
theorem b_isi : bootBuiltins "isinstance" = some (.builtin "isinstance") := by decide +kernel
theorem b_int : bootBuiltins "int" = some (.type "int") := by decide +kernel
theorem b_bool : bootBuiltins "bool" = some (.type "bool") := by decide +kernel
theorem b_str : bootBuiltins "str" = some (.type "str") := by decide +kernel
theorem b_list : bootBuiltins "list" = some (.type "list") := by decide +kernel
theorem b_tuple : bootBuiltins "tuple" = some (.type "tuple") := by decide +kernel
theorem b_verr : bootBuiltins "ValueError" = some (.type "ValueError") := by decide +kernel
/-- x = e at the i-th name -/
theorem sset (i : Nat) {X : Cx} {x : Str} {e : Expr} {te : TE} {pos pos' : Pos} (hN : X.N.Nodup) (he : PE X e te) (hi : X.N[i]? = some x := by rfl) (hx : Loc X.env.scope x := by first | exact Or.inl rfl | exact Or.inr rfl)
    (hs : swapsWith e (some (.Name x pos')) pos.line X.env = pure false := by rfl) (hf : X.fn x = true ∨ X.env.scope.names.lookup x = some .local := by first | exact .inl rfl | exact .inr rfl) : PS X (.Assign [.Name x pos'] e pos) (tAsg te (gName i)) :=
  ps_set (i := i) hN hi hx he hs hf
theorem a1 {X : Cx} {e : Expr} {te : TE} (h : PE X e te) (hs : starEach [e] X.env = (false, eval e X.env) :: starEach [] X.env := by rfl) : PA X [e] (tCons te tNil) := pa_cons h pa_nil hs
theorem a2 {X : Cx} {e f : Expr} {te tf : TE} (h : PE X e te) (k : PE X f tf) (hs : starEach [e, f] X.env = (false, eval e X.env) :: starEach [f] X.env := by rfl) (hs2 : starEach [f] X.env = (false, eval f X.env) :: starEach [] X.env := by rfl) : PA X [e, f] (tCons te (tCons tf tNil)) := pa_cons h (a1 k hs2) hs
theorem a3 {X : Cx} {e f g : Expr} {te tf tg : TE} (h : PE X e te) (k : PE X f tf) (l : PE X g tg) (hs : starEach [e, f, g] X.env = (false, eval e X.env) :: starEach [f, g] X.env := by rfl) (hs2 : starEach [f, g] X.env = (false, eval f X.env) :: starEach [g] X.env := by rfl)
    (hs3 : starEach [g] X.env = (false, eval g X.env) :: starEach [] X.env := by rfl) : PA X [e, f, g] (tCons te (tCons tf (tCons tg tNil))) := pa_cons h (a2 k l hs2 hs3) hs
/-- t[i], a tuple's item at a written place; xs[i] a list's -/
theorem ixT {X : Cx} {a b : Expr} {ta tb : TE} {pos : Pos} (ha : PE X a ta) (hb : PE X b tb) (hs : PlainIx b := by intro _ _; rfl) : PE X (.Subscript a b pos) (tOp (rIxT X.K) ta tb) := pe_ix ix_tup ha hb hs
theorem ixL {X : Cx} {a b : Expr} {ta tb : TE} {pos : Pos} (ha : PE X a ta) (hb : PE X b tb) (hs : PlainIx b := by intro _ _; rfl) : PE X (.Subscript a b pos) (tOp (rIxL X.K) ta tb) := pe_ix ix_list ha hb hs
theorem cmp {X : Cx} {op : CmpOp} {a b : Expr} {ta tb : TE} {pos : Pos} {r : R2} (ho : OpR X (compareOp op) r) (ha : PE X a ta) (hb : PE X b tb) (hm : behindInMarks op b = false := by rfl) : PT X (.Compare a [op] [b] pos) (tTest (tOp r ta tb)) := pt_cmpR ho ha hb hm
theorem cmpE {X : Cx} {op : CmpOp} {a b : Expr} {ta tb : TE} {pos : Pos} {r : R2} (ho : OpR X (compareOp op) r) (ha : PE X a ta) (hb : PE X b tb) (hm : behindInMarks op b = false := by rfl) : PE X (.Compare a [op] [b] pos) (tOp r ta tb) := pe_cmpR ho ha hb hm
/-- a test by a call of a def -/
theorem tval {X : Cx} {e : Expr} {t : TE} (h : PE X e t) (he : ∀ whole, isTrue e X.env whole = (do let v ← whole; standAt e.pos; holding [v] (truthy v)) := by intro _; rfl) : PT X e (tB t) := pt_val h he
theorem callB {X : Cx} {x : Str} {id : String} {p pos : Pos} {e : Expr} {es : List Expr} {r : List V → Hp → VK → Prop} {t : TA} (hv : bootBuiltins x = some (.builtin id)) (hc : CallR X (.builtin id) r) (hm : X.mg x = none) (ha : PA X (e :: es) t) (hg : Gl X x := by rfl) (hn : x ≠ "__name__" := by decide)
    (hdb : (x == ("__debug__" : Str)) = false := by decide) (he : starEach (e :: es) X.env = (false, eval e X.env) :: starEach es X.env := by rfl) (hpl : (backTo pos (starEach es X.env)).any (·.1) = false := by rfl) : PE X (.Call (.Name x p) (e :: es) [] pos) (tCB r t) :=
  pe_callB hc hg hm hv ha hn hdb he hpl
theorem callT {X : Cx} {x : Str} {T : String} {p pos : Pos} {e : Expr} {es : List Expr} {r : List V → Hp → VK → Prop} {t : TA} (hv : bootBuiltins x = some (.type T)) (hc : CallR X (.type T) r) (hm : X.mg x = none) (ha : PA X (e :: es) t) (hg : Gl X x := by rfl) (hn : x ≠ "__name__" := by decide)
    (hdb : (x == ("__debug__" : Str)) = false := by decide) (he : starEach (e :: es) X.env = (false, eval e X.env) :: starEach es X.env := by rfl) (hpl : (backTo pos (starEach es X.env)).any (·.1) = false := by rfl) : PE X (.Call (.Name x p) (e :: es) [] pos) (tCB r t) :=
  pe_callTy hc hg hm hv ha hn hdb he hpl
end L3
namespace Ma
end Ma

namespace Ma
open PySem L2 L3
/-! ### points -/
abbrev Pt := Int × Int
def pt (p : Pt) : PyData := .tuple [.int p.1, .int p.2]
theorem shp_pt (p : Pt) : shp (pt p) = true := rfl
theorem nol_pt (p : Pt) : nol (pt p) = true := rfl
theorem nols_pts : ∀ ps : List Pt, nols (ps.map pt) = true
  | [] => rfl
  | p :: ps => by simp only [List.map_cons, nols, nol_pt, nols_pts ps, Bool.and_self]
theorem shp_pts (ps : List Pt) : ∀ e ∈ ps.map pt, shp e = true := fun e h => by
  obtain ⟨p, _, rfl⟩ := List.mem_map.mp h
  exact shp_pt p
theorem eqv_pt (p q : Pt) : PyData.eqv (pt p) (pt q) = decide (p = q) := by
  obtain ⟨a, b⟩ := p
  obtain ⟨c, d⟩ := q
  simp only [pt, PyData.eqv, PyData.eqvAll, Bool.and_true]
  by_cases h1 : a = c <;> by_cases h2 : b = d <;> simp [h1, h2]
theorem any_pt (ps : List Pt) (p : Pt) : ((ps.map pt).any fun e => PyData.eqv e (pt p)) = decide (p ∈ ps) := by
  induction ps with
  | nil => rfl
  | cons q ps ih =>
    rw [List.map_cons, List.any_cons, ih, eqv_pt]
    by_cases h : q = p
    · subst h; simp
    · have h' : ¬ p = q := fun z => h z.symm
      simp [h, h']
def cell (ns : List Int) (k : Int) : Int := ns.getD k.toNat 0
def pick (xs : List Int) (i : Int) : Int := xs.getD i.toNat 0
def ptBy (a b w : Int) : Pt :=
  if w = 0 then (a % 4, b % 4)
  else if w = 1 then (a % 7 - 3, b % 3 - 1)
  else if w = 2 then (a % 2000001 - 1000000, b % 2000001 - 1000000)
  else if w = 3 then (a % 41 - 20, 3 * (a % 41 - 20) + 5 * (b % 2) + 1)
  else if w = 4 then (pick [1000000, -1000000, 0, 1000000 - 1] (a % 4), pick [1000000, -1000000, 1, b % 9] (b % 4))
  else if b % 3 = 0 then (250000 * (a % 9 - 4), 100000 * (a % 9 - 4) + 7)
  else if b % 3 = 1 then (100000 * (a % 9 - 4), 7 - 200000 * (a % 9 - 4))
  else (1000 * (a % 9 - 4), 999999 - b / 3 % 5)
/-- within the bounds -/
def InB (p : Pt) : Prop := -1000000 ≤ p.1 ∧ p.1 ≤ 1000000 ∧ -1000000 ≤ p.2 ∧ p.2 ≤ 1000000
theorem four (i : Int) : i % 4 = 0 ∨ i % 4 = 1 ∨ i % 4 = 2 ∨ i % 4 = 3 := by omega
theorem ptBy_in (a b w : Int) : InB (ptBy a b w) := by
  unfold ptBy
  split
  · unfold InB; dsimp only; omega
  split
  · unfold InB; dsimp only; omega
  split
  · unfold InB; dsimp only; omega
  split
  · unfold InB; dsimp only; omega
  split
  · unfold InB pick
    dsimp only
    rcases four a with e | e | e | e <;> rcases four b with f | f | f | f <;> rw [e, f] <;> simp <;> omega
  split
  · unfold InB; dsimp only; omega
  split
  · unfold InB; dsimp only; omega
  · unfold InB; dsimp only; omega
/-! ### a law's points -/
def addP (ps : List Pt) (p : Pt) : List Pt := if p ∈ ps then ps else ps ++ [p]
def ptsN (ns : List Int) (st w : Int) : Nat → List Pt
  | 0 => []
  | k + 1 => addP (ptsN ns st w k) (ptBy (cell ns (st + 2 * k)) (cell ns (st + 2 * k + 1)) w)
def fill (ps : List Pt) (p : Pt) : List Pt := if ps.length < 2 ∧ p ∉ ps then ps ++ [p] else ps
def ptsBy (ns : List Int) (st : Int) (n : Nat) (w : Int) : List Pt := fill (fill (ptsN ns st w n) (7, 11)) (8, 11)
def stage (ps : List Pt) : Nat → List Pt
  | 0 => ps
  | 1 => fill ps (7, 11)
  | _ => fill (fill ps (7, 11)) (8, 11)
structure Good (ps : List Pt) : Prop where
  nd : ps.Nodup
  inb : ∀ p ∈ ps, InB p
theorem Good.snoc {ps : List Pt} {p : Pt} (h : Good ps) (hp : p ∉ ps) (hb : InB p) : Good (ps ++ [p]) := by
  refine ⟨List.nodup_append.mpr ⟨h.nd, by simp, fun a ha b hb' => ?_⟩, fun q hq => ?_⟩
  · have : b = p := by simpa using hb'
    subst this
    exact fun z => hp (z ▸ ha)
  · rcases List.mem_append.mp hq with z | z
    · exact h.inb q z
    · have : q = p := by simpa using z
      subst this; exact hb
theorem addP_good {ps : List Pt} {p : Pt} (h : Good ps) (hb : InB p) : Good (addP ps p) := by
  unfold addP
  split
  · exact h
  · rename_i hp; exact h.snoc hp hb
theorem fill_good {ps : List Pt} {p : Pt} (h : Good ps) (hb : InB p) : Good (fill ps p) := by
  unfold fill
  split
  · rename_i hp; exact h.snoc hp.2 hb
  · exact h
theorem ptsN_good (ns : List Int) (st w : Int) : ∀ n, Good (ptsN ns st w n)
  | 0 => ⟨List.nodup_nil, fun _ h => nomatch h⟩
  | n + 1 => addP_good (ptsN_good ns st w n) (ptBy_in _ _ _)
theorem ptsN_len (ns : List Int) (st w : Int) : ∀ n, (ptsN ns st w n).length ≤ n
  | 0 => Nat.le_refl _
  | n + 1 => by
    have := ptsN_len ns st w n
    show (addP _ _).length ≤ n + 1
    unfold addP
    split
    · omega
    · simp only [List.length_append, List.length_singleton]; omega
theorem fill_len {ps : List Pt} {p : Pt} {m : Nat} (h : ps.length ≤ m) (hm : 2 ≤ m) : (fill ps p).length ≤ m := by
  unfold fill
  split
  · rename_i hp; simp only [List.length_append, List.length_singleton]; omega
  · exact h
theorem ptsBy_good (ns : List Int) (st : Int) (n : Nat) (w : Int) : Good (ptsBy ns st n w) :=
  fill_good (fill_good (ptsN_good ns st w n) (by unfold InB; dsimp only; omega)) (by unfold InB; dsimp only; omega)
theorem ptsBy_len (ns : List Int) (st : Int) (n : Nat) (w : Int) : (ptsBy ns st n w).length ≤ max n 2 :=
  fill_len (fill_len (Nat.le_trans (ptsN_len ns st w n) (Nat.le_max_left _ _)) (Nat.le_max_right _ _)) (Nat.le_max_right _ _)
theorem ptsBy_two (ns : List Int) (st : Int) (n : Nat) (w : Int) : 2 ≤ (ptsBy ns st n w).length := by
  unfold ptsBy
  generalize ptsN ns st w n = ps
  match ps with
  | [] => decide
  | [p] =>
    by_cases h1 : p = (7, 11)
    · subst h1; decide
    · have e1 : fill [p] (7, 11) = [p, (7, 11)] := by unfold fill; rw [if_pos ⟨by simp, by simpa using fun z => h1 z.symm⟩]; rfl
      rw [e1]; unfold fill; rw [if_neg (by simp)]; simp
  | p :: q :: r =>
    have e0 : ∀ x : Pt, fill (p :: q :: r) x = p :: q :: r := fun x => by
      unfold fill
      exact if_neg fun z => by have := z.1; simp only [List.length_cons] at this; omega
    rw [e0, e0]; simp
end Ma
namespace L3
open PySem PySem.Spec PyProof.Rows PySem.Calls L2
section
variable {X : Cx}
theorem pe_mil {j1 j2 : Nat} {p1 p2 pos : Pos} : PE X (.BinOp (.Constant (.int 10) j1 p1) .Pow (.Constant (.int 6) j2 p2) pos) (tC (.int 1000000)) := by
  intro pins s σ H Q I h
  refine pe_op op_pow pe_int pe_int pins s σ H Q I ⟨10, 6, rfl, rfl, ⟨by decide, by decide, by decide⟩, ?_⟩
  exact h
theorem pe_nmil {j1 j2 : Nat} {p1 p2 pos pos2 : Pos} : PE X (.UnaryOp .USub (.BinOp (.Constant (.int 10) j1 p1) .Pow (.Constant (.int 6) j2 p2) pos) pos2) (tC (.int (-1000000))) := by
  intro pins s σ H Q I h
  exact pe_un un_neg pe_mil pins s σ H Q I ⟨1000000, rfl, h⟩
end
theorem atI4 (a b c d : Int) {i : Int} (h : i = 0 ∨ i = 1 ∨ i = 2 ∨ i = 3) : atI [V.int a, V.int b, V.int c, V.int d] i = some (.int (Ma.pick [a, b, c, d] i)) := by
  rcases h with rfl | rfl | rfl | rfl <;> rfl
/-- (a, b) handed back -/
theorem tup2 {K : PySem.W.Frag} {H0 H : Hp} {Q : VK} {a b : Int} {p : Ma.Pt} (hs : Same H0 H) (q : ∀ v H', Same H0 H' → Den K H' (Ma.pt p) v → Q v H') (e1 : a = p.1) (e2 : b = p.2) :
    ([V.int a, V.int b] : List V).length ≤ sizeLine ∧ ∀ r, H r = none → Q (.ref r) (upd H r (.tup [.int a, .int b])) := by
  subst e1 e2
  exact ⟨by show 2 ≤ sizeLine; decide, fun r hr => q _ _ (hs.trans (same_new hr _)) (den_tup (SqT.of upd_same) (Dens.cons den_int (Dens.cons den_int Dens.nil)))⟩
end L3

namespace L3
open PySem PySem.Spec PyProof.Rows PySem.Calls L2
/-! ### isinstance of deep data, of a caught exception -/
def tyD : PyData → Value
  | .none => .type "NoneType"
  | .bool _ => .type "bool"
  | .int _ => .type "int"
  | .str _ => .type "str"
  | .list _ => .type "list"
  | .tuple _ => .type "tuple"
  | .dict _ => .type "dict"
def rIsiD (K : PySem.W.Frag) : List V → Hp → VK → Prop := fun xs H Q => ∃ x cV c d b, xs = [x, cV] ∧ (∀ u, RelV cV u → u = c) ∧ Den K H d x ∧ PySem.W.kitOne K (tyD d) c = some b ∧ Q (.bl b) H
section
variable {X : Cx}
theorem call_isiD : CallR X (.builtin "isinstance") (rIsiD X.K) := by
  intro pins s σ H xs us Q I r h
  obtain ⟨x, cV, c, d, b, rfl, hc, hd, e, q⟩ := h
  obtain ⟨u, w', rfl, r1, r2⟩ := vals2 r
  rw [hc w' r2]
  have fin : ∀ tk, EP X pins σ Q (.bool b) { s with toks := tk } := fun tk => ⟨.bl b, H, I.tok tk, rfl, q⟩
  cases d with
  | none => obtain rfl := hd.non_of; cases r1; exact PySem.W.kia_one PySem.W.kitx_none I.kIn True.intro e (fun z => nomatch z) fin
  | bool y => obtain rfl := hd.bl_of; cases r1; exact PySem.W.kia_one PySem.W.kitx_bool I.kIn True.intro e (fun z => nomatch z) fin
  | int y => obtain rfl := hd.int_of; obtain ⟨t, rfl⟩ := r1; exact PySem.W.kia_one PySem.W.kitx_int I.kIn True.intro e (fun z => nomatch z) fin
  | str y => obtain rfl := hd.str_of; obtain ⟨t, rfl⟩ := r1; exact PySem.W.kia_one PySem.W.kitx_str I.kIn True.intro e (fun z => nomatch z) fin
  | list ds =>
    obtain ⟨a, ys, rfl, h1, _⟩ := hd.lst_of
    cases r1
    obtain ⟨its, _, p, _⟩ := I.list h1
    obtain ⟨o, e1, e2, _⟩ := p.isList
    exact PySem.W.kia_one PySem.W.kitx_list I.kIn ⟨o, e1, e2⟩ e (fun z => nomatch z) fin
  | tuple ds =>
    obtain ⟨a, ys, rfl, h1, _⟩ := hd.tup_of
    cases r1
    obtain ⟨its, _, ⟨o, e1, e2, _⟩, _⟩ := I.tuple h1
    exact PySem.W.kia_one PySem.W.kitx_tuple I.kIn ⟨o, e1, e2⟩ e (fun z => nomatch z) fin
  | dict _ => simp only [Den] at hd
def rIsiE (K : PySem.W.Frag) : List V → Hp → VK → Prop := fun xs H Q => ∃ a C cV c b, xs = [.ref a, cV] ∧ (∀ u, RelV cV u → u = c) ∧ H a = some (excO a C) ∧ ExcK K C ∧ PySem.W.kitOne K (.ref C) c = some b ∧ Q (.bl b) H
theorem call_isiE : CallR X (.builtin "isinstance") (rIsiE X.K) := by
  intro pins s σ H xs us Q I r h
  obtain ⟨a, C, cV, c, b, rfl, hc, ha, FX, e, q⟩ := h
  obtain ⟨u, w', rfl, r1, r2⟩ := vals2 r
  rw [hc w' r2]
  cases r1
  obtain ⟨p, _⟩ := (show ObjOk X.prog X.w H s.heap a (excO a C) from I.hok a _ ha)
  exact PySem.W.kia_one (kitx_exc FX) I.kIn p e (fun z => nomatch z) fun tk => ⟨.bl b, H, I.tok tk, rfl, q⟩
theorem kit_ii (K : PySem.W.Frag) : PySem.W.kitOne K (.type "int") (.type "int") = some true := rfl
theorem kit_ib (K : PySem.W.Frag) : PySem.W.kitOne K (.type "int") (.type "bool") = some false := by rfl
theorem kit_tt (K : PySem.W.Frag) : PySem.W.kitOne K (.type "tuple") (.type "tuple") = some true := rfl
theorem kit_ll (K : PySem.W.Frag) : PySem.W.kitOne K (.type "list") (.type "list") = some true := rfl
end
/-- a tuple of itup -/
def itup (ms : List Int) : PyData := .tuple (ms.map .int)
theorem dens_ints {K : PySem.W.Frag} {H : Hp} : ∀ (ms : List Int), Dens K H (ms.map .int) (ms.map V.int)
  | [] => Dens.nil
  | m :: ms => Dens.cons den_int (dens_ints ms)
theorem dens_ints_of {K : PySem.W.Frag} {H : Hp} : ∀ {ms : List Int} {xs : List V}, Dens K H (ms.map .int) xs → xs = ms.map V.int
  | [], xs, h => by simpa only [List.map_nil, Dens] using h
  | m :: ms, xs, h => by
    simp only [List.map_cons, Dens] at h
    obtain ⟨x, r, rfl, h1, h2⟩ := h
    rw [h1.int_of, dens_ints_of h2]; rfl
theorem canlay_ints : ∀ ms : List Int, PyData.canLayAll0 (ms.map .int) = true
  | [] => rfl
  | m :: ms => by simp only [List.map_cons, PyData.canLayAll0, PyData.canLay0, canlay_ints ms, Bool.and_self]
theorem dep_ints : ∀ ms : List Int, PyData.depthAll (ms.map .int) = 0
  | [] => rfl
  | m :: ms => by simp only [List.map_cons, PyData.depthAll, PyData.depth, dep_ints ms, Nat.max_self]
theorem shp_ints (ms : List Int) : shp (itup ms) = true := by
  unfold shp itup
  simp only [PyData.canLay0, canlay_ints, PyData.depth, dep_ints]
  decide
theorem nols_ints : ∀ ms : List Int, nols (ms.map .int) = true
  | [] => rfl
  | m :: ms => by simp only [List.map_cons, nols, nol, nols_ints ms, Bool.and_self]
theorem nol_ints (ms : List Int) : nol (itup ms) = true := nols_ints ms
theorem eqvAll_ints : ∀ ms ns : List Int, PyData.eqvAll (ms.map .int) (ns.map .int) = decide (ms = ns)
  | [], [] => rfl
  | [], n :: ns => by simp [PyData.eqvAll]
  | m :: ms, [] => by simp [PyData.eqvAll]
  | m :: ms, n :: ns => by
    simp only [List.map_cons, PyData.eqvAll, PyData.eqv, eqvAll_ints ms ns]
    by_cases h1 : m = n <;> by_cases h2 : ms = ns <;> simp [h1, h2]
theorem eqv_ints (ms ns : List Int) : PyData.eqv (itup ms) (itup ns) = decide (ms = ns) := eqvAll_ints ms ns
end L3

namespace Ma
open PySem L2 L3
/-! ### lines -/
structure Ln where
  a : Int
  b : Int
  c : Int
  deriving DecidableEq
def ln (l : Ln) : PyData := itup [l.a, l.b, l.c]
/-- the direction is told with a above nought, or a nought and b above nought -/
def neg (a b : Int) : Prop := a < 0 ∨ (a = 0 ∧ b < 0)
instance (a b : Int) : Decidable (neg a b) := inferInstanceAs (Decidable (_ ∨ _))
def Up (a b : Int) : Prop := 0 < a ∨ (a = 0 ∧ 0 < b)
def dirA (p q : Pt) : Int := if neg (q.2 - p.2) (p.1 - q.1) then -(q.2 - p.2) else q.2 - p.2
def dirB (p q : Pt) : Int := if neg (q.2 - p.2) (p.1 - q.1) then -(p.1 - q.1) else p.1 - q.1
def dirG (p q : Pt) : Int := (Int.gcd (q.2 - p.2) (p.1 - q.1) : Nat)
def lineOf (p q : Pt) : Ln := ⟨dirA p q / dirG p q, dirB p q / dirG p q, dirA p q / dirG p q * p.1 + dirB p q / dirG p q * p.2⟩
def On (l : Ln) (p : Pt) : Prop := l.a * p.1 + l.b * p.2 = l.c
/-- told as the document tells a line -/
structure Told (l : Ln) : Prop where
  up : Up l.a l.b
  co : Int.gcd l.a l.b = 1

theorem ne_dir {p q : Pt} (h : p ≠ q) : ¬ (q.2 - p.2 = 0 ∧ p.1 - q.1 = 0) := fun z => h (by
  obtain ⟨a, b⟩ := p
  obtain ⟨c, d⟩ := q
  simp only at z
  have e1 : a = c := by omega
  have e2 : b = d := by omega
  rw [e1, e2])
theorem gcd_pos' {a b : Int} (h : ¬ (a = 0 ∧ b = 0)) : 0 < Int.gcd a b := by
  rcases Nat.eq_zero_or_pos (Int.gcd a b) with z | z
  · rw [Int.gcd_eq_zero_iff] at z
    exact absurd z h
  · exact z
theorem dirG_pos {p q : Pt} (h : p ≠ q) : 0 < dirG p q := by
  have := gcd_pos' (ne_dir h)
  unfold dirG
  omega
theorem dirG_eq (p q : Pt) : dirG p q = (Int.gcd (dirA p q) (dirB p q) : Nat) := by
  unfold dirG dirA dirB
  split
  · rw [Int.gcd_neg, Int.neg_gcd]
  · rfl
theorem g_dvd_a (p q : Pt) : dirG p q ∣ dirA p q := by rw [dirG_eq]; exact Int.gcd_dvd_left ..
theorem g_dvd_b (p q : Pt) : dirG p q ∣ dirB p q := by rw [dirG_eq]; exact Int.gcd_dvd_right ..
theorem dir_up {p q : Pt} (h : p ≠ q) : Up (dirA p q) (dirB p q) := by
  have h0 := ne_dir h
  unfold dirA dirB Up
  by_cases c : neg (q.2 - p.2) (p.1 - q.1)
  · rw [if_pos c, if_pos c]
    unfold neg at c
    omega
  · rw [if_neg c, if_neg c]
    unfold neg at c
    omega
theorem lineOf_told {p q : Pt} (h : p ≠ q) : Told (lineOf p q) := by
  have hg := dirG_pos h
  constructor
  · obtain ⟨a', ea⟩ := g_dvd_a p q
    obtain ⟨b', eb⟩ := g_dvd_b p q
    have e1 : (lineOf p q).a = a' := by show dirA p q / dirG p q = a'; rw [ea]; exact Int.mul_ediv_cancel_left _ (by omega)
    have e2 : (lineOf p q).b = b' := by show dirB p q / dirG p q = b'; rw [eb]; exact Int.mul_ediv_cancel_left _ (by omega)
    rw [e1, e2]
    have u := dir_up h
    rw [ea, eb] at u
    rcases u with u | ⟨u1, u2⟩
    · exact .inl (Int.pos_of_mul_pos_right u hg)
    · refine .inr ⟨?_, Int.pos_of_mul_pos_right u2 hg⟩
      rcases Int.mul_eq_zero.mp u1 with z | z
      · omega
      · exact z
  · show Int.gcd (dirA p q / dirG p q) (dirB p q / dirG p q) = 1
    rw [dirG_eq]
    exact Int.gcd_ediv_gcd_ediv_gcd (by have := dirG_pos h; rw [dirG_eq] at this; omega)

theorem lineOf_l (p q : Pt) : On (lineOf p q) p := rfl
theorem lineOf_r {p q : Pt} (h : p ≠ q) : On (lineOf p q) q := by
  have hg := dirG_pos h
  obtain ⟨a', ea⟩ := g_dvd_a p q
  obtain ⟨b', eb⟩ := g_dvd_b p q
  have e1 : dirA p q / dirG p q = a' := by rw [ea]; exact Int.mul_ediv_cancel_left _ (by omega)
  have e2 : dirB p q / dirG p q = b' := by rw [eb]; exact Int.mul_ediv_cancel_left _ (by omega)
  have e3 : dirA p q * (q.1 - p.1) + dirB p q * (q.2 - p.2) = 0 := by
    unfold dirA dirB
    split
    · rw [Int.neg_mul, Int.neg_mul, ← Int.neg_add, show (p.1 - q.1) = -(q.1 - p.1) by omega, Int.neg_mul, Int.mul_comm (q.2 - p.2)]; omega
    · rw [show (p.1 - q.1) = -(q.1 - p.1) by omega, Int.neg_mul, Int.mul_comm (q.2 - p.2)]; omega
  have e4 : dirG p q * (a' * (q.1 - p.1) + b' * (q.2 - p.2)) = 0 := by
    rw [Int.mul_add, ← Int.mul_assoc, ← Int.mul_assoc, ← ea, ← eb]; exact e3
  have e5 : a' * (q.1 - p.1) + b' * (q.2 - p.2) = 0 := by
    rcases Int.mul_eq_zero.mp e4 with z | z
    · omega
    · exact z
  show dirA p q / dirG p q * q.1 + dirB p q / dirG p q * q.2 = dirA p q / dirG p q * p.1 + dirB p q / dirG p q * p.2
  rw [e1, e2]
  rw [Int.mul_sub, Int.mul_sub] at e5
  omega

theorem co_dvd {a b c : Int} (h : Int.gcd a b = 1) (d : a ∣ b * c) : a ∣ c := by
  rw [← Int.natAbs_dvd_natAbs] at d ⊢
  rw [Int.natAbs_mul] at d
  exact Nat.Coprime.dvd_of_dvd_mul_left h d
theorem co_eq {a b a' b' : Int} (h1 : Int.gcd a b = 1) (h2 : Int.gcd a' b' = 1) (u1 : Up a b) (u2 : Up a' b') (e : a * b' = b * a') : a = a' ∧ b = b' := by
  have d1 : a ∣ a' := co_dvd h1 ⟨b', e.symm⟩
  have d2 : a' ∣ a := by
    have : a' ∣ b' * a := ⟨b, by rw [Int.mul_comm b' a, e, Int.mul_comm]⟩
    exact co_dvd h2 this
  have p1 : 0 ≤ a := by unfold Up at u1; omega
  have p2 : 0 ≤ a' := by unfold Up at u2; omega
  have ea : a = a' := Int.dvd_antisymm p1 p2 d1 d2
  subst ea
  refine ⟨rfl, ?_⟩
  by_cases z : a = 0
  · subst z
    rw [Int.gcd_zero_left] at h1 h2
    unfold Up at u1 u2
    omega
  · rw [Int.mul_comm b a] at e
    exact (Int.eq_of_mul_eq_mul_left z e).symm
/-- through two points goes one told line -/
theorem line_unique {l : Ln} {r s : Pt} (T : Told l) (h : r ≠ s) (h1 : On l r) (h2 : On l s) : lineOf r s = l := by
  have T2 := lineOf_told h
  have o1 := lineOf_l r s
  have o2 := lineOf_r h
  -- both directions are across s - r
  have e1 : l.a * (r.1 - s.1) = l.b * (s.2 - r.2) := by
    unfold On at h1 h2
    rw [Int.mul_sub, Int.mul_sub]; omega
  have e2 : (lineOf r s).a * (r.1 - s.1) = (lineOf r s).b * (s.2 - r.2) := by
    unfold On at o1 o2
    rw [Int.mul_sub, Int.mul_sub]; omega
  have e3 : (lineOf r s).a * l.b = (lineOf r s).b * l.a := by
    have nd := ne_dir h
    by_cases z : r.1 - s.1 = 0
    · have z2 : s.2 - r.2 ≠ 0 := fun y => nd ⟨y, z⟩
      rw [z, Int.mul_zero] at e1 e2
      rcases Int.mul_eq_zero.mp e1.symm with y | y
      · rcases Int.mul_eq_zero.mp e2.symm with x | x
        · rw [x, y, Int.mul_zero, Int.zero_mul]
        · exact absurd x z2
      · exact absurd y z2
    · refine Int.eq_of_mul_eq_mul_left z ?_
      calc (r.1 - s.1) * ((lineOf r s).a * l.b) = ((lineOf r s).a * (r.1 - s.1)) * l.b := by rw [← Int.mul_assoc, Int.mul_comm (r.1 - s.1)]
        _ = (lineOf r s).b * (s.2 - r.2) * l.b := by rw [e2]
        _ = (lineOf r s).b * (l.b * (s.2 - r.2)) := by rw [Int.mul_assoc, Int.mul_comm l.b]
        _ = (lineOf r s).b * (l.a * (r.1 - s.1)) := by rw [e1]
        _ = (r.1 - s.1) * ((lineOf r s).b * l.a) := by rw [← Int.mul_assoc, Int.mul_comm]
  obtain ⟨ea, eb⟩ := co_eq T2.co T.co T2.up T.up e3
  have ec : (lineOf r s).c = l.c := by
    unfold On at h1 o1
    rw [← h1, ← o1, ea, eb]
  have : lineOf r s = ⟨(lineOf r s).a, (lineOf r s).b, (lineOf r s).c⟩ := rfl
  rw [this, ea, eb, ec]
/-! ### sizes -/
end Ma

namespace L3
open PySem PySem.Spec PyProof.Rows PySem.Calls L2
section
variable {X : Cx}
theorem pe_ty {x : Str} {T : String} {pos : Pos} (hv : bootBuiltins x = some (.type T)) (hm : X.mg x = none) (hg : Gl X x := by rfl) (hn : x ≠ "__name__" := by decide) (hd : (x == ("__debug__" : Str)) = false := by decide) : PE X (.Name x pos) (tC (.ty T)) :=
  pe_bltn hg hm hv (v := .ty T) rfl hn hd
theorem pe_cls {x : Str} {C : Addr} {pos : Pos} (hm : X.mg x = some (.ref C)) (hg : Gl X x := by rfl) (hd : (x == ("__debug__" : Str)) = false := by decide) : PE X (.Name x pos) (tC (.ref C)) :=
  pe_glob hg hm (v := .ref C) rfl hd
end
end L3
namespace Ma
end Ma

namespace L3
open PySem PySem.Spec PyProof.Rows PySem.Calls L2
/-! ### what stands behind the top -/
section
variable {K : PySem.W.Frag} {h : Heap} {mg : Str → Option Value}
theorem src_mk {x : Str} {st : Stmt} {f : Addr} {oc : Value} {od an : Option Addr} {osl : Array (Option Value)} {kV doc pm cdv ct : Value} (X : K.In h) (G : h.Ns mainGlobals mg) (a : PySem.W.nsIn K mainGlobals x = some (some (.ref f)))
    (l : K.lookup f = some ⟨oc, od, .func (PySem.W.fnOf x x (defArgs st) (defBody st) (defScope st) .none kV doc pm an cdv ct), osl⟩) (c : PySem.W.codeIn K cdv x = true) (k : PySem.W.keepIn K (.ref f) = true) : Src K mg x st :=
  ⟨f, _, fun_mk l c k, PySem.W.mg_of X G a⟩
theorem excK_mk {C : Addr} {cd : ClassData} (ga : PySem.W.findIn K (.ref C) "__getattribute__" = some (some (.builtin "BaseException.__getattribute__"))) (na : PySem.W.findIn K (.ref C) "__getattr__" = some none)
    (cl : PySem.W.findIn K (.ref C) "__class__" = some (some (.builtin "object.__class__"))) (ob : PySem.W.mroIn K C (.type "object") = some true) (be : PySem.W.mroIn K C (.type "BaseException") = some true) (cc : PySem.W.clsIn K C = some cd) : ExcK K C :=
  ⟨ga, na, cl, ob, be, by rw [cc]; rfl⟩
theorem excC_mk {x : Str} {C : Addr} (X : K.In h) (G : h.Ns mainGlobals mg) (a : PySem.W.nsIn K mainGlobals x = some (some (.ref C))) (e : PySem.W.excIn K C bmV "ValueError.__new__" = true) : ExcC K mg x C := ⟨PySem.W.mg_of X G a, e⟩
theorem takes_mk {x : Str} {D : Addr} {cd : ClassData} (X : K.In h) (G : h.Ns mainGlobals mg) (a : PySem.W.nsIn K mainGlobals x = some (some (.ref D))) (be : PySem.W.mroIn K D (.type "BaseException") = some true) (ty : PySem.W.typeIn K (.ref D) = some (.type "type"))
    (cc : PySem.W.clsIn K D = some cd) : Takes K mg x D := ⟨PySem.W.mg_of X G a, be, ty, by rw [cc]; rfl⟩
theorem kit_mk {D C : Addr} {cd : ClassData} {b : Bool} (ne : D ≠ C) (cc : PySem.W.clsIn K C = some cd) (ty : PySem.W.typeIn K (.ref C) = some (.type "type")) (s : PySem.W.subIn K (.ref D) (.ref C) = some b) : PySem.W.kitOne K (.ref D) (.ref C) = some b := by
  unfold PySem.W.kitOne
  rw [if_neg (fun z => ne (Value.ref.inj (beq_iff_eq.mp z)))]
  unfold PySem.W.kitCls
  dsimp only
  rw [cc, ty]
  exact s
theorem kit_mkV {D : Addr} {b : Bool} (s : PySem.W.subIn K (.ref D) (.type "ValueError") = some b) : PySem.W.kitOne K (.ref D) (.type "ValueError") = some b := by
  unfold PySem.W.kitOne
  rw [if_neg (fun z => by have := beq_iff_eq.mp z; cases this)]
  unfold PySem.W.kitCls
  dsimp only
  rw [if_pos (by decide +kernel)]
  exact s
end
/-- the law's own def, at its address -/
theorem law_at {P : Program} {w : World} {K : PySem.W.Frag} {mg : Str → Option Value} {fa : Addr} {st : Stmt} {k : Nat} {sp : Sp} (S : Src K mg "law" st) (hfa : mg "law" = some (.ref fa))
    (hb : ∀ (kV doc pm : Value) (an : Option Addr) (cdv ct : Value) (u : Value), bindArgs (PySem.W.fnOf "law" "law" (defArgs st) (defBody st) (defScope st) .none kV doc pm an cdv ct) ⟨[u], []⟩ = pure [(("script" : Str), u)])
    (ok : ∀ (base : Heap) f fd, Fun K "law" "law" st f fd → FnOk P w K mg base (CXE P w) k f fd ["script"] sp) :
    ∃ fd : FuncData, (∀ (s : Shared) (v : Value), BindsTo s fd ⟨[v], []⟩ [("script", v)]) ∧ ∀ base : Heap, K.In base → base.Ns mainGlobals mg → FnOk P w K mg base (CXE P w) k fa fd ["script"] sp := by
  obtain ⟨f, fd, F, e⟩ := S
  have z := e.symm.trans hfa
  cases z
  obtain ⟨oc, od, kV, doc, pm, an, cdv, ct, osl, rfl, lk, hcd⟩ := id F.ex
  exact ⟨_, fun s v => .of_eq (hb kV doc pm an cdv ct v), fun base _ _ => ok base _ _ F⟩
theorem cxe_no {P : Program} {w : World} {o : List Env} {H : Hp} {s : Shared} {e : Value} {s' : Shared} (h : CXE P w o H s (fun _ _ _ => False) e s') : False := by
  obtain ⟨_, _, _, _, _, _, f, _⟩ := h
  exact f
end L3

namespace Ma
open PySem L2 L3
/-! ### sizes of products -/
/-- a line whose numbers are within the bounds of lines through points -/
structure LB (l : Ln) : Prop where
  a : -2000000 ≤ l.a ∧ l.a ≤ 2000000
  b : -2000000 ≤ l.b ∧ l.b ≤ 2000000
  c : -4000000000000 ≤ l.c ∧ l.c ≤ 4000000000000
instance onDec (l : Ln) (p : Pt) : Decidable (On l p) := inferInstanceAs (Decidable (_ = _))
def off (l : Ln) (p : Pt) : Int := l.a * p.1 + l.b * p.2 - l.c
theorem off_on {l : Ln} {p : Pt} : off l p = 0 ↔ On l p := by unfold off On; omega
def nn (l : Ln) : Int := l.a * l.a + l.b * l.b
theorem sq_nn (a : Int) : 0 ≤ a * a := by
  rcases Int.le_total 0 a with h | h
  · exact Int.mul_nonneg h h
  · have := Int.mul_nonneg (show 0 ≤ -a by omega) (show 0 ≤ -a by omega)
    rwa [Int.neg_mul_neg] at this
theorem sq_pos {a : Int} (h : a ≠ 0) : 0 < a * a := by
  have := sq_nn a
  have : a * a ≠ 0 := fun z => h (by rcases Int.mul_eq_zero.mp z with z | z <;> exact z)
  omega
theorem nn_pos {l : Ln} (u : Up l.a l.b) : 0 < nn l := by
  have h1 := sq_nn l.a
  have h2 := sq_nn l.b
  unfold nn
  rcases u with u | ⟨_, u⟩
  · have := sq_pos (a := l.a) (by omega); omega
  · have := sq_pos (a := l.b) (by omega); omega
/-! ### fractions in lowest terms -/
def gc (t b : Int) : Int := (Int.gcd t b : Nat)
def frac (t b : Int) : List Int := if b < 0 then [-(t / gc t b), -(b / gc t b)] else [t / gc t b, b / gc t b]
theorem gc_pos {t b : Int} (h : b ≠ 0) : 0 < gc t b := by
  have := gcd_pos' (a := t) (b := b) (fun z => h z.2)
  unfold gc; omega
theorem gc_l (t b : Int) : gc t b ∣ t := Int.gcd_dvd_left ..
theorem gc_r (t b : Int) : gc t b ∣ b := Int.gcd_dvd_right ..
theorem frac_pos {t b : Int} (h : 0 < b) : frac t b = [t / gc t b, b / gc t b] := by
  unfold frac; rw [if_neg (by omega)]
theorem frac_zero {b : Int} (h : 0 < b) : frac 0 b = [0, 1] := by
  rw [frac_pos h]
  have e : gc 0 b = b := by unfold gc; rw [Int.gcd_zero_left]; omega
  rw [e, Int.zero_ediv, Int.ediv_self (by omega)]
theorem frac_nought {t b : Int} (h : 0 < b) : frac t b = [0, 1] ↔ t = 0 := by
  constructor
  · intro e
    rw [frac_pos h] at e
    have e1 : t / gc t b = 0 := by injection e
    obtain ⟨k, hk⟩ := gc_l t b
    have e2 : t / gc t b = k := by
      have := gc_pos (t := t) (b := b) (by omega)
      calc t / gc t b = (gc t b * k) / gc t b := by rw [← hk]
        _ = k := Int.mul_ediv_cancel_left _ (by omega)
    rw [hk, ← e2, e1, Int.mul_zero]
  · rintro rfl; exact frac_zero h
def gapOf (l : Ln) (p : Pt) : List Int := frac (off l p * off l p) (nn l)
theorem gap_nought {l : Ln} {p : Pt} (u : Up l.a l.b) : gapOf l p = [0, 1] ↔ On l p := by
  unfold gapOf
  rw [frac_nought (nn_pos u), ← off_on]
  constructor
  · intro z; rcases Int.mul_eq_zero.mp z with z | z <;> exact z
  · intro z; rw [z]; rfl
end Ma

namespace L3
open PySem PySem.Spec PyProof.Rows PySem.Calls L2
/-! ### the same rules with the written part named (for a comprehension's block) -/
section
variable {X : Cx} (K : PySem.W.Frag)
end
def SubAll (cells : List (Str × Addr)) : List (Str × Addr) → Prop
  | [] => True
  | y :: r => cells.lookup y.1 = some y.2 ∧ SubAll cells r
theorem subAll_mem {cells : List (Str × Addr)} : ∀ {cl : List (Str × Addr)}, SubAll cells cl → ∀ y ∈ cl, cells.lookup y.1 = some y.2
  | [], _, _, h => nomatch h
  | y :: r, ⟨h1, h2⟩, z, h => by
    rcases List.mem_cons.mp h with e | h
    · subst e; exact h1
    · exact subAll_mem h2 z h
theorem compS_mk {X : Cx} {scope : Scope} {cl : List (Str × Addr)} {tgs : List Str} {caps : List (Str × Nat)} (k : scope.kind = .function) (c : scope.names.all (fun y => y.2 != .cell) = true) (l : scope.names.all (fun y => y.2 != .local || (scope.names.lookup y.1 == some .local)) = true)
    (clos : closureFor scope X.env = pure cl) (sub : SubAll X.env.cells cl) (has : (relabel scope X.env).names.all (fun y => (y.2 != .cell && y.2 != .free) || (cl.lookup y.1).isSome) = true)
    (cap : caps.all (fun c => X.N[c.2]? == some c.1 && X.env.scope.names.lookup c.1 == some .cell && (relabel scope X.env).names.lookup c.1 == some .cell) = true) : CompS X scope cl tgs caps where
  kind := k
  nocell := fun y hy e => by
    have z := List.all_eq_true.mp c y hy
    rw [e] at z; exact absurd z (by decide)
  locs := fun y hy e => by
    have z := List.all_eq_true.mp l y hy
    rw [e] at z
    simpa using z
  clos := clos
  sub := fun x c e => subAll_mem sub (x, c) (PySem.mem_of_lookup e)
  has := fun x e => by
    rcases e with e | e
    · have z := List.all_eq_true.mp has _ (PySem.mem_of_lookup e)
      exact Option.isSome_iff_exists.mp (by simpa using z)
    · have z := List.all_eq_true.mp has _ (PySem.mem_of_lookup e)
      exact Option.isSome_iff_exists.mp (by simpa using z)
  cap := fun c hc => by
    have z := List.all_eq_true.mp cap c hc
    simp only [Bool.and_eq_true, beq_iff_eq] at z
    exact ⟨z.1.1, z.1.2, z.2⟩
end L3

namespace L3
open PySem PySem.Spec PyProof.Rows PySem.Calls L2
section
variable {X : Cx}
/-- max of a list of ints -/
def rMaxL (K : PySem.W.Frag) : List V → Hp → VK → Prop := fun xs H Q => ∃ (p : Addr) (ns : List Int), xs = [.ref p] ∧ SqL K H p (ns.map V.int) ∧ 0 < ns.length ∧ ∀ M, M ∈ ns → (∀ a ∈ ns, a ≤ M) → Q (.int M) H
end
end L3
namespace L3
open PySem L2
/-- a comprehension without a test -/
def tYes : TT := fun _ H Q => Q true H
theorem yesT {i : Nat} {v : V} {σ : L2.St} {H : Hp} {A B : L2.St → Hp → Prop} (h : A (σ.set i (some v)) H) : gName i v σ H fun σ2 H3 => tYes σ2 H3 fun b H4 => if b = true then A σ2 H4 else B σ2 H4 := by
  show if true = true then A (σ.set i (some v)) H else B (σ.set i (some v)) H
  exact iteT h
theorem iteD {c A B : Prop} [Decidable c] (hc : ¬ c) (h : B) : if decide c = true then A else B := by
  rw [decide_eq_false hc]; exact iteF h
theorem iteDT {c A B : Prop} [Decidable c] (hc : c) (h : A) : if decide c = true then A else B := by
  rw [decide_eq_true hc]; exact iteT h
end L3
namespace Ma
open PySem L2 L3
theorem nol_ln (l : Ln) : nol (ln l) = true := nol_ints _
end Ma

namespace Ma
/-! ### two lines -/
def det (l m : Ln) : Int := l.a * m.b - l.b * m.a
def detX (l m : Ln) : Int := l.c * m.b - l.b * m.c
def detY (l m : Ln) : Int := l.a * m.c - l.c * m.a
/-- a fraction's parts, in lowest terms -/
theorem frac_parts {t b : Int} (h : b ≠ 0) : ∃ x y, frac t b = [x, y] ∧ 0 < y ∧ x * b = t * y ∧ y ≤ b.natAbs ∧ Int.gcd x y = 1 := by
  have g0 := gc_pos (t := t) h
  obtain ⟨k, hk⟩ := gc_l t b
  obtain ⟨j, hj⟩ := gc_r t b
  have e1 : t / gc t b = k := by
    calc t / gc t b = (gc t b * k) / gc t b := by rw [← hk]
      _ = k := Int.mul_ediv_cancel_left _ (by omega)
  have e2 : b / gc t b = j := by
    calc b / gc t b = (gc t b * j) / gc t b := by rw [← hj]
      _ = j := Int.mul_ediv_cancel_left _ (by omega)
  have co : Int.gcd k j = 1 := by
    rw [← e1, ← e2]
    exact Int.gcd_ediv_gcd_ediv_gcd (by unfold gc at g0; omega)
  have j0 : j ≠ 0 := fun z => h (by rw [hj, z, Int.mul_zero])
  have hab : j.natAbs ≤ b.natAbs := by
    have e3 : b.natAbs = (gc t b).natAbs * j.natAbs := by rw [← Int.natAbs_mul, ← hj]
    rw [e3]
    exact Nat.le_mul_of_pos_left _ (by omega)
  unfold frac
  generalize gc t b = g at *
  by_cases c : b < 0
  · rw [if_pos c]
    have jn : j < 0 := by
      rcases Int.lt_or_le j 0 with z | z
      · exact z
      · have := Int.mul_nonneg (Int.le_of_lt g0) z; omega
    refine ⟨-k, -j, by rw [← e1, ← e2], by omega, ?_, by omega, by rw [Int.gcd_neg, Int.neg_gcd]; exact co⟩
    rw [hk, hj]; grind
  · rw [if_neg c]
    have jp : 0 < j := by
      rcases Int.lt_or_le j 0 with z | z
      · have := Int.mul_neg_of_pos_of_neg g0 z; omega
      · omega
    refine ⟨k, j, by rw [← e1, ← e2], jp, ?_, by omega, co⟩
    rw [hk, hj]; grind
end Ma

namespace Tw
open PySem L2 L3
def spGcd : Sp := fun vs H Q _ => ∃ a b : Int, vs = [.int a, .int b] ∧ Q (.int ((Int.gcd a b : Nat) : Int)) H
def spLine (K : PySem.W.Frag) : Sp := fun vs H Q _ => ∃ (u v : V) (p q : Ma.Pt), vs = [u, v] ∧ Den K H (Ma.pt p) u ∧ Den K H (Ma.pt q) v ∧ p ≠ q ∧ Ma.InB p ∧ Ma.InB q ∧ ∀ r H', Same H H' → Den K H' (Ma.ln (Ma.lineOf p q)) r → Q r H'
def spLineT (K : PySem.W.Frag) : Sp := fun vs H Q _ => ∃ (u v : V) (p q : Ma.Pt), vs = [u, v] ∧ Den K H (Ma.pt p) u ∧ Den K H (Ma.pt q) v ∧ p ≠ q ∧ Ma.InB p ∧ Ma.InB q ∧
  ∀ r H', Same H H' → H' r = some (.tup [.int (Ma.lineOf p q).a, .int (Ma.lineOf p q).b, .int (Ma.lineOf p q).c]) → Q (.ref r) H'
theorem pt_of {K : PySem.W.Frag} {H : Hp} {p : Ma.Pt} {v : V} (h : Den K H (Ma.pt p) v) : ∃ a, v = .ref a ∧ SqT K H a [.int p.1, .int p.2] := by
  obtain ⟨a, xs, rfl, h1, h2⟩ := h.tup_of
  obtain ⟨x, y, rfl, h3, h4⟩ := h2.two
  rw [h3.int_of, h4.int_of] at h1
  exact ⟨a, rfl, h1⟩
def spOn (K : PySem.W.Frag) : Sp := fun vs H Q _ => ∃ (u v : V) (l : Ma.Ln) (p : Ma.Pt), vs = [u, v] ∧ Den K H (Ma.ln l) u ∧ Den K H (Ma.pt p) v ∧ Ma.LB l ∧ Ma.InB p ∧ Q (.bl (decide (Ma.On l p))) H
def spGap (K : PySem.W.Frag) : Sp := fun vs H Q _ => ∃ (u v : V) (l : Ma.Ln) (p : Ma.Pt), vs = [u, v] ∧ Den K H (Ma.ln l) u ∧ Den K H (Ma.pt p) v ∧ Ma.LB l ∧ Ma.Up l.a l.b ∧ Ma.InB p ∧ ∀ r H', Same H H' → Den K H' (itup (Ma.gapOf l p)) r → Q r H'
/-- the line through two points; one point twice is refused with the class at cS -/
def spLineOf (K : PySem.W.Frag) (cS : Addr) : Sp := fun vs H Q E => ∃ (u v : V) (p q : Ma.Pt), vs = [u, v] ∧ Den K H (Ma.pt p) u ∧ Den K H (Ma.pt q) v ∧ Ma.InB p ∧ Ma.InB q ∧
  (p ≠ q → ∀ r H', Same H H' → Den K H' (Ma.ln (Ma.lineOf p q)) r → Q r H') ∧ (p = q → E (.ref cS) none H)
end Tw

namespace Ma
/-! ### the least gap: its line has just two of the points on it -/
/-- the place along a line's direction -/
def tc (l : Ln) (p : Pt) : Int := l.a * p.2 - l.b * p.1
theorem dir_sq (p q : Pt) : ∃ s : Int, s * s = 1 ∧ dirA p q = s * (q.2 - p.2) ∧ dirB p q = s * (p.1 - q.1) := by
  unfold dirA dirB
  split
  · exact ⟨-1, rfl, by omega, by omega⟩
  · exact ⟨1, rfl, by omega, by omega⟩
theorem line_g {p q : Pt} (h : p ≠ q) : (lineOf p q).a * dirG p q = dirA p q ∧ (lineOf p q).b * dirG p q = dirB p q := by
  have e1 : (lineOf p q).a = dirA p q / dirG p q := rfl
  have e2 : (lineOf p q).b = dirB p q / dirG p q := rfl
  rw [e1, e2]
  exact ⟨Int.ediv_mul_cancel (g_dvd_a p q), Int.ediv_mul_cancel (g_dvd_b p q)⟩
theorem mul_lt_l {a b c : Int} (h : 0 < c) : a < b ↔ c * a < c * b := ⟨fun z => Int.mul_lt_mul_of_pos_left z h, fun z => Int.lt_of_mul_lt_mul_left z (Int.le_of_lt h)⟩
theorem tc_inj {l : Ln} {a b : Pt} (u : Up l.a l.b) (ha : On l a) (hb : On l b) (h : tc l a = tc l b) : a = b := by
  have n := nn_pos u
  unfold On at ha hb
  unfold tc at h
  unfold nn at n
  have e1 : (l.a * l.a + l.b * l.b) * (a.1 - b.1) = 0 := by grind
  have e2 : (l.a * l.a + l.b * l.b) * (a.2 - b.2) = 0 := by grind
  have f1 : a.1 - b.1 = 0 := by rcases Int.mul_eq_zero.mp e1 with z | z <;> omega
  have f2 : a.2 - b.2 = 0 := by rcases Int.mul_eq_zero.mp e2 with z | z <;> omega
  obtain ⟨a1, a2⟩ := a
  obtain ⟨b1, b2⟩ := b
  simp only at f1 f2
  rw [show a1 = b1 by omega, show a2 = b2 by omega]
theorem ring1 {A B C ax ay bx b_y px py : Int} (ha : A * ax + B * ay = C) (hb : A * bx + B * b_y = C) :
    (A * A + B * B) * ((b_y - py) * (ax - px) - (bx - px) * (ay - py)) = (A * px + B * py - C) * ((A * ay - B * ax - (A * py - B * px)) - (A * b_y - B * bx - (A * py - B * px))) := by
  subst ha
  have e : A * (bx - ax) = B * (ay - b_y) := by grind
  grind
theorem ring2 {A B C bx b_y px py : Int} (hb : A * bx + B * b_y = C) :
    (A * A + B * B) * ((b_y - py) * (b_y - py) + (bx - px) * (bx - px)) = (A * px + B * py - C) * (A * px + B * py - C) + (A * b_y - B * bx - (A * py - B * px)) * (A * b_y - B * bx - (A * py - B * px)) := by
  subst hb; grind
theorem ring3 {ma mb mc g s ax ay bx b_y px py : Int} (l1 : ma * g = s * (b_y - py)) (l2 : mb * g = s * (px - bx)) (hc : ma * px + mb * py = mc) :
    (ma * ax + mb * ay - mc) * g = s * ((b_y - py) * (ax - px) - (bx - px) * (ay - py)) := by
  subst hc; grind
theorem ring4 {ma mb g s bx b_y px py : Int} (hs : s * s = 1) (l1 : ma * g = s * (b_y - py)) (l2 : mb * g = s * (px - bx)) :
    (ma * ma + mb * mb) * (g * g) = (b_y - py) * (b_y - py) + (bx - px) * (bx - px) := by
  have e : (ma * ma + mb * mb) * (g * g) = (ma * g) * (ma * g) + (mb * g) * (mb * g) := by grind
  rw [e, l1, l2]; grind
/-- a between the foot of p and b: a is nearer to the line through p and b than p is to l -/
theorem kelly {l : Ln} {p a b : Pt} (T : Told l) (hp : ¬ On l p) (ha : On l a) (hb : On l b) (hab : a ≠ b)
    (hu : (tc l a - tc l p) * (tc l a - tc l p) ≤ (tc l a - tc l p) * (tc l b - tc l p)) :
    p ≠ b ∧ ¬ On (lineOf p b) a ∧ off (lineOf p b) a * off (lineOf p b) a * nn l < off l p * off l p * nn (lineOf p b) := by
  have hpb : p ≠ b := fun z => hp (z ▸ hb)
  have N := nn_pos T.up
  have hh : off l p ≠ 0 := fun z => hp (off_on.mp z)
  have hne : tc l a ≠ tc l b := fun z => hab (tc_inj T.up ha hb z)
  have g0 := dirG_pos hpb
  obtain ⟨s, hs, d1, d2⟩ := dir_sq p b
  obtain ⟨l1, l2⟩ := line_g hpb
  have hc := lineOf_l p b
  generalize lineOf p b = m at *
  generalize dirG p b = g at *
  have m1 : off m a * g = s * ((b.2 - p.2) * (a.1 - p.1) - (b.1 - p.1) * (a.2 - p.2)) := by
    exact ring3 (l1.trans d1) (l2.trans d2) hc
  have m2 : nn m * (g * g) = (b.2 - p.2) * (b.2 - p.2) + (b.1 - p.1) * (b.1 - p.1) := by
    exact ring4 hs (l1.trans d1) (l2.trans d2)
  have k1 : nn l * ((b.2 - p.2) * (a.1 - p.1) - (b.1 - p.1) * (a.2 - p.2)) = off l p * ((tc l a - tc l p) - (tc l b - tc l p)) := by
    exact ring1 ha hb
  have k2 : nn l * ((b.2 - p.2) * (b.2 - p.2) + (b.1 - p.1) * (b.1 - p.1)) = off l p * off l p + (tc l b - tc l p) * (tc l b - tc l p) := by
    exact ring2 hb
  have hne' : tc l a - tc l p ≠ tc l b - tc l p := by omega
  clear hne
  generalize tc l a - tc l p = x at *
  generalize tc l b - tc l p = y at *
  generalize off l p = h at *
  generalize nn l = n at *
  generalize (b.2 - p.2) * (a.1 - p.1) - (b.1 - p.1) * (a.2 - p.2) = c at *
  generalize (b.2 - p.2) * (b.2 - p.2) + (b.1 - p.1) * (b.1 - p.1) = d at *
  have s0 : s ≠ 0 := fun z => by rw [z] at hs; exact absurd hs (by decide)
  refine ⟨hpb, fun z => ?_, ?_⟩
  · have z0 : off m a = 0 := off_on.mpr z
    rw [z0, Int.zero_mul] at m1
    have c0 : c = 0 := by
      rcases Int.mul_eq_zero.mp m1.symm with w | w
      · exact absurd w s0
      · exact w
    rw [c0, Int.mul_zero] at k1
    rcases Int.mul_eq_zero.mp k1.symm with w | w
    · exact hh w
    · exact hne' (by omega)
  · generalize off m a = o at *
    generalize nn m = k at *
    have gg : 0 < g * g := Int.mul_pos g0 g0
    have h2 : 0 < h * h := sq_pos hh
    rw [mul_lt_l gg, mul_lt_l N]
    have e1 : n * (g * g * (o * o * n)) = (n * c) * (n * c) := by grind
    have e2 : n * (g * g * (h * h * k)) = h * h * (n * d) := by grind
    rw [e1, e2, k1, k2]
    have e3 : h * (x - y) * (h * (x - y)) = h * h * ((x - y) * (x - y)) := by grind
    rw [e3, ← mul_lt_l h2]
    have e4 : (x - y) * (x - y) = y * y - 2 * (x * y) + x * x := by grind
    have := sq_nn x
    rw [e4]
    omega
end Ma

namespace Ma
/-! ### the points' lines -/
def IsL (ps : List Pt) (l : Ln) : Prop := ∃ p ∈ ps, ∃ q ∈ ps, p ≠ q ∧ l = lineOf p q
def onP (l : Ln) (ps : List Pt) : List Pt := ps.filter fun p => decide (On l p)
def Col (ps : List Pt) : Prop := ∃ l : Ln, Told l ∧ ∀ p ∈ ps, On l p
theorem mem_onP {l : Ln} {ps : List Pt} {p : Pt} : p ∈ onP l ps ↔ p ∈ ps ∧ On l p := by
  unfold onP; rw [List.mem_filter, decide_eq_true_iff]
theorem IsL.told {ps : List Pt} {l : Ln} (h : IsL ps l) : Told l := by
  obtain ⟨p, _, q, _, ne, rfl⟩ := h; exact lineOf_told ne
theorem IsL.mono {ps qs : List Pt} {l : Ln} (h : IsL ps l) (s : ∀ p ∈ ps, p ∈ qs) : IsL qs l := by
  obtain ⟨p, hp, q, hq, ne, e⟩ := h; exact ⟨p, s p hp, q, s q hq, ne, e⟩
theorem IsL.of {ps : List Pt} {l : Ln} (T : Told l) {p q : Pt} (hp : p ∈ ps) (hq : q ∈ ps) (h : p ≠ q) (h1 : On l p) (h2 : On l q) : IsL ps l :=
  ⟨p, hp, q, hq, h, (line_unique T h h1 h2).symm⟩
/-! ### lists without a member twice -/
theorem sub_len {α : Type} [DecidableEq α] : ∀ {l m : List α}, l.Nodup → (∀ x ∈ l, x ∈ m) → l.length ≤ m.length
  | [], m, _, _ => Nat.zero_le _
  | x :: l, m, nd, s => by
    have hx : x ∈ m := s x (by simp)
    have nd' := List.nodup_cons.mp nd
    have := sub_len (m := m.erase x) nd'.2 fun y hy => by
      have ne : y ≠ x := fun z => nd'.1 (z ▸ hy)
      exact (List.mem_erase_of_ne ne).mpr (s y (List.mem_cons_of_mem _ hy))
    rw [List.length_erase_of_mem hx] at this
    have h0 : 0 < m.length := List.length_pos_of_mem hx
    simp only [List.length_cons]; omega
theorem three_of {α : Type} {l : List α} (nd : l.Nodup) (h : 3 ≤ l.length) : ∃ a b c, a ∈ l ∧ b ∈ l ∧ c ∈ l ∧ a ≠ b ∧ a ≠ c ∧ b ≠ c := by
  match l, nd, h with
  | a :: b :: c :: r, nd, _ =>
    simp only [List.nodup_cons, List.mem_cons, not_or] at nd
    exact ⟨a, b, c, by simp, by simp, by simp, nd.1.1, nd.1.2.1, nd.2.1.1⟩
theorem two_in {α : Type} [DecidableEq α] {l : List α} {a b : α} (ha : a ∈ l) (hb : b ∈ l) (h : a ≠ b) : 2 ≤ l.length := by
  have := sub_len (l := [a, b]) (m := l) (by simp [h]) (by simp [ha, hb])
  simpa using this
/-! ### of three numbers two are so -/
theorem pick3 {x y z : Int} (h1 : x ≠ y) (h2 : x ≠ z) (h3 : y ≠ z) : x * x ≤ x * y ∨ y * y ≤ y * x ∨ x * x ≤ x * z ∨ z * z ≤ z * x ∨ y * y ≤ y * z ∨ z * z ≤ z * y := by
  have k : ∀ {u v : Int}, 0 ≤ u → u ≤ v → u * u ≤ u * v := fun a b => Int.mul_le_mul_of_nonneg_left b a
  have k' : ∀ {u v : Int}, u ≤ 0 → v ≤ u → u * u ≤ u * v := fun a b => Int.mul_le_mul_of_nonpos_left a b
  have pr : ∀ {u v : Int}, 0 ≤ u → 0 ≤ v → u * u ≤ u * v ∨ v * v ≤ v * u := fun {u v} a b => by
    rcases Int.le_total u v with c | c
    · exact .inl (k a c)
    · exact .inr (k b c)
  have pr' : ∀ {u v : Int}, u ≤ 0 → v ≤ 0 → u * u ≤ u * v ∨ v * v ≤ v * u := fun {u v} a b => by
    rcases Int.le_total u v with c | c
    · exact .inr (k' b c)
    · exact .inl (k' a c)
  rcases Int.le_total 0 x with a | a <;> rcases Int.le_total 0 y with b | b <;> rcases Int.le_total 0 z with c | c
  · rcases pr a b with w | w <;> simp [w]
  · rcases pr a b with w | w <;> simp [w]
  · rcases pr a c with w | w <;> simp [w]
  · rcases pr' b c with w | w <;> simp [w]
  · rcases pr b c with w | w <;> simp [w]
  · rcases pr' a c with w | w <;> simp [w]
  · rcases pr' a b with w | w <;> simp [w]
  · rcases pr' a b with w | w <;> simp [w]
/-- the gap of (m, q) is less than that of (l, p) -/
def GLt (m : Ln) (q : Pt) (l : Ln) (p : Pt) : Prop := off m q * off m q * nn l < off l p * off l p * nn m
instance (m : Ln) (q : Pt) (l : Ln) (p : Pt) : Decidable (GLt m q l p) := inferInstanceAs (Decidable (_ < _))
/-- the least gap's line has just two of the points on it -/
theorem least_two {ps : List Pt} (nd : ps.Nodup) {l : Ln} {p : Pt} (hl : IsL ps l) (hp : p ∈ ps) (hno : ¬ On l p)
    (hmin : ∀ m q, IsL ps m → q ∈ ps → ¬ On m q → ¬ GLt m q l p) : (onP l ps).length = 2 := by
  have T := hl.told
  have ndo : (onP l ps).Nodup := nd.sublist List.filter_sublist
  have h2 : 2 ≤ (onP l ps).length := by
    obtain ⟨a, ha, b, hb, ne, rfl⟩ := hl
    exact two_in (mem_onP.mpr ⟨ha, lineOf_l a b⟩) (mem_onP.mpr ⟨hb, lineOf_r ne⟩) ne
  have no : ∀ a b, a ∈ onP l ps → b ∈ onP l ps → a ≠ b → ¬ (tc l a - tc l p) * (tc l a - tc l p) ≤ (tc l a - tc l p) * (tc l b - tc l p) := fun a b ha hb ne h => by
    obtain ⟨a1, a2⟩ := mem_onP.mp ha
    obtain ⟨b1, b2⟩ := mem_onP.mp hb
    obtain ⟨k1, k2, k3⟩ := kelly T hno a2 b2 ne h
    exact hmin (lineOf p b) a ⟨p, hp, b, b1, k1, rfl⟩ a1 k2 k3
  rcases Nat.lt_or_ge 2 (onP l ps).length with h3 | h3
  · exfalso
    obtain ⟨a, b, c, ha, hb, hc, ab, ac, bc⟩ := three_of ndo h3
    have d : ∀ {x y : Pt}, x ∈ onP l ps → y ∈ onP l ps → x ≠ y → tc l x - tc l p ≠ tc l y - tc l p := fun hx hy ne z =>
      ne (tc_inj T.up (mem_onP.mp hx).2 (mem_onP.mp hy).2 (by omega))
    rcases pick3 (d ha hb ab) (d ha hc ac) (d hb hc bc) with w | w | w | w | w | w
    · exact no a b ha hb ab w
    · exact no b a hb ha ab.symm w
    · exact no a c ha hc ac w
    · exact no c a hc ha ac.symm w
    · exact no b c hb hc bc w
    · exact no c b hc hb bc.symm w
  · omega
/-! ### a least one is there -/
/-- all pairs of a line of the points and a point that doesn't lie on it -/
def allPairs (ps : List Pt) : List (Ln × Pt) :=
  (ps.flatMap fun p => ps.flatMap fun q => if p ≠ q then ps.filterMap fun r => if On (lineOf p q) r then none else some (lineOf p q, r) else [])
/-! ### at least as many lines as points -/
theorem IsL.perm {ps qs : List Pt} (h : ∀ p, p ∈ ps ↔ p ∈ qs) {l : Ln} : IsL ps l ↔ IsL qs l := ⟨fun z => z.mono fun p hp => (h p).mp hp, fun z => z.mono fun p hp => (h p).mpr hp⟩
end Ma

namespace TS
open PySem PyProof.Rows

/-- the rank at a place -/
def R (rk : Keyed → Int) (xs : Array Keyed) (i : Nat) : Int := match xs[i]? with
  | some p => rk p
  | none => 0
/-- rising from a to b -/
def Srt (rk : Keyed → Int) (xs : Array Keyed) (a b : Nat) : Prop := ∀ i j, a ≤ i → i ≤ j → j < b → R rk xs i ≤ R rk xs j
def Fal (rk : Keyed → Int) (xs : Array Keyed) (a b : Nat) : Prop := ∀ i j, a ≤ i → i ≤ j → j < b → R rk xs j ≤ R rk xs i
def AllG (G : Keyed → Prop) (xs : Array Keyed) : Prop := ∀ p ∈ xs.toList, G p
theorem AllG.at {G : Keyed → Prop} {xs : Array Keyed} (h : AllG G xs) {i : Nat} {p : Keyed} (e : xs[i]? = some p) : G p := by
  refine h p ?_
  have := Array.mem_of_getElem? e
  exact Array.mem_toList_iff.mpr this
theorem AllG.perm {G : Keyed → Prop} {xs ys : Array Keyed} (h : AllG G xs) (p : ys.Perm xs) : AllG G ys := fun x hx =>
  h x ((Array.perm_iff_toList_perm.mp p).mem_iff.mp hx)
theorem get_of_lt {xs : Array Keyed} {i : Nat} (h : i < xs.size) : ∃ p, xs[i]? = some p := ⟨xs[i], getElem?_pos xs i h⟩
theorem R_some {rk : Keyed → Int} {xs : Array Keyed} {i : Nat} {p : Keyed} (e : xs[i]? = some p) : R rk xs i = rk p := by unfold R; rw [e]

structure Cm (prog : Program) (w : World) (A : Around) (E : Value → Shared → Prop) (s : Shared) (κ : SortKind) (G : Keyed → Prop) (rk : Keyed → Int) : Prop where
  lt : ∀ (x y : Keyed) (st : SortSt) (Q : Option Bool → SortSt → Prop), G x → G y → kindOf st = κ → Q (some (decide (rk x < rk y))) st → wpS (model prog w) A E s (lt' x y) Q st
/-- the state's fixed part -/
structure B (κ : SortKind) (a₀ : Array Keyed) (st : SortSt) : Prop where
  perm : (arrOf st).Perm a₀
  kind : kindOf st = κ
  failed : failedOf st = none
theorem B.size {κ : SortKind} {a₀ : Array Keyed} {st : SortSt} (h : B κ a₀ st) : (arrOf st).size = a₀.size := h.perm.size_eq
theorem B.setArr {κ : SortKind} {a₀ : Array Keyed} {st : SortSt} (h : B κ a₀ st) {xs : Array Keyed} (hp : xs.Perm (arrOf st)) : B κ a₀ (setArr st xs) := ⟨hp.trans h.perm, h.kind, h.failed⟩

section
variable {prog : Program} {w : World} {A : Around} {E : Value → Shared → Prop} {s : Shared} {κ : SortKind} {G : Keyed → Prop} {rk : Keyed → Int} {a₀ : Array Keyed}
theorem reverse {st : SortSt} {i j : Nat} {Q : Unit → SortSt → Prop} (h : Q () (setArr st (mirror (arrOf st) i j ((j - i) / 2)))) :
    wpS (model prog w) A E s (reverseSlice' i j) Q st := by
  rw [reverseSlice'_eq]; exact wpS_modify h
/-- what lies ahead of lo stays -/
def Ahead (lo : Nat) (xs ys : Array Keyed) : Prop := ∀ k, k < lo → ys[k]? = xs[k]?
theorem Ahead.refl {lo : Nat} {xs : Array Keyed} : Ahead lo xs xs := fun _ _ => rfl
theorem Ahead.trans {lo : Nat} {xs ys zs : Array Keyed} (h1 : Ahead lo xs ys) (h2 : Ahead lo ys zs) : Ahead lo xs zs := fun k hk => (h2 k hk).trans (h1 k hk)
/-! ### binary insertion -/
end
end TS

namespace TS
open PySem PyProof.Rows
/-- a run that rises on -/
def upP (lo n0 nrem : Nat) : StateT SortSt Sem (Option Nat) := do
  let mut m := n0
  for _ in [m:nrem] do
    let some falls ← ltAt' (lo + m) (lo + m - 1) | return none
    if falls then break
    m := m + 1
  return some m
/-- a run that falls, turned round -/
def downP (lo n0 nrem : Nat) : StateT SortSt Sem (Option Nat) := do
  rule "list.sort.descending-run"
  let mut m := n0
  let mut same := 0
  for _ in [m:nrem] do
    let some falls ← ltAt' (lo + m) (lo + m - 1) | return none
    if falls then
      if same > 0 then reverseSlice' (lo + m - (same + 1)) (lo + m)
      same := 0
    else
      let some rises ← ltAt' (lo + m - 1) (lo + m) | return none
      if rises then break
      same := same + 1
    m := m + 1
  if same > 0 then reverseSlice' (lo + m - (same + 1)) (lo + m)
  reverseSlice' lo (lo + m)
  for _ in [m:nrem] do
    let some falls ← ltAt' (lo + m) (lo + m - 1) | return none
    if falls then break
    m := m + 1
  return some m
section
variable {prog : Program} {w : World} {A : Around} {E : Value → Shared → Prop} {s : Shared} {κ : SortKind} {G : Keyed → Prop} {rk : Keyed → Int} {a₀ : Array Keyed}
end
end TS

namespace TS
open PySem PyProof.Rows
def gal : Bool → Keyed → Array Keyed → Nat → Nat → Nat → StateT SortSt Sem (Option Nat) := sortPriv% PySem.Builtin.gallop
/-- does the item at i stand ahead of the key's place -/
def past (left : Bool) (key : Keyed) (arr : Array Keyed) (base : Nat) (i : Nat) : StateT SortSt Sem (Option Bool) := do
  let y ← elem' arr (base + i)
  if left then lt' y key else return (← lt' key y).map (!·)
theorem gal_eq (left : Bool) (key : Keyed) (arr : Array Keyed) (base n hint : Nat) : gal left key arr base n hint = (do
    let mut near := 0
    let mut far := 1
    let mut a := 0
    let mut z := 0
    let some onward ← past left key arr base hint | return none
    if onward then
      let top := n - hint
      for _ in [0:n] do
        if far ≥ top then break
        let some go ← past left key arr base (hint + far) | return none
        if !go then break
        near := far
        far := 2 * far + 1
      a := hint + near + 1
      z := hint + min far top
    else
      let top := hint + 1
      for _ in [0:n] do
        if far ≥ top then break
        let some stop ← past left key arr base (hint - far) | return none
        if stop then break
        near := far
        far := 2 * far + 1
      a := hint + 1 - min far top
      z := hint - near
    for _ in [0:n] do
      if a ≥ z then break
      let mid := a + (z - a) / 2
      let some go ← past left key arr base mid | return none
      if go then a := mid + 1 else z := mid
    return some z) := rfl
/-- the place between two known ones -/
def bisP (left : Bool) (key : Keyed) (arr : Array Keyed) (base n a0 z0 : Nat) : StateT SortSt Sem (Option Nat) := do
  let mut a := a0
  let mut z := z0
  for _ in [0:n] do
    if a ≥ z then break
    let mid := a + (z - a) / 2
    let some go ← past left key arr base mid | return none
    if go then a := mid + 1 else z := mid
  return some z
section
variable {prog : Program} {w : World} {A : Around} {E : Value → Shared → Prop} {s : Shared} {κ : SortKind} {G : Keyed → Prop} {rk : Keyed → Int}
def bey (rk : Keyed → Int) (left : Bool) (key : Keyed) (arr : Array Keyed) (base i : Nat) : Bool := if left then decide (R rk arr (base + i) < rk key) else !decide (rk key < R rk arr (base + i))
theorem past_ok {st : SortSt} {left : Bool} {key : Keyed} {arr : Array Keyed} {base i : Nat} {Q : Option Bool → SortSt → Prop} (C : Cm prog w A E s κ G rk) (hk : kindOf st = κ) (ga : AllG G arr) (gk : G key) (hi : base + i < arr.size)
    (h : Q (some (bey rk left key arr base i)) st) : wpS (model prog w) A E s (past left key arr base i) Q st := by
  obtain ⟨y, e⟩ := get_of_lt hi
  unfold bey at h
  rw [R_some e] at h
  unfold past
  rw [elem'_eq, e]
  refine wpS_bind (wpS_pure ?_)
  cases left with
  | true => exact C.lt y key st _ (ga.at e) gk hk h
  | false => exact wpS_bind (C.lt key y st _ gk (ga.at e) hk (wpS_pure h))
theorem bey_mono {left : Bool} {key : Keyed} {arr : Array Keyed} {base n i j : Nat} (hs : Srt rk arr base (base + n)) (hij : i ≤ j) (hj : j < n) (h : bey rk left key arr base j = true) : bey rk left key arr base i = true := by
  have := hs (base + i) (base + j) (by omega) (by omega) (by omega)
  unfold bey at h ⊢
  cases left with
  | true => simp only [if_true, decide_eq_true_eq] at h ⊢; omega
  | false => simp only [Bool.false_eq_true, if_false, Bool.not_eq_true', decide_eq_false_iff_not] at h ⊢; omega
theorem bey_mono' {left : Bool} {key : Keyed} {arr : Array Keyed} {base n i j : Nat} (hs : Srt rk arr base (base + n)) (hij : i ≤ j) (hj : j < n) (h : bey rk left key arr base i = false) : bey rk left key arr base j = false := by
  cases e : bey rk left key arr base j with
  | false => rfl
  | true => rw [bey_mono hs hij hj e] at h; cases h
theorem bis_ok {st : SortSt} {left : Bool} {key : Keyed} {arr : Array Keyed} {base n a0 z0 : Nat} {Q : Option Nat → SortSt → Prop} (C : Cm prog w A E s κ G rk) (hk : kindOf st = κ) (ga : AllG G arr) (gk : G key) (hb : base + n ≤ arr.size) (hs : Srt rk arr base (base + n))
    (haz : a0 ≤ z0) (hz : z0 ≤ n) (h1 : ∀ i, i < a0 → bey rk left key arr base i = true) (h2 : ∀ i, z0 ≤ i → i < n → bey rk left key arr base i = false)
    (h : ∀ m, m ≤ n → (∀ i, i < m → bey rk left key arr base i = true) → (∀ i, m ≤ i → i < n → bey rk left key arr base i = false) → Q (some m) st) : wpS (model prog w) A E s (bisP left key arr base n a0 z0) Q st := by
  unfold bisP
  dsimp only
  refine wpS_bind (wpS_mono (wpS_forRange (I := fun x c st' => st' = st ∧ ∃ a z, c = (none, a, z) ∧ a ≤ z ∧ z ≤ n ∧ z - a ≤ n - x ∧ (∀ i, i < a → bey rk left key arr base i = true) ∧ ∀ i, z ≤ i → i < n → bey rk left key arr base i = false)
    (Q := fun c st' => st' = st ∧ ∃ a z, c = (none, a, z) ∧ a = z ∧ z ≤ n ∧ (∀ i, i < a → bey rk left key arr base i = true) ∧ ∀ i, z ≤ i → i < n → bey rk left key arr base i = false) ?step ?fin ?init) ?post)
  case init => exact ⟨rfl, a0, z0, rfl, haz, hz, by omega, h1, h2⟩
  case fin =>
    rintro c st' ⟨e1, a, z, e2, e3, e4, e5, e6, e7⟩
    exact ⟨e1, a, z, e2, by omega, e4, e6, e7⟩
  case step =>
    rintro x c st' _ hx ⟨rfl, a, z, rfl, e3, e4, e5, e6, e7⟩
    dsimp only
    by_cases c1 : a ≥ z
    · rw [if_pos c1]
      exact wpS_pure ⟨rfl, a, z, rfl, by omega, e4, e6, e7⟩
    · rw [if_neg c1]
      refine wpS_bind (past_ok C hk ga gk (by omega) ?_)
      dsimp only
      by_cases c2 : bey rk left key arr base (a + (z - a) / 2) = true
      · rw [if_pos c2]
        exact wpS_pure ⟨rfl, _, z, rfl, by omega, e4, by omega, fun i hi => bey_mono hs (show i ≤ a + (z - a) / 2 by omega) (by omega) c2, e7⟩
      · rw [if_neg c2]
        exact wpS_pure ⟨rfl, a, _, rfl, by omega, by omega, by omega, e6, fun i hi hin => bey_mono' hs hi hin (Bool.eq_false_iff.mpr c2)⟩
  case post =>
    rintro c st' ⟨rfl, a, z, rfl, rfl, e4, e6, e7⟩
    exact wpS_pure (h a e4 e6 e7)
theorem gallop {st : SortSt} {left : Bool} {key : Keyed} {arr : Array Keyed} {base n hint : Nat} {Q : Option Nat → SortSt → Prop} (C : Cm prog w A E s κ G rk) (hk : kindOf st = κ) (ga : AllG G arr) (gk : G key) (hb : base + n ≤ arr.size) (hh : hint < n) (hs : Srt rk arr base (base + n))
    (h : ∀ m, m ≤ n → (∀ i, i < m → bey rk left key arr base i = true) → (∀ i, m ≤ i → i < n → bey rk left key arr base i = false) → Q (some m) st) : wpS (model prog w) A E s (gal left key arr base n hint) Q st := by
  rw [gal_eq]
  dsimp only
  refine wpS_bind (past_ok C hk ga gk (by omega) ?_)
  dsimp only
  by_cases c0 : bey rk left key arr base hint = true
  · rw [if_pos c0]
    refine wpS_bind (wpS_mono (wpS_forRange (I := fun x c st' => st' = st ∧ ∃ a z, c = (none, a, z) ∧ a < z ∧ x < z ∧ hint + a < n ∧ bey rk left key arr base (hint + a) = true)
      (Q := fun c st' => st' = st ∧ ∃ a z, c = (none, a, z) ∧ a < z ∧ hint + a < n ∧ bey rk left key arr base (hint + a) = true ∧ (z < n - hint → bey rk left key arr base (hint + z) = false)) ?step ?fin ?init) ?post)
    case init => exact ⟨rfl, 0, 1, rfl, by omega, by omega, by omega, c0⟩
    case fin =>
      rintro c st' ⟨e1, a, z, e2, e3, e4, e5, e6⟩
      exact ⟨e1, a, z, e2, e3, e5, e6, fun q => by omega⟩
    case step =>
      rintro x c st' _ hx ⟨rfl, a, z, rfl, e3, e4, e5, e6⟩
      dsimp only
      by_cases c1 : z ≥ n - hint
      · rw [if_pos c1]
        exact wpS_pure ⟨rfl, a, z, rfl, e3, e5, e6, fun q => by omega⟩
      · rw [if_neg c1]
        refine wpS_bind (past_ok C hk ga gk (by omega) ?_)
        dsimp only
        by_cases c2 : bey rk left key arr base (hint + z) = true
        · rw [if_neg (by rw [c2]; simp)]
          exact wpS_pure ⟨rfl, z, _, rfl, by omega, by omega, by omega, c2⟩
        · rw [if_pos (by rw [Bool.eq_false_iff.mpr c2]; rfl)]
          exact wpS_pure ⟨rfl, a, z, rfl, e3, e5, e6, fun _ => Bool.eq_false_iff.mpr c2⟩
    case post =>
      rintro c st' ⟨rfl, a, z, rfl, e3, e5, e6, e7⟩
      refine bis_ok (a0 := hint + a + 1) (z0 := hint + min z (n - hint)) C hk ga gk hb hs (by omega) (by omega) (fun i hi => bey_mono hs (show i ≤ hint + a by omega) e5 e6) (fun i hi hin => ?_) h
      rcases Nat.lt_or_ge z (n - hint) with q | q
      · exact bey_mono' hs (show hint + z ≤ i by omega) hin (e7 q)
      · omega
  · rw [if_neg c0]
    have c0' := Bool.eq_false_iff.mpr c0
    refine wpS_bind (wpS_mono (wpS_forRange (I := fun x c st' => st' = st ∧ ∃ a z, c = (none, a, z) ∧ a < z ∧ x < z ∧ a ≤ hint ∧ bey rk left key arr base (hint - a) = false)
      (Q := fun c st' => st' = st ∧ ∃ a z, c = (none, a, z) ∧ a < z ∧ a ≤ hint ∧ bey rk left key arr base (hint - a) = false ∧ (z < hint + 1 → bey rk left key arr base (hint - z) = true)) ?step ?fin ?init) ?post)
    case init => exact ⟨rfl, 0, 1, rfl, by omega, by omega, by omega, c0'⟩
    case fin =>
      rintro c st' ⟨e1, a, z, e2, e3, e4, e5, e6⟩
      exact ⟨e1, a, z, e2, e3, e5, e6, fun q => by omega⟩
    case step =>
      rintro x c st' _ hx ⟨rfl, a, z, rfl, e3, e4, e5, e6⟩
      dsimp only
      by_cases c1 : z ≥ hint + 1
      · rw [if_pos c1]
        exact wpS_pure ⟨rfl, a, z, rfl, e3, e5, e6, fun q => by omega⟩
      · rw [if_neg c1]
        refine wpS_bind (past_ok C hk ga gk (by omega) ?_)
        dsimp only
        by_cases c2 : bey rk left key arr base (hint - z) = true
        · rw [if_pos c2]
          exact wpS_pure ⟨rfl, a, z, rfl, e3, e5, e6, fun _ => c2⟩
        · rw [if_neg c2]
          exact wpS_pure ⟨rfl, z, _, rfl, by omega, by omega, by omega, Bool.eq_false_iff.mpr c2⟩
    case post =>
      rintro c st' ⟨rfl, a, z, rfl, e3, e5, e6, e7⟩
      refine bis_ok (a0 := hint + 1 - min z (hint + 1)) (z0 := hint - a) C hk ga gk hb hs (by omega) (by omega) (fun i hi => ?_) (fun i hi hin => bey_mono' hs hi hin e6) h
      rcases Nat.lt_or_ge z (hint + 1) with q | q
      · exact bey_mono hs (show i ≤ hint - z by omega) (by omega) (e7 q)
      · omega
end
end TS

namespace TS
open PySem PyProof.Rows
abbrev Pw (rk : Keyed → Int) (l : List Keyed) : Prop := l.Pairwise fun x y => rk x ≤ rk y
/-- two sorted lists partly merged: what is got, i of a and j of b -/
structure MI (rk : Keyed → Int) (a b got : List Keyed) (i j : Nat) : Prop where
  hi : i ≤ a.length
  hj : j ≤ b.length
  perm : got.Perm (a.take i ++ b.take j)
  srt : Pw rk got
  below : ∀ x ∈ got, (∀ y ∈ a.drop i, rk x ≤ rk y) ∧ ∀ y ∈ b.drop j, rk x ≤ rk y
structure Res (rk : Keyed → Int) (a b r : List Keyed) : Prop where
  perm : r.Perm (a ++ b)
  srt : Pw rk r
section
variable {rk : Keyed → Int} {a b got : List Keyed} {i j k : Nat}
theorem MI.swap (M : MI rk a b got i j) : MI rk b a got j i := ⟨M.hj, M.hi, M.perm.trans List.perm_append_comm, M.srt, fun x hx => ⟨(M.below x hx).2, (M.below x hx).1⟩⟩
theorem Res.swap {r : List Keyed} (M : Res rk a b r) : Res rk b a r := ⟨M.perm.trans List.perm_append_comm, M.srt⟩
theorem pw_split (h : Pw rk a) (i : Nat) : ∀ x ∈ a.take i, ∀ y ∈ a.drop i, rk x ≤ rk y := by
  have e : a = a.take i ++ a.drop i := (List.take_append_drop i a).symm
  rw [e] at h
  exact (List.pairwise_append.mp h).2.2
theorem MI.chunk (M : MI rk a b got i j) (sa : Pw rk a) (hk : i + k ≤ a.length) (h : ∀ x ∈ (a.drop i).take k, ∀ y ∈ b.drop j, rk x ≤ rk y) : MI rk a b (got ++ (a.drop i).take k) (i + k) j := by
  have sd : Pw rk (a.drop i) := sa.sublist (List.drop_sublist _ _)
  refine ⟨hk, M.hj, ?_, List.pairwise_append.mpr ⟨M.srt, sd.sublist (List.take_sublist _ _), fun x hx y hy => (M.below x hx).1 y (List.mem_of_mem_take hy)⟩, fun x hx => ?_⟩
  · rw [List.take_add]
    refine (M.perm.append_right _).trans ?_
    rw [List.append_assoc, List.append_assoc]
    exact List.Perm.append_left _ List.perm_append_comm
  · have ed : a.drop (i + k) = (a.drop i).drop k := by rw [List.drop_drop]
    rcases List.mem_append.mp hx with hx | hx
    · exact ⟨fun y hy => (M.below x hx).1 y (by rw [ed] at hy; exact List.mem_of_mem_drop hy), (M.below x hx).2⟩
    · exact ⟨fun y hy => pw_split sd k x hx y (by rw [← ed]; exact hy), h x hx⟩
theorem take_one {x : Keyed} (e : a[i]? = some x) : (a.drop i).take 1 = [x] := by
  obtain ⟨h, rfl⟩ := List.getElem?_eq_some_iff.mp e
  rw [List.drop_eq_getElem_cons h]; rfl
theorem MI.step (M : MI rk a b got i j) (sa : Pw rk a) {x : Keyed} (e : a[i]? = some x) (h : ∀ y ∈ b.drop j, rk x ≤ rk y) : MI rk a b (got ++ [x]) (i + 1) j := by
  have hlt := (List.getElem?_eq_some_iff.mp e).1
  have := M.chunk (k := 1) sa (by omega) (by rw [take_one e]; intro z hz; rw [List.mem_singleton.mp hz]; exact h)
  rwa [take_one e] at this
/-- the rest of a behind what is got, b being used up -/
theorem MI.fin (M : MI rk a b got i j) (sa : Pw rk a) (hj : j = b.length) : Res rk a b (got ++ a.drop i) := by
  subst hj
  refine ⟨?_, List.pairwise_append.mpr ⟨M.srt, sa.sublist (List.drop_sublist _ _), fun x hx y hy => (M.below x hx).1 y hy⟩⟩
  refine (M.perm.append_right _).trans ?_
  rw [List.take_length, List.append_assoc]
  refine (List.Perm.append_left _ List.perm_append_comm).trans ?_
  rw [← List.append_assoc, List.take_append_drop]
end
end TS

namespace TS
open PySem PyProof.Rows
def mlo : Array Keyed → Array Keyed → StateT SortSt Sem (Array Keyed) := sortPriv% PySem.Builtin.mergeLo
def setG : Nat → StateT SortSt Sem Unit := sortPriv% PySem.Builtin.setMinGallop
/-- what is there and the rest of both -/
def endA (a b : Array Keyed) (got : Array Keyed) (i j : Nat) : Array Keyed := got ++ a.extract i a.size ++ b.extract j b.size
def endB (a b : Array Keyed) (got : Array Keyed) (i j : Nat) : Array Keyed := got ++ b.extract j b.size ++ a.extract i a.size
/-- a turn by leaps, in parts -/
abbrev LS := Option (Array Keyed) × Array Keyed × Nat × Nat × Nat × Nat × Nat
def turn4 (a b : Array Keyed) (g : Nat) (got : Array Keyed) (i j ca cb : Nat) : StateT SortSt Sem (ForInStep LS) := do
  let y ← elem' a i
  if (i + 1 + 1 == a.size) = true then pure (.done (some (endB a b (got.push y) (i + 1) j), got.push y, i + 1, j, g, ca, cb))
  else if (decide (ca < 7) && decide (cb < 7)) = true then pure (.done (none, got.push y, i + 1, j, g, ca, cb)) else pure (.yield (none, got.push y, i + 1, j, g, ca, cb))
def turn3 (a b : Array Keyed) (g : Nat) (got : Array Keyed) (i j ca cb : Nat) : StateT SortSt Sem (ForInStep LS) := do
  let some k ← gal true (← elem' a i) b j (b.size - j) 0 | pure (.done (some (endA a b got i j), got, i, j, g, ca, cb))
  if k > 0 then
    if (j + k == b.size) = true then pure (.done (some (endA a b (got ++ b.extract j (j + k)) i (j + k)), got ++ b.extract j (j + k), i, j + k, g, ca, k))
    else turn4 a b g (got ++ b.extract j (j + k)) i (j + k) ca k
  else turn4 a b g got i j ca k
def turn2 (a b : Array Keyed) (g : Nat) (got : Array Keyed) (i j ca cb : Nat) : StateT SortSt Sem (ForInStep LS) := do
  let x ← elem' b j
  if (j + 1 == b.size) = true then pure (.done (some (endA a b (got.push x) i (j + 1)), got.push x, i, j + 1, g, ca, cb))
  else turn3 a b g (got.push x) i (j + 1) ca cb
def turn1 (a b : Array Keyed) (g : Nat) (got : Array Keyed) (i j ca cb : Nat) : StateT SortSt Sem (ForInStep LS) := do
  setG g
  let some k ← gal false (← elem' b j) a i (a.size - i) 0 | pure (.done (some (endA a b got i j), got, i, j, g, ca, cb))
  if k > 0 then
    if (i + k + 1 == a.size) = true then pure (.done (some (endB a b (got ++ a.extract i (i + k)) (i + k) j), got ++ a.extract i (i + k), i + k, j, g, k, cb))
    else if (i + k == a.size) = true then pure (.done (some (endA a b (got ++ a.extract i (i + k)) (i + k) j), got ++ a.extract i (i + k), i + k, j, g, k, cb))
    else turn2 a b g (got ++ a.extract i (i + k)) (i + k) j k cb
  else turn2 a b g got i j k cb
def turn0 (a b : Array Keyed) (g : Nat) (got : Array Keyed) (i j ca cb : Nat) : StateT SortSt Sem (ForInStep LS) :=
  if g > 1 then turn1 a b (g - 1) got i j ca cb else turn1 a b g got i j ca cb
/-- a turn one by one -/
abbrev OS := Option (Array Keyed) × Array Keyed × Nat × Nat × Nat × Nat
def oneT (a b : Array Keyed) (g : Nat) (got : Array Keyed) (i j ca cb : Nat) : StateT SortSt Sem (ForInStep OS) := do
  let some second ← lt' (← elem' b j) (← elem' a i) | pure (.done (some (endA a b got i j), got, i, j, ca, cb))
  if second = true then do
    let x ← elem' b j
    if (j + 1 == b.size) = true then pure (.done (some (endA a b (got.push x) i (j + 1)), got.push x, i, j + 1, 0, cb + 1))
    else if cb + 1 ≥ g then pure (.done (none, got.push x, i, j + 1, 0, cb + 1)) else pure (.yield (none, got.push x, i, j + 1, 0, cb + 1))
  else do
    let x ← elem' a i
    if (i + 1 + 1 == a.size) = true then pure (.done (some (endB a b (got.push x) (i + 1) j), got.push x, i + 1, j, ca + 1, 0))
    else if ca + 1 ≥ g then pure (.done (none, got.push x, i + 1, j, ca + 1, 0)) else pure (.yield (none, got.push x, i + 1, j, ca + 1, 0))
/-- the state but for the leaps' measure -/
structure Sb (st st' : SortSt) : Prop where
  kind : kindOf st' = kindOf st
  arr : arrOf st' = arrOf st
  pend : pendingOf st' = pendingOf st
  failed : failedOf st' = failedOf st
theorem Sb.refl (st : SortSt) : Sb st st := ⟨rfl, rfl, rfl, rfl⟩
section
variable {prog : Program} {w : World} {A : Around} {E : Value → Shared → Prop} {s : Shared} {κ : SortKind} {G : Keyed → Prop} {rk : Keyed → Int}
/-- what holds of both lists all the time -/
structure Two (G : Keyed → Prop) (rk : Keyed → Int) (a b : Array Keyed) : Prop where
  ga : AllG G a
  gb : AllG G b
  sa : Pw rk a.toList
  sb : Pw rk b.toList
  last : ∀ x ∈ b.toList, ∀ y ∈ a.toList.drop (a.size - 1), rk x ≤ rk y
/-- what a turn leaves: the end, or one more -/
def Left (rk : Keyed → Int) (a b : Array Keyed) (n0 : Nat) (r : Option (Array Keyed)) (got : Array Keyed) (i j : Nat) : Prop :=
  match r with
  | some z => Res rk a.toList b.toList z.toList
  | none => MI rk a.toList b.toList got.toList i j ∧ i + 1 < a.size ∧ j < b.size ∧ n0 < i + j
end
end TS

namespace TS
open PySem PyProof.Rows
section
variable {prog : Program} {w : World} {A : Around} {E : Value → Shared → Prop} {s : Shared} {κ : SortKind} {G : Keyed → Prop} {rk : Keyed → Int}
end
end TS

namespace TS
open PySem PyProof.Rows
def mhi : Array Keyed → Array Keyed → StateT SortSt Sem (Array Keyed) := sortPriv% PySem.Builtin.mergeHi
/-- the heads of both and what is got, turned round -/
def headA (a b : Array Keyed) (got : Array Keyed) (m n : Nat) : Array Keyed := a.extract 0 m ++ b.extract 0 n ++ got.reverse
def headB (a b : Array Keyed) (got : Array Keyed) (m n : Nat) : Array Keyed := b.extract 0 n ++ a.extract 0 m ++ got.reverse
section
variable {prog : Program} {w : World} {A : Around} {E : Value → Shared → Prop} {s : Shared} {κ : SortKind} {G : Keyed → Prop} {rk : Keyed → Int}
/-- turned round -/
def nk (rk : Keyed → Int) : Keyed → Int := fun x => -rk x
/-- m of a and n of b are left -/
structure MH (rk : Keyed → Int) (a b got : Array Keyed) (m n : Nat) : Prop where
  mi : MI (nk rk) a.toList.reverse b.toList.reverse got.toList (a.size - m) (b.size - n)
  hm : m ≤ a.size
  hn : n ≤ b.size
structure Two' (G : Keyed → Prop) (rk : Keyed → Int) (a b : Array Keyed) : Prop where
  ga : AllG G a
  gb : AllG G b
  sa : Pw rk a.toList
  sb : Pw rk b.toList
  first : ∀ y, b[0]? = some y → ∀ x ∈ a.toList, rk y ≤ rk x
end
end TS

namespace TS
open PySem PyProof.Rows
abbrev LH := Option (Array Keyed) × Nat × Nat × Array Keyed × Nat × Nat × Nat
abbrev OH := Option (Array Keyed) × Nat × Nat × Array Keyed × Nat × Nat
def hturn4 (a b : Array Keyed) (g : Nat) (got : Array Keyed) (m n ca cb : Nat) : StateT SortSt Sem (ForInStep LH) := do
  let x ← elem' a (m - 1)
  if (m - 1 == 0) = true then pure (.done (some (headA a b (got.push x) (m - 1) n), m - 1, n, got.push x, g, ca, cb))
  else if (decide (ca < 7) && decide (cb < 7)) = true then pure (.done (none, m - 1, n, got.push x, g, ca, cb)) else pure (.yield (none, m - 1, n, got.push x, g, ca, cb))
def hturn3 (a b : Array Keyed) (g : Nat) (got : Array Keyed) (m n ca cb : Nat) : StateT SortSt Sem (ForInStep LH) := do
  let some p ← gal true (← elem' a (m - 1)) b 0 n (n - 1) | pure (.done (some (headA a b got m n), m, n, got, g, ca, cb))
  if n - p > 0 then
    if (p == 1) = true then pure (.done (some (headB a b (got ++ (b.extract p n).reverse) m p), m, p, got ++ (b.extract p n).reverse, g, ca, n - p))
    else if (p == 0) = true then pure (.done (some (headA a b (got ++ (b.extract p n).reverse) m p), m, p, got ++ (b.extract p n).reverse, g, ca, n - p))
    else hturn4 a b g (got ++ (b.extract p n).reverse) m p ca (n - p)
  else hturn4 a b g got m n ca (n - p)
def hturn2 (a b : Array Keyed) (g : Nat) (got : Array Keyed) (m n ca cb : Nat) : StateT SortSt Sem (ForInStep LH) := do
  let x ← elem' b (n - 1)
  if (n - 1 == 1) = true then pure (.done (some (headB a b (got.push x) m (n - 1)), m, n - 1, got.push x, g, ca, cb))
  else hturn3 a b g (got.push x) m (n - 1) ca cb
def hturn1 (a b : Array Keyed) (g : Nat) (got : Array Keyed) (m n ca cb : Nat) : StateT SortSt Sem (ForInStep LH) := do
  setG g
  let some p ← gal false (← elem' b (n - 1)) a 0 m (m - 1) | pure (.done (some (headA a b got m n), m, n, got, g, ca, cb))
  if m - p > 0 then
    if (p == 0) = true then pure (.done (some (headA a b (got ++ (a.extract p m).reverse) p n), p, n, got ++ (a.extract p m).reverse, g, m - p, cb))
    else hturn2 a b g (got ++ (a.extract p m).reverse) p n (m - p) cb
  else hturn2 a b g got m n (m - p) cb
def hturn0 (a b : Array Keyed) (g : Nat) (got : Array Keyed) (m n ca cb : Nat) : StateT SortSt Sem (ForInStep LH) :=
  if g > 1 then hturn1 a b (g - 1) got m n ca cb else hturn1 a b g got m n ca cb
def oneH (a b : Array Keyed) (g : Nat) (got : Array Keyed) (m n ca cb : Nat) : StateT SortSt Sem (ForInStep OH) := do
  let some fst ← lt' (← elem' b (n - 1)) (← elem' a (m - 1)) | pure (.done (some (headA a b got m n), m, n, got, ca, cb))
  if fst = true then do
    let x ← elem' a (m - 1)
    if (m - 1 == 0) = true then pure (.done (some (headA a b (got.push x) (m - 1) n), m - 1, n, got.push x, ca + 1, 0))
    else if ca + 1 ≥ g then pure (.done (none, m - 1, n, got.push x, ca + 1, 0)) else pure (.yield (none, m - 1, n, got.push x, ca + 1, 0))
  else do
    let x ← elem' b (n - 1)
    if (n - 1 == 1) = true then pure (.done (some (headB a b (got.push x) m (n - 1)), m, n - 1, got.push x, 0, cb + 1))
    else if cb + 1 ≥ g then pure (.done (none, m, n - 1, got.push x, 0, cb + 1)) else pure (.yield (none, m, n - 1, got.push x, 0, cb + 1))
section
variable {prog : Program} {w : World} {A : Around} {E : Value → Shared → Prop} {s : Shared} {κ : SortKind} {G : Keyed → Prop} {rk : Keyed → Int}
/-- what a turn leaves: the end, or fewer than before -/
def LeftH (rk : Keyed → Int) (a b : Array Keyed) (n0 : Nat) (r : Option (Array Keyed)) (got : Array Keyed) (m n : Nat) : Prop :=
  match r with
  | some z => Res rk a.toList b.toList z.toList
  | none => MH rk a b got m n ∧ 0 < m ∧ 1 < n ∧ m + n < n0
end
end TS

namespace TS
open PySem PyProof.Rows
/-- runs, one behind the other, from a to z -/
def Runs : Nat → List (Nat × Nat × Nat) → Nat → Prop
  | a, [], z => a = z
  | a, t :: r, z => t.1 = a ∧ 0 < t.2.1 ∧ Runs (a + t.2.1) r z
structure Pd (rk : Keyed → Int) (xs : Array Keyed) (pend : Array (Nat × Nat × Nat)) (z : Nat) : Prop where
  runs : Runs 0 pend.toList z
  srt : ∀ t ∈ pend.toList, Srt rk xs t.1 (t.1 + t.2.1)
theorem Runs.le : ∀ {l : List (Nat × Nat × Nat)} {a z : Nat}, Runs a l z → a + l.length ≤ z
  | [], a, z, h => Nat.le_of_eq h
  | t :: r, a, z, ⟨_, h2, h3⟩ => by have := Runs.le h3; simp only [List.length_cons]; omega
theorem Runs.mem : ∀ {l : List (Nat × Nat × Nat)} {a z : Nat}, Runs a l z → ∀ t ∈ l, a ≤ t.1 ∧ t.1 + t.2.1 ≤ z
  | t :: r, a, z, ⟨h1, h2, h3⟩, u, hu => by
    have hle := Runs.le h3
    rcases List.mem_cons.mp hu with rfl | hu
    · omega
    · have := Runs.mem h3 u hu; omega
theorem Runs.append : ∀ {l r : List (Nat × Nat × Nat)} {a y z : Nat}, Runs a l y → Runs y r z → Runs a (l ++ r) z
  | [], r, a, y, z, h, k => by cases h; exact k
  | t :: l, r, a, y, z, ⟨h1, h2, h3⟩, k => ⟨h1, h2, Runs.append h3 k⟩
theorem Runs.split : ∀ {l r : List (Nat × Nat × Nat)} {a z : Nat}, Runs a (l ++ r) z → ∃ y, Runs a l y ∧ Runs y r z
  | [], r, a, z, h => ⟨a, rfl, h⟩
  | t :: l, r, a, z, ⟨h1, h2, h3⟩ => by
    obtain ⟨y, e1, e2⟩ := Runs.split h3
    exact ⟨y, ⟨h1, h2, e1⟩, e2⟩
section
variable {prog : Program} {w : World} {A : Around} {E : Value → Shared → Prop} {s : Shared} {κ : SortKind} {G : Keyed → Prop} {rk : Keyed → Int} {a₀ : Array Keyed}
end
end TS

namespace TS
open PySem PyProof.Rows
section
variable {prog : Program} {w : World} {A : Around} {E : Value → Shared → Prop} {s : Shared} {κ : SortKind} {G : Keyed → Prop} {rk : Keyed → Int} {a₀ : Array Keyed}
end
end TS

namespace TS
open PySem PyProof.Rows
section
variable {prog : Program} {w : World} {A : Around} {E : Value → Shared → Prop} {s : Shared} {κ : SortKind} {G : Keyed → Prop} {rk : Keyed → Int} {a₀ : Array Keyed}
theorem Pd.push {xs : Array Keyed} {pend : Array (Nat × Nat × Nat)} {lo n : Nat} (h : Pd rk xs pend lo) (hn : 1 ≤ n) (hs : Srt rk xs lo (lo + n)) : Pd rk xs (pend.push (lo, n, 0)) (lo + n) := by
  refine ⟨?_, fun t ht => ?_⟩
  · rw [Array.toList_push]
    exact Runs.append h.runs ⟨rfl, hn, rfl⟩
  · rw [Array.toList_push] at ht
    rcases List.mem_append.mp ht with ht | ht
    · exact h.srt t ht
    · have : t = (lo, n, 0) := by simpa using ht
      subst this; exact hs
end
end TS

namespace L3
open PySem PySem.Spec PyProof.Rows PySem.Calls L2

/-! ### a dict's keys, one by one, whatever they are -/
/-- the dict at d, its raw entries -/
def RawD (h : Heap) (d : Addr) (es : Array DictEntry) (ep : Nat) : Prop := ∃ o, h.get? d = some o ∧ o.ExactDict ∧ o.data = .dict es ep
theorem RawD.typeIs {s : Shared} {d : Addr} {es : Array DictEntry} {ep : Nat} (x : RawD s.heap d es ep) : s.TypeIs (.ref d) "dict" := by
  obtain ⟨o, e, hx, _⟩ := x
  exact ⟨o, e, hx.1⟩
theorem RawD.at {h h' : Heap} {d : Addr} {es : Array DictEntry} {ep : Nat} (x : RawD h d es ep) (k : ∀ o, h.get? d = some o → h'.get? d = some o) : RawD h' d es ep := by
  obtain ⟨o, e, r⟩ := x
  exact ⟨o, k o e, r⟩
section
variable {prog : Program} {w : World} {A : Around} {E : Value → Shared → Prop} {s : Shared} {it d : Addr} {es : Array DictEntry} {ep i : Nat}
end
end L3

namespace L3
open PySem PySem.Spec PyProof.Rows PySem.Calls L2

/-! ### rising tuples -/
def llt : List Int → List Int → Bool
  | [], [] => false
  | [], _ :: _ => true
  | _ :: _, [] => false
  | x :: xs, y :: ys => if x = y then llt xs ys else decide (x < y)
theorem llt_cons (x y : Int) (xs ys : List Int) : llt (x :: xs) (y :: ys) = if x = y then llt xs ys else decide (x < y) := by rw [llt]
theorem lex_irr : ∀ a : List Int, llt a a = false
  | [] => rfl
  | x :: a => by rw [llt_cons, if_pos rfl]; exact lex_irr a
theorem lex_trans : ∀ {a b c : List Int}, llt a b = true → llt b c = true → llt a c = true
  | [], [], c, h, _ => nomatch h
  | [], _ :: _, [], _, h => nomatch h
  | [], _ :: _, _ :: _, _, _ => rfl
  | _ :: _, [], _, h, _ => nomatch h
  | x :: a, y :: b, [], _, h => nomatch h
  | x :: a, y :: b, z :: c, h, k => by
    rw [llt_cons] at h k ⊢
    by_cases e1 : x = y
    · subst e1
      rw [if_pos rfl] at h
      by_cases e2 : x = z
      · rw [if_pos e2] at k ⊢; exact lex_trans h k
      · rw [if_neg e2] at k ⊢; exact k
    · rw [if_neg e1] at h
      have h' : x < y := of_decide_eq_true h
      by_cases e2 : y = z
      · subst e2; rw [if_neg e1]; exact h
      · rw [if_neg e2] at k
        have k' : y < z := of_decide_eq_true k
        rw [if_neg (by omega)]; exact decide_eq_true (by omega)
/-- the rank of a tuple among others -/
def rankL (L : List (List Int)) (a : List Int) : Int := ((L.filter fun m => llt m a).length : Nat)
/-! ### comparing tuples of ints, as the sort does -/
section
variable {prog : Program} {w : World} {A : Around} {E : Value → Shared → Prop} {s : Shared}
end
end L3

namespace L3
open PySem PySem.Spec PyProof.Rows PySem.Calls L2
section
variable {prog : Program} {w : World} {A : Around} {E : Value → Shared → Prop} {s : Shared}
end

/-! ### sorted of tuples of ints -/
/-- the ints of the tuple at a value -/
def intsAt (h : Heap) : Value → List Int
  | .ref a => match h.get? a with
    | some o => match o.data with
      | .seq xs _ => xs.toList.map numOf
      | _ => []
    | none => []
  | _ => []
def refV : Value → V
  | .ref a => .ref a
  | _ => .non
def rSortT (K : PySem.W.Frag) : List V → Hp → VK → Prop := fun xs H Q => ∃ (p : Addr) (ys : List V) (ms : List (List Int)), xs = [.ref p] ∧ SqL K H p ys ∧ Dens K H (ms.map itup) ys ∧ (∀ m ∈ ms, m ≠ []) ∧
  ∀ (l : Addr) (ns : List (List Int)) (zs : List V), H l = none → ns.Perm ms → ns.Pairwise (fun a b => llt b a = false) → Dens K (upd H l (.lst zs)) (ns.map itup) zs → Q (.ref l) (upd H l (.lst zs))
section
variable {X : Cx}
end

/-! ### a dict with tuples for keys: its keys as a list, its size -/
section
variable {X : Cx}
def keyT (k : List Int) : List Key := k.map Sum.inl
/-- what stands under the keys: addresses of tuples -/
def KeysAt (H : Hp) (ks : List (List Key)) (ys : List V) : Prop := Paired (fun (k : List Key) (y : V) => ∃ b, y = .ref b ∧ H b = some (.tup (k.map kV))) ks ys
def rListD : List V → Hp → VK → Prop := fun xs H Q => ∃ (a : Addr) (kvs : List (List Key × V)), xs = [.ref a] ∧ H a = some (.dT kvs) ∧ ∀ (l : Addr) (ys : List V), H l = none → KeysAt H (kvs.map (·.1)) ys → Q (.ref l) (upd H l (.lst ys))
end
end L3

namespace Ma
open PySem L2 L3
/-! ### the lines of points, rising -/
def lnl (l : Ln) : List Int := [l.a, l.b, l.c]
structure LinesIs (ps : List Pt) (L : List Ln) : Prop where
  srt : L.Pairwise fun l m => llt (lnl l) (lnl m) = true
  mem : ∀ l, l ∈ L ↔ IsL ps l
theorem LinesIs.nd {ps : List Pt} {L : List Ln} (h : LinesIs ps L) : L.Nodup := h.srt.imp fun {l m} z e => by
  rw [e, lex_irr] at z; cases z
theorem rise_unique : ∀ {L M : List Ln}, L.Pairwise (fun l m => llt (lnl l) (lnl m) = true) → M.Pairwise (fun l m => llt (lnl l) (lnl m) = true) → (∀ l, l ∈ L ↔ l ∈ M) → L = M
  | [], [], _, _, _ => rfl
  | [], m :: M, _, _, h => nomatch (h m).mpr (by simp)
  | l :: L, [], _, _, h => nomatch (h l).mp (by simp)
  | l :: L, m :: M, h1, h2, h => by
    obtain ⟨a1, a2⟩ := List.pairwise_cons.mp h1
    obtain ⟨b1, b2⟩ := List.pairwise_cons.mp h2
    have e : l = m := by
      rcases List.mem_cons.mp ((h l).mp (by simp)) with z | z
      · exact z
      · rcases List.mem_cons.mp ((h m).mpr (by simp)) with y | y
        · exact y.symm
        · have := lex_trans (a1 m y) (b1 l z)
          rw [lex_irr] at this; cases this
    subst e
    rw [rise_unique a2 b2 fun x => ?_]
    constructor
    · intro hx
      rcases List.mem_cons.mp ((h x).mp (List.mem_cons_of_mem _ hx)) with z | z
      · rw [z] at hx
        have := a1 l hx
        rw [lex_irr] at this; cases this
      · exact z
    · intro hx
      rcases List.mem_cons.mp ((h x).mpr (List.mem_cons_of_mem _ hx)) with z | z
      · rw [z] at hx
        have := b1 l hx
        rw [lex_irr] at this; cases this
      · exact z
theorem LinesIs.unique {ps : List Pt} {L M : List Ln} (h1 : LinesIs ps L) (h2 : LinesIs ps M) : L = M := rise_unique h1.srt h2.srt fun l => (h1.mem l).trans (h2.mem l).symm
/-- the places of the points on a line -/
def places (l : Ln) (ps : List Pt) : List Int := ((List.range ps.length).filter fun k => decide (On l (ps.getD k (0, 0)))).map fun (k : Nat) => (k : Int)
def placesTo (l : Ln) (ps : List Pt) (n : Nat) : List Int := ((List.range n).filter fun k => decide (On l (ps.getD k (0, 0)))).map fun (k : Nat) => (k : Int)
theorem placesTo_succ (l : Ln) (ps : List Pt) (n : Nat) : placesTo l ps (n + 1) = if On l (ps.getD n (0, 0)) then placesTo l ps n ++ [(n : Int)] else placesTo l ps n := by
  unfold placesTo
  rw [List.range_succ, List.filter_append, List.map_append]
  by_cases c : On l (ps.getD n (0, 0))
  · rw [if_pos c, List.filter_cons, if_pos (decide_eq_true c)]; rfl
  · rw [if_neg c, List.filter_cons, if_neg (by rw [decide_eq_false c]; simp)]; simp
/-- a row: the line and its places -/
def rowD (ps : List Pt) (l : Ln) : PyData := .tuple [ln l, .list ((places l ps).map .int)]
def rowsD (ps : List Pt) (L : List Ln) : PyData := .list (L.map (rowD ps))
/-! ### the lines of pairs, as they come -/
/-- the pairs below k, and of k those with j below m -/
def Seen (ps : List Pt) (k m : Nat) (l : Ln) : Prop := ∃ i j : Nat, j < i ∧ (i < k ∨ (i = k ∧ j < m)) ∧ ∃ p q, ps[j]? = some p ∧ ps[i]? = some q ∧ l = lineOf p q
end Ma

namespace L3
open PySem PySem.Spec PyProof.Rows PySem.Calls L2
/-! ### deep data with the addresses of its lists -/
mutual
def DenA (K : PySem.W.Frag) (H : Hp) : PyData → V → List Addr → Prop
  | .none, v, as => v = .non ∧ as = []
  | .bool b, v, as => v = .bl b ∧ as = []
  | .int i, v, as => v = .int i ∧ as = []
  | .str x, v, as => v = .str x ∧ as = []
  | .tuple ds, v, as => ∃ a xs, v = .ref a ∧ SqT K H a xs ∧ DensA K H ds xs as
  | .list ds, v, as => ∃ a xs bs, v = .ref a ∧ H a = some (.lst xs) ∧ DensA K H ds xs bs ∧ as = a :: bs
  | .dict _, _, _ => False
def DensA (K : PySem.W.Frag) (H : Hp) : List PyData → List V → List Addr → Prop
  | [], xs, as => xs = [] ∧ as = []
  | d :: ds, xs, as => ∃ x r bs cs, xs = x :: r ∧ DenA K H d x bs ∧ DensA K H ds r cs ∧ as = bs ++ cs
end
mutual
theorem DenA.den {K : PySem.W.Frag} {H : Hp} : ∀ (d : PyData) (v : V) (as : List Addr), DenA K H d v as → Den K H d v
  | .none, v, as, h => by simp only [DenA] at h; simp only [Den]; exact h.1
  | .bool b, v, as, h => by simp only [DenA] at h; simp only [Den]; exact h.1
  | .int i, v, as, h => by simp only [DenA] at h; simp only [Den]; exact h.1
  | .str x, v, as, h => by simp only [DenA] at h; simp only [Den]; exact h.1
  | .tuple ds, v, as, h => by
    simp only [DenA] at h
    obtain ⟨a, xs, e1, e2, e3⟩ := h
    simp only [Den]
    exact ⟨a, xs, e1, e2, DensA.dens ds xs as e3⟩
  | .list ds, v, as, h => by
    simp only [DenA] at h
    obtain ⟨a, xs, bs, e1, e2, e3, _⟩ := h
    simp only [Den]
    exact ⟨a, xs, e1, SqL.of e2, DensA.dens ds xs bs e3⟩
  | .dict _, v, as, h => by simp only [DenA] at h
theorem DensA.dens {K : PySem.W.Frag} {H : Hp} : ∀ (ds : List PyData) (xs : List V) (as : List Addr), DensA K H ds xs as → Dens K H ds xs
  | [], xs, as, h => by simp only [DensA] at h; simp only [Dens]; exact h.1
  | d :: ds, xs, as, h => by
    simp only [DensA] at h
    obtain ⟨x, r, bs, cs, e1, e2, e3, _⟩ := h
    simp only [Dens]
    exact ⟨x, r, e1, DenA.den d x bs e2, DensA.dens ds r cs e3⟩
end
mutual
theorem DenA.same {K : PySem.W.Frag} {H H' : Hp} (e : Same H H') : ∀ (d : PyData) (v : V) (as : List Addr), DenA K H d v as → DenA K H' d v as
  | .none, v, as, h => by simpa only [DenA] using h
  | .bool b, v, as, h => by simpa only [DenA] using h
  | .int i, v, as, h => by simpa only [DenA] using h
  | .str x, v, as, h => by simpa only [DenA] using h
  | .tuple ds, v, as, h => by
    simp only [DenA] at h ⊢
    obtain ⟨a, xs, e1, e2, e3⟩ := h
    exact ⟨a, xs, e1, same_seqT e e2, DensA.same e ds xs as e3⟩
  | .list ds, v, as, h => by
    simp only [DenA] at h ⊢
    obtain ⟨a, xs, bs, e1, e2, e3, e4⟩ := h
    exact ⟨a, xs, bs, e1, e _ _ e2, DensA.same e ds xs bs e3, e4⟩
  | .dict _, v, as, h => by simp only [DenA] at h
theorem DensA.same {K : PySem.W.Frag} {H H' : Hp} (e : Same H H') : ∀ (ds : List PyData) (xs : List V) (as : List Addr), DensA K H ds xs as → DensA K H' ds xs as
  | [], xs, as, h => by simpa only [DensA] using h
  | d :: ds, xs, as, h => by
    simp only [DensA] at h ⊢
    obtain ⟨x, r, bs, cs, e1, e2, e3, e4⟩ := h
    exact ⟨x, r, bs, cs, e1, DenA.same e d x bs e2, DensA.same e ds r cs e3, e4⟩
end
mutual
/-- another list is written -/
theorem DenA.upd {K : PySem.W.Frag} {H : Hp} {p : Addr} {ys : List V} {o : HO} (hp : H p = some (.lst ys)) : ∀ (d : PyData) (v : V) (as : List Addr), p ∉ as → DenA K H d v as → DenA K (upd H p o) d v as
  | .none, v, as, _, h => by simpa only [DenA] using h
  | .bool b, v, as, _, h => by simpa only [DenA] using h
  | .int i, v, as, _, h => by simpa only [DenA] using h
  | .str x, v, as, _, h => by simpa only [DenA] using h
  | .tuple ds, v, as, n, h => by
    simp only [DenA] at h ⊢
    obtain ⟨a, xs, e1, e2, e3⟩ := h
    exact ⟨a, xs, e1, upd_seqT hp e2, DensA.upd hp ds xs as n e3⟩
  | .list ds, v, as, n, h => by
    simp only [DenA] at h ⊢
    obtain ⟨a, xs, bs, e1, e2, e3, e4⟩ := h
    subst e4
    rw [List.mem_cons, not_or] at n
    exact ⟨a, xs, bs, e1, by rw [upd_ne (Ne.symm n.1)]; exact e2, DensA.upd hp ds xs bs n.2 e3, rfl⟩
  | .dict _, v, as, _, h => by simp only [DenA] at h
theorem DensA.upd {K : PySem.W.Frag} {H : Hp} {p : Addr} {ys : List V} {o : HO} (hp : H p = some (.lst ys)) : ∀ (ds : List PyData) (xs : List V) (as : List Addr), p ∉ as → DensA K H ds xs as → DensA K (upd H p o) ds xs as
  | [], xs, as, _, h => by simpa only [DensA] using h
  | d :: ds, xs, as, n, h => by
    simp only [DensA] at h ⊢
    obtain ⟨x, r, bs, cs, e1, e2, e3, e4⟩ := h
    subst e4
    rw [List.mem_append, not_or] at n
    exact ⟨x, r, bs, cs, e1, DenA.upd hp d x bs n.1 e2, DensA.upd hp ds r cs n.2 e3, rfl⟩
end
mutual
/-- what holds no list -/
theorem DenA.of {K : PySem.W.Frag} {H : Hp} : ∀ (d : PyData) (v : V), nol d = true → Den K H d v → DenA K H d v []
  | .none, v, _, h => by simp only [Den] at h; simp only [DenA]; exact ⟨h, by trivial⟩
  | .bool b, v, _, h => by simp only [Den] at h; simp only [DenA]; exact ⟨h, by trivial⟩
  | .int i, v, _, h => by simp only [Den] at h; simp only [DenA]; exact ⟨h, by trivial⟩
  | .str x, v, _, h => by simp only [Den] at h; simp only [DenA]; exact ⟨h, by trivial⟩
  | .tuple ds, v, n, h => by
    simp only [Den] at h
    simp only [nol] at n
    obtain ⟨a, xs, e1, e2, e3⟩ := h
    simp only [DenA]
    exact ⟨a, xs, e1, e2, DensA.of ds xs n e3⟩
  | .list ds, v, n, h => by simp only [nol] at n; cases n
  | .dict _, v, n, h => by simp only [nol] at n; cases n
theorem DensA.of {K : PySem.W.Frag} {H : Hp} : ∀ (ds : List PyData) (xs : List V), nols ds = true → Dens K H ds xs → DensA K H ds xs []
  | [], xs, _, h => by simp only [Dens] at h; simp only [DensA]; exact ⟨h, by trivial⟩
  | d :: ds, xs, n, h => by
    simp only [nols, Bool.and_eq_true] at n
    simp only [Dens] at h
    obtain ⟨x, r, e1, e2, e3⟩ := h
    simp only [DensA]
    exact ⟨x, r, [], [], e1, DenA.of d x n.1 e2, DensA.of ds r n.2 e3, rfl⟩
end
section
variable {K : PySem.W.Frag} {H : Hp}
theorem DensA.nil : DensA K H [] [] [] := by simp only [DensA]; exact ⟨by trivial, by trivial⟩
theorem DensA.cons {d : PyData} {ds : List PyData} {x : V} {r : List V} {bs cs : List Addr} (h : DenA K H d x bs) (t : DensA K H ds r cs) : DensA K H (d :: ds) (x :: r) (bs ++ cs) := by
  simp only [DensA]; exact ⟨x, r, bs, cs, rfl, h, t, rfl⟩
theorem DensA.snoc : ∀ {ds : List PyData} {xs : List V} {as bs : List Addr} {d : PyData} {x : V}, DensA K H ds xs as → DenA K H d x bs → DensA K H (ds ++ [d]) (xs ++ [x]) (as ++ bs)
  | [], xs, as, bs, d, x, h, k => by
    simp only [DensA] at h
    obtain ⟨rfl, rfl⟩ := h
    have := DensA.cons k DensA.nil
    rw [List.append_nil] at this
    exact this
  | e :: ds, xs, as, bs, d, x, h, k => by
    simp only [DensA] at h
    obtain ⟨y, r, b1, c1, rfl, h1, h2, rfl⟩ := h
    rw [List.append_assoc]
    exact DensA.cons h1 (DensA.snoc h2 k)
theorem DenA.lst_of {v : V} {ds : List PyData} {as : List Addr} (h : DenA K H (.list ds) v as) : ∃ a xs bs, v = .ref a ∧ H a = some (.lst xs) ∧ DensA K H ds xs bs ∧ as = a :: bs := by simpa only [DenA] using h
theorem DenA.tup_of {v : V} {ds : List PyData} {as : List Addr} (h : DenA K H (.tuple ds) v as) : ∃ a xs, v = .ref a ∧ SqT K H a xs ∧ DensA K H ds xs as := by simpa only [DenA] using h
end
/-- new data, its lists each its own -/
structure NewD (K : PySem.W.Frag) (H0 H : Hp) (d : PyData) (v : V) (as : List Addr) : Prop where
  den : DenA K H d v as
  nd : as.Nodup
  fr : ∀ a ∈ as, H0 a = none
end L3
namespace Ma
open PySem L2 L3
def lnOf (m : List Int) : Ln := ⟨m.getD 0 0, m.getD 1 0, m.getD 2 0⟩
def entry (l : Ln) : List Key × V := (keyT (lnl l), .bl true)
end Ma

namespace L3
open PySem PySem.Spec PyProof.Rows PySem.Calls L2
/-! ### lists of numbers, lists of points -/
def ilst (ms : List Int) : PyData := .list (ms.map .int)
end L3
namespace Ma
open PySem L2 L3
def plst (ps : List Pt) : PyData := .list (ps.map pt)
end Ma
namespace Tw
open PySem L2 L3
/-- a list of points -/
def PtsAt (K : PySem.W.Frag) (H : Hp) (r : Addr) (ps : List Ma.Pt) : Prop := ∃ xs, H r = some (.lst xs) ∧ Dens K H (ps.map Ma.pt) xs
theorem PtsAt.same {K : PySem.W.Frag} {H H' : Hp} {r : Addr} {ps : List Ma.Pt} (s : Same H H') (h : PtsAt K H r ps) : PtsAt K H' r ps := by
  obtain ⟨xs, h1, h2⟩ := h
  exact ⟨xs, s _ _ h1, Dens.same s _ _ h2⟩
theorem PtsAt.get {K : PySem.W.Frag} {H : Hp} {r : Addr} {ps : List Ma.Pt} (h : PtsAt K H r ps) : ∃ xs, H r = some (.lst xs) ∧ xs.length = ps.length ∧ ∀ (i : Nat) p, ps[i]? = some p → ∃ x, xs[i]? = some x ∧ Den K H (Ma.pt p) x := by
  obtain ⟨xs, h1, h2⟩ := h
  refine ⟨xs, h1, by have := Dens.length h2; rw [List.length_map] at this; exact this, fun i p e => ?_⟩
  exact Dens.at (i := i) h2 (by rw [List.getElem?_map, e]; rfl)
theorem ifT {A B : Prop} (h : A) : if true = true then A else B := by rw [if_pos rfl]; exact h
mutual
theorem DenA.there {K : PySem.W.Frag} {H : Hp} : ∀ (d : PyData) (v : V) (as : List Addr), DenA K H d v as → ∀ a ∈ as, ∃ xs, H a = some (.lst xs)
  | .none, v, as, h, a, m => by simp only [DenA] at h; rw [h.2] at m; cases m
  | .bool b, v, as, h, a, m => by simp only [DenA] at h; rw [h.2] at m; cases m
  | .int i, v, as, h, a, m => by simp only [DenA] at h; rw [h.2] at m; cases m
  | .str x, v, as, h, a, m => by simp only [DenA] at h; rw [h.2] at m; cases m
  | .tuple ds, v, as, h, a, m => by
    simp only [DenA] at h
    obtain ⟨b, xs, e1, e2, e3⟩ := h
    exact DensA.there ds xs as e3 a m
  | .list ds, v, as, h, a, m => by
    simp only [DenA] at h
    obtain ⟨b, xs, bs, e1, e2, e3, e4⟩ := h
    rw [e4] at m
    rcases List.mem_cons.mp m with z | z
    · rw [z]; exact ⟨xs, e2⟩
    · exact DensA.there ds xs bs e3 a z
  | .dict _, v, as, h, a, m => by simp only [DenA] at h
theorem DensA.there {K : PySem.W.Frag} {H : Hp} : ∀ (ds : List PyData) (xs : List V) (as : List Addr), DensA K H ds xs as → ∀ a ∈ as, ∃ xs, H a = some (.lst xs)
  | [], xs, as, h, a, m => by simp only [DensA] at h; rw [h.2] at m; cases m
  | d :: ds, xs, as, h, a, m => by
    simp only [DensA] at h
    obtain ⟨x, r, bs, cs, e1, e2, e3, e4⟩ := h
    rw [e4] at m
    rcases List.mem_append.mp m with z | z
    · exact DenA.there d x bs e2 a z
    · exact DensA.there ds r cs e3 a z
end
mutual
theorem DenA.none_of {K : PySem.W.Frag} {H : Hp} : ∀ (d : PyData) (v : V) (as : List Addr), nol d = true → DenA K H d v as → as = []
  | .none, v, as, _, h => by simp only [DenA] at h; exact h.2
  | .bool b, v, as, _, h => by simp only [DenA] at h; exact h.2
  | .int i, v, as, _, h => by simp only [DenA] at h; exact h.2
  | .str x, v, as, _, h => by simp only [DenA] at h; exact h.2
  | .tuple ds, v, as, n, h => by
    simp only [nol] at n
    simp only [DenA] at h
    obtain ⟨b, xs, e1, e2, e3⟩ := h
    exact DensA.none_of ds xs as n e3
  | .list ds, v, as, n, h => by simp only [nol] at n; cases n
  | .dict _, v, as, n, h => by simp only [nol] at n; cases n
theorem DensA.none_of {K : PySem.W.Frag} {H : Hp} : ∀ (ds : List PyData) (xs : List V) (as : List Addr), nols ds = true → DensA K H ds xs as → as = []
  | [], xs, as, _, h => by simp only [DensA] at h; exact h.2
  | d :: ds, xs, as, n, h => by
    simp only [nols, Bool.and_eq_true] at n
    simp only [DensA] at h
    obtain ⟨x, r, bs, cs, e1, e2, e3, e4⟩ := h
    rw [e4, DenA.none_of d x bs n.1 e2, DensA.none_of ds r cs n.2 e3]; rfl
end
structure PsOk (ps : List Ma.Pt) : Prop where
  good : Ma.Good ps
  two : 2 ≤ ps.length
  len : ps.length ≤ 20
/-! ### told rows: a line and its own list of places -/
def Row (K : PySem.W.Frag) (H : Hp) (ps : List Ma.Pt) (l : Ma.Ln) (x : V) (pl : Addr) : Prop := ∃ t z, x = .ref t ∧ SqT K H t [z, .ref pl] ∧ Den K H (Ma.ln l) z ∧ H pl = some (.lst ((Ma.places l ps).map V.int))
theorem Row.same {K : PySem.W.Frag} {H H' : Hp} {ps : List Ma.Pt} {l : Ma.Ln} {x : V} {pl : Addr} (s : Same H H') (h : Row K H ps l x pl) : Row K H' ps l x pl := by
  obtain ⟨t, z, e, h1, h2, h3⟩ := h
  exact ⟨t, z, e, same_seqT s h1, Den.same s _ _ h2, s _ _ h3⟩
theorem Row.upd {K : PySem.W.Frag} {H : Hp} {ps : List Ma.Pt} {l : Ma.Ln} {x : V} {pl p : Addr} {ys : List V} {o : HO} (hp : H p = some (.lst ys)) (n : pl ≠ p) (h : Row K H ps l x pl) : Row K (upd H p o) ps l x pl := by
  obtain ⟨t, z, e, h1, h2, h3⟩ := h
  exact ⟨t, z, e, upd_seqT hp h1, Den.upd hp _ _ (Ma.nol_ln _) h2, by rw [upd_ne n]; exact h3⟩
theorem Row.lst {K : PySem.W.Frag} {H : Hp} {ps : List Ma.Pt} {l : Ma.Ln} {pl : Addr} (h : H pl = some (.lst ((Ma.places l ps).map V.int))) : Den K H (ilst (Ma.places l ps)) (.ref pl) := den_lst (SqL.of h) (dens_ints _)
theorem Row.den {K : PySem.W.Frag} {H : Hp} {ps : List Ma.Pt} {l : Ma.Ln} {x : V} {pl : Addr} (h : Row K H ps l x pl) : Den K H (Ma.rowD ps l) x := by
  obtain ⟨t, z, rfl, h1, h2, h3⟩ := h
  exact den_tup h1 (Dens.cons h2 (Dens.cons (Row.lst h3) Dens.nil))
structure RowsAt (K : PySem.W.Frag) (H : Hp) (ps : List Ma.Pt) (L : List Ma.Ln) (xs : List V) (as : List Addr) : Prop where
  lx : xs.length = L.length
  la : as.length = L.length
  at_ : ∀ (i : Nat) l, L[i]? = some l → ∃ x pl, xs[i]? = some x ∧ as[i]? = some pl ∧ Row K H ps l x pl
theorem RowsAt.same {K : PySem.W.Frag} {H H' : Hp} {ps : List Ma.Pt} {L : List Ma.Ln} {xs : List V} {as : List Addr} (s : Same H H') (h : RowsAt K H ps L xs as) : RowsAt K H' ps L xs as :=
  ⟨h.lx, h.la, fun i l e => by
    obtain ⟨x, pl, e1, e2, e3⟩ := h.at_ i l e
    exact ⟨x, pl, e1, e2, e3.same s⟩⟩
theorem RowsAt.upd {K : PySem.W.Frag} {H : Hp} {ps : List Ma.Pt} {L : List Ma.Ln} {xs : List V} {as : List Addr} {p : Addr} {ys : List V} {o : HO} (hp : H p = some (.lst ys)) (n : p ∉ as) (h : RowsAt K H ps L xs as) : RowsAt K (L2.upd H p o) ps L xs as :=
  ⟨h.lx, h.la, fun i l e => by
    obtain ⟨x, pl, e1, e2, e3⟩ := h.at_ i l e
    exact ⟨x, pl, e1, e2, e3.upd hp fun z => n (z ▸ List.mem_of_getElem? e2)⟩⟩
end Tw

namespace Ma
open PySem L2 L3
/-! ### how many lie on a line, how many lines there are -/
theorem placesTo_count (l : Ln) (ps : List Pt) : ∀ n, n ≤ ps.length → (placesTo l ps n).length = ((ps.take n).filter fun p => decide (On l p)).length
  | 0, _ => by simp [placesTo]
  | n + 1, h => by
    have ih := placesTo_count l ps n (by omega)
    have e : ps[n]? = some ps[n] := List.getElem?_eq_getElem (by omega)
    have eg : ps.getD n (0, 0) = ps[n] := by rw [List.getD_eq_getElem?_getD, e]; rfl
    rw [placesTo_succ, List.take_succ, e, List.filter_append, List.length_append, ← ih, eg]
    by_cases c : On l ps[n]
    · rw [if_pos c, List.length_append]; simp [c]
    · rw [if_neg c]; simp [c]
theorem places_count (l : Ln) (ps : List Pt) : (places l ps).length = (ps.filter fun p => decide (On l p)).length := by
  have := placesTo_count l ps ps.length (Nat.le_refl _)
  rw [List.take_length] at this
  exact this
end Ma

namespace Ma
open PySem L2 L3
/-! ### the least gap -/
theorem lt_chain {a b c x y z : Int} (hx : 0 < x) (hy : 0 < y) (hz : 0 < z) (h1 : c * x < a * z) (h2 : a * y < b * x) : c * y < b * z := by
  have e1 : c * x * y < a * z * y := Int.mul_lt_mul_of_pos_right h1 hy
  have e2 : a * y * z < b * x * z := Int.mul_lt_mul_of_pos_right h2 hz
  have e3 : a * z * y = a * y * z := by rw [Int.mul_assoc, Int.mul_comm z y, ← Int.mul_assoc]
  have e4 : c * x * y = c * y * x := by rw [Int.mul_assoc, Int.mul_comm x y, ← Int.mul_assoc]
  have e5 : b * x * z = b * z * x := by rw [Int.mul_assoc, Int.mul_comm x z, ← Int.mul_assoc]
  have : c * y * x < b * z * x := by omega
  exact Int.lt_of_mul_lt_mul_right this (Int.le_of_lt hx)
theorem GLt.trans {l m k : Ln} {p q r : Pt} (hl : Told l) (hm : Told m) (hk : Told k) (h1 : GLt l p m q) (h2 : GLt m q k r) : GLt l p k r := by
  unfold GLt at *
  exact lt_chain (x := nn m) (y := nn k) (z := nn l) (a := off m q * off m q) (nn_pos hm.up) (nn_pos hk.up) (nn_pos hl.up) h1 h2
theorem gap_parts {l : Ln} (T : Told l) (p : Pt) : ∃ x y, gapOf l p = [x, y] ∧ 0 < y ∧ x * nn l = off l p * off l p * y ∧ y ≤ nn l ∧ Int.gcd x y = 1 ∧ (0 < x ↔ ¬ On l p) ∧ 0 ≤ x := by
  have n0 := nn_pos T.up
  obtain ⟨x, y, e, y0, h, hb, g⟩ := frac_parts (t := off l p * off l p) (b := nn l) (by omega)
  have xs : 0 ≤ off l p * off l p := sq_nn _
  have x0 : 0 ≤ x := by
    refine Classical.byContradiction fun z => ?_
    have h1 : x * nn l < 0 := Int.mul_neg_of_neg_of_pos (by omega) n0
    have h2 : 0 ≤ off l p * off l p * y := Int.mul_nonneg xs (by omega)
    omega
  refine ⟨x, y, e, y0, h, by omega, g, ?_, x0⟩
  rw [← gap_nought T.up]
  unfold gapOf
  rw [e]
  constructor
  · intro z w
    simp only [List.cons.injEq] at w
    omega
  · intro z
    refine Classical.byContradiction fun w => ?_
    have x00 : x = 0 := by omega
    subst x00
    have : y = 1 := by
      have g' : Int.gcd 0 y = y.natAbs := Int.gcd_zero_left y
      rw [g'] at g; omega
    exact z (by rw [this])
theorem mul4 (x v n m : Int) : x * v * (n * m) = (x * n) * (v * m) := by
  rw [Int.mul_assoc, Int.mul_assoc, ← Int.mul_assoc v, Int.mul_comm v n, Int.mul_assoc n v m]
theorem gap_lt {l m : Ln} (hl : Told l) (hm : Told m) {p q : Pt} {x y u v : Int} (y0 : 0 < y) (v0 : 0 < v) (h1 : x * nn l = off l p * off l p * y) (h2 : u * nn m = off m q * off m q * v) : x * v < u * y ↔ GLt l p m q := by
  have n1 := nn_pos hl.up
  have n2 := nn_pos hm.up
  have nm : 0 < nn l * nn m := Int.mul_pos n1 n2
  have yv : 0 < y * v := Int.mul_pos y0 v0
  have a1 : x * v * (nn l * nn m) = off l p * off l p * nn m * (y * v) := by
    rw [mul4, h1, Int.mul_comm v (nn m), ← mul4]
  have a2 : u * y * (nn l * nn m) = off m q * off m q * nn l * (y * v) := by
    rw [Int.mul_comm (nn l), mul4, h2, Int.mul_comm y (nn l), ← mul4, Int.mul_comm v y]
  unfold GLt
  constructor
  · intro h
    have := Int.mul_lt_mul_of_pos_right h nm
    rw [a1, a2] at this
    exact Int.lt_of_mul_lt_mul_right this (Int.le_of_lt yv)
  · intro h
    have := Int.mul_lt_mul_of_pos_right h yv
    rw [← a1, ← a2] at this
    exact Int.lt_of_mul_lt_mul_right this (Int.le_of_lt nm)
theorem dvd_co {x y v : Int} (g : Int.gcd x y = 1) (h : y ∣ x * v) : y ∣ v := by
  have h1 : y.natAbs ∣ x.natAbs * v.natAbs := by rw [← Int.natAbs_mul]; exact Int.natAbs_dvd_natAbs.mpr h
  have co : Nat.Coprime y.natAbs x.natAbs := by unfold Nat.Coprime; rw [Nat.gcd_comm]; exact g
  exact Int.natAbs_dvd_natAbs.mp (co.dvd_of_dvd_mul_left h1)
theorem low_unique {x y u v : Int} (y0 : 0 < y) (v0 : 0 < v) (g1 : Int.gcd x y = 1) (g2 : Int.gcd u v = 1) (h : x * v = u * y) : x = u ∧ y = v := by
  have d1 : y ∣ v := by
    have : y ∣ x * v := ⟨u, by rw [h, Int.mul_comm]⟩
    exact dvd_co g1 this
  have d2 : v ∣ y := by
    have : v ∣ u * y := ⟨x, by rw [← h, Int.mul_comm]⟩
    exact dvd_co g2 this
  have l1 := Int.le_of_dvd v0 d1
  have l2 := Int.le_of_dvd y0 d2
  have e : y = v := by omega
  subst e
  exact ⟨Int.eq_of_mul_eq_mul_right (by omega) h, rfl⟩
/-- the nearest: least gap of all points and lines they don't lie on -/
structure Near (ps : List Pt) (l : Ln) (p : Pt) : Prop where
  isl : IsL ps l
  mem : p ∈ ps
  no : ¬ On l p
  min : ∀ m q, IsL ps m → q ∈ ps → ¬ On m q → ¬ GLt m q l p
theorem Near.gap {ps : List Pt} {l m : Ln} {p q : Pt} (h1 : Near ps l p) (h2 : Near ps m q) : gapOf l p = gapOf m q := by
  obtain ⟨x, y, e1, y0, b1, _, g1, _⟩ := gap_parts h1.isl.told p
  obtain ⟨u, v, e2, v0, b2, _, g2, _⟩ := gap_parts h2.isl.told q
  have a := h1.min m q h2.isl h2.mem h2.no
  have b := h2.min l p h1.isl h1.mem h1.no
  rw [← gap_lt h2.isl.told h1.isl.told v0 y0 b2 b1] at a
  rw [← gap_lt h1.isl.told h2.isl.told y0 v0 b1 b2] at b
  obtain ⟨rfl, rfl⟩ := low_unique y0 v0 g1 g2 (show x * v = u * y by omega)
  rw [e1, e2]
theorem Near.two {ps : List Pt} (nd : ps.Nodup) {l : Ln} {p : Pt} (h : Near ps l p) : (places l ps).length = 2 := by
  rw [places_count]
  exact least_two nd h.isl h.mem h.no h.min
def NearIs (ps : List Pt) (d : PyData) : Prop := (Col ps ∧ d = .none) ∨ ∃ (i : Nat) (p : Pt) (l : Ln), ps[i]? = some p ∧ Near ps l p ∧ d = .tuple [.int i, ln l, itup (gapOf l p)]
end Ma

namespace Ma
open PySem L2 L3
/-! ### pairs of places -/
def allP : Nat → List (Int × Int)
  | 0 => []
  | n + 1 => allP n ++ (List.range n).map fun (a : Nat) => ((a : Int), (n : Int))
/-- the pairs that were seen: of the first i lines all, of the next one those before (k, m) -/
def SeenP (ps : List Pt) (L : List Ln) (i k m : Nat) (x : Int × Int) : Prop :=
  (∃ i' l, i' < i ∧ L[i']? = some l ∧ x.1 ∈ places l ps ∧ x.2 ∈ places l ps ∧ x.1 < x.2) ∨
  ∃ l, L[i]? = some l ∧ ∃ k' j' : Nat, j' < k' ∧ (k' < k ∨ (k' = k ∧ j' < m)) ∧ (places l ps)[j']? = some x.1 ∧ (places l ps)[k']? = some x.2
/-- a dict of pairs -/
def entP (x : Int × Int) : List Key × V := (keyT [x.1, x.2], .bl true)
end Ma
namespace L3
open PySem PySem.Spec PyProof.Rows PySem.Calls L2
/-! ### a dict is written: other data stay -/
section
variable {K : PySem.W.Frag} {H : Hp} {a : Addr} {xs : List V}
theorem updD_seqT {p : Addr} {kvs : List (List Key × V)} {o : HO} (hp : H p = some (.dT kvs)) (h : SqT K H a xs) : SqT K (upd H p o) a xs := by
  rcases h with (h | ⟨u, h⟩) | h
  · exact .inl (.inl (by rw [upd_ne (ne_of h hp (by intro z; cases z))]; exact h))
  · exact .inl (.inr ⟨u, by rw [upd_ne (ne_of h hp (by intro z; cases z))]; exact h⟩)
  · exact .inr h
theorem updD_seqL {p : Addr} {kvs : List (List Key × V)} {o : HO} (hp : H p = some (.dT kvs)) (h : SqL K H a xs) : SqL K (upd H p o) a xs := by
  rcases h with (h | ⟨u, h⟩) | h
  · exact .inl (.inl (by rw [upd_ne (ne_of h hp (by intro z; cases z))]; exact h))
  · exact .inl (.inr ⟨u, by rw [upd_ne (ne_of h hp (by intro z; cases z))]; exact h⟩)
  · exact .inr h
end
mutual
theorem Den.updD {K : PySem.W.Frag} {H : Hp} {p : Addr} {kvs : List (List Key × V)} {o : HO} (hp : H p = some (.dT kvs)) : ∀ (d : PyData) (v : V), Den K H d v → Den K (upd H p o) d v
  | .none, v, h => by simpa only [Den] using h
  | .bool b, v, h => by simpa only [Den] using h
  | .int i, v, h => by simpa only [Den] using h
  | .str x, v, h => by simpa only [Den] using h
  | .tuple ds, v, h => by
    simp only [Den] at h ⊢
    obtain ⟨a, xs, e1, e2, e3⟩ := h
    exact ⟨a, xs, e1, updD_seqT hp e2, Dens.updD hp ds xs e3⟩
  | .list ds, v, h => by
    simp only [Den] at h ⊢
    obtain ⟨a, xs, e1, e2, e3⟩ := h
    exact ⟨a, xs, e1, updD_seqL hp e2, Dens.updD hp ds xs e3⟩
  | .dict _, v, h => by simp only [Den] at h
theorem Dens.updD {K : PySem.W.Frag} {H : Hp} {p : Addr} {kvs : List (List Key × V)} {o : HO} (hp : H p = some (.dT kvs)) : ∀ (ds : List PyData) (xs : List V), Dens K H ds xs → Dens K (upd H p o) ds xs
  | [], xs, h => by simpa only [Dens] using h
  | d :: ds, xs, h => by
    simp only [Dens] at h ⊢
    obtain ⟨x, r, e1, e2, e3⟩ := h
    exact ⟨x, r, e1, Den.updD hp d x e2, Dens.updD hp ds r e3⟩
end
end L3
namespace Tw
open PySem L2 L3
theorem Row.updD {K : PySem.W.Frag} {H : Hp} {ps : List Ma.Pt} {l : Ma.Ln} {x : V} {pl p : Addr} {kvs : List (List Key × V)} {o : HO} (hp : H p = some (.dT kvs)) (h : Row K H ps l x pl) : Row K (L2.upd H p o) ps l x pl := by
  obtain ⟨t, z, e, h1, h2, h3⟩ := h
  exact ⟨t, z, e, updD_seqT hp h1, Den.updD hp _ _ h2, by rw [upd_ne (ne_of h3 hp (by intro z; cases z))]; exact h3⟩
/-- points and told rows, side by side -/
structure Bag (K : PySem.W.Frag) (ps : List Ma.Pt) (L : List Ma.Ln) (r fa : Addr) (px xs : List V) (as : List Addr) (H : Hp) : Prop where
  hr : H r = some (.lst px)
  hd : Dens K H (ps.map Ma.pt) px
  hf : H fa = some (.lst xs)
  rows : RowsAt K H ps L xs as
theorem Bag.same {K : PySem.W.Frag} {ps : List Ma.Pt} {L : List Ma.Ln} {r fa : Addr} {px xs : List V} {as : List Addr} {H H' : Hp} (s : Same H H') (h : Bag K ps L r fa px xs as H) : Bag K ps L r fa px xs as H' := ⟨s _ _ h.hr, Dens.same s _ _ h.hd, s _ _ h.hf, h.rows.same s⟩
theorem Bag.updD {K : PySem.W.Frag} {ps : List Ma.Pt} {L : List Ma.Ln} {r fa p : Addr} {px xs : List V} {as : List Addr} {H : Hp} {kvs : List (List Key × V)} {o : HO} (hp : H p = some (.dT kvs)) (h : Bag K ps L r fa px xs as H) : Bag K ps L r fa px xs as (L2.upd H p o) :=
  ⟨by rw [upd_ne (ne_of h.hr hp (by intro z; cases z))]; exact h.hr, Dens.updD hp _ _ h.hd, by rw [upd_ne (ne_of h.hf hp (by intro z; cases z))]; exact h.hf, ⟨h.rows.lx, h.rows.la, fun i l e => by
    obtain ⟨x, pl, e1, e2, e3⟩ := h.rows.at_ i l e
    exact ⟨x, pl, e1, e2, e3.updD hp⟩⟩⟩
end Tw

namespace L3
open PySem PySem.Spec PyProof.Rows PySem.Calls L2
/-! ### sep.join(texts) -/
theorem strs_of : ∀ {ts : List Str} {us : List Value}, Vals (ts.map V.str) us → ∃ l : List (Str × Tok), us = strValues l ∧ l.map (·.1) = ts
  | [], _, h => by cases h; exact ⟨[], rfl, rfl⟩
  | t :: ts, _, h => by
    cases h with
    | cons r q =>
      obtain ⟨k, rfl⟩ := r
      obtain ⟨l, rfl, e⟩ := strs_of q
      exact ⟨(t, k) :: l, rfl, by rw [List.map_cons, e]⟩
theorem fold_len (sep : Str) : ∀ (ts : List Str) (n : Nat), ts.foldl (fun a t => a + t.length + sep.length) n = n + (ts.map (·.length)).sum + ts.length * sep.length
  | [], n => by simp
  | t :: ts, n => by
    rw [List.foldl_cons, fold_len sep ts, List.map_cons, List.sum_cons, List.length_cons, Nat.succ_mul]
    omega
def rJoin (K : PySem.W.Frag) : V → List V → Hp → VK → Prop := fun x vs H Q => ∃ sep l ts, x = .str sep ∧ vs = [.ref l] ∧ SqL K H l (ts.map V.str) ∧ (ts.map (·.length)).sum + ts.length * sep.length ≤ sizeLine ∧ Q (.str (Str.join sep ts)) H
section
variable {X : Cx}
theorem mt_join : MtM X "str.join" (rJoin X.K) := by
  intro pins s σ H x vs v us Q I rx rv h
  obtain ⟨sep, l, ts, rfl, rfl, hl, hz, q⟩ := h
  obtain ⟨k, rfl⟩ := rx
  obtain ⟨u, rfl, ru⟩ := rv.one
  cases ru
  obtain ⟨its, r, pl, hz2⟩ := I.list hl
  obtain ⟨ps, rfl, e⟩ := strs_of r
  have hlong : Builtin.Str.tooLong ((ps.map (·.1)).toArray.foldl (· + ·.length + sep.length) 0) = false := by
    rw [List.foldl_toArray, e, fold_len]
    unfold Builtin.Str.tooLong
    simp only [Nat.zero_add, gt_iff_lt, decide_eq_false_iff_not]
    omega
  refine call_meets F.slot_str_join (typeIs_str s sep k) F.entry_str_join (F.args_str_join_2 _ _) (meets_str_join_list sep k l ps hlong) ⟨pl.isList, ?_⟩
  have qj : ∀ (x : Str) (t : Tok) (s' : Shared), Inv X pins σ H s' → x = Str.join sep ts → EP X pins σ Q (.str x t) s' := fun x t s' I' e => ⟨.str x, H, I', ⟨t, rfl⟩, by rw [e]; exact q⟩
  have gl : Builtin.Str.glued sep ts = Str.join sep ts := StrLaws.glued_eq_join sep ts
  have fit : (Builtin.Str.glued sep ts).length ≤ sizeLine := by
    rw [size_glued]
    have : (ts.length - 1) * sep.length ≤ ts.length * sep.length := Nat.mul_le_mul_right _ (by omega)
    omega
  match ps, e with
  | [p], e => exact qj p.1 p.2 s I (by rw [← e]; rfl)
  | [], e => exact ⟨by rw [e]; exact fit, qj _ _ _ (I.tok _) (by rw [← gl, ← e])⟩
  | p :: p2 :: ps, e => exact ⟨by rw [e]; exact fit, qj _ _ _ (I.tok _) (by rw [← gl, ← e])⟩
theorem pg_tupk {K : PySem.W.Frag} {n : Nat} {es : List Expr} {k : Nat} {t : TGs} {pos : Pos} (hc : X.calm = true) (h : PGs X es t) (hK : X.K = K := by rfl)
    (hn : (assignEach es X.env).length = n := by rfl) (hst : (assignEach es X.env).findIdx? (·.1) = none := by rfl) : PG X (.Tuple es k pos) (gTup K n t) := by
  subst hK
  exact pg_tup hc h hn hst
end
end L3

namespace L3
open PySem PySem.Spec PyProof.Rows PySem.Calls L2 PySem.Builtin PySem.Builtin.Str
/-! ### text.split(sign) -/
theorem vals_strsFrom : ∀ (ts : List Str) (t : Nat), Vals (ts.map V.str) (strsFrom t ts)
  | [], _ => .nil
  | x :: ts, t => .cons ⟨_, rfl⟩ (vals_strsFrom ts (t + 1))
def rSplit : V → List V → Hp → VK → Prop := fun x vs H Q => ∃ (z : Str) (c : Nat), x = .str z ∧ vs = [.str ⟨#[c]⟩] ∧ z.length ≤ 1000 ∧ ∀ l, H l = none → Q (.ref l) (upd H l (.lst ((Txt.split z ⟨#[c]⟩).map V.str)))
section
variable {X : Cx}
theorem mt_split : MtM X "str.split" rSplit := by
  intro pins s σ H x vs v us Q I rx rv h
  obtain ⟨z, c, rfl, rfl, hz, q⟩ := h
  obtain ⟨k, rfl⟩ := rx
  obtain ⟨u, rfl, ru⟩ := rv.one
  obtain ⟨k2, rfl⟩ := ru
  have hzs : z.length ≤ sizeLine := Nat.le_trans hz (by decide)
  have hf : H s.heap.objs.size = none := I.hok.fresh (Nat.le_refl _)
  have fin : ∀ (ts : List Str) (its : List Value) (t' : Nat), ts = Txt.split z ⟨#[c]⟩ → ts.length ≤ sizeLine → Vals (ts.map V.str) its →
      EP X pins σ Q (.ref s.heap.objs.size) { s with toks := t', heap := s.heap.push { cls := .type "list", data := .seq its.toArray } } := fun ts its t' e hl hv => by
    refine ⟨.ref s.heap.objs.size, upd H s.heap.objs.size (.lst (ts.map V.str)), I.laid (t' := t') (fun b u e => Heap.get?_push_of_some _ e) (Nat.le_refl _) ?_, rfl, by rw [e]; exact q _ hf⟩
    exact ⟨by rw [List.length_map]; exact hl, its, 0, hv, Heap.get?_push_size _ rfl⟩
  have hy : ((⟨#[c]⟩ : Str).length == 0) = false := rfl
  have sl : (Txt.split z ⟨#[c]⟩).length ≤ sizeLine := Nat.le_trans (split_le z ⟨#[c]⟩) (Nat.le_trans (show z.length + 2 ≤ 2000 by omega) (by decide))
  cases h1 : (decide (z.length < (⟨#[c]⟩ : Str).length) || decide (strKind z < strKind ⟨#[c]⟩)) with
  | true =>
    have e : Txt.split z ⟨#[c]⟩ = [z] := by unfold Txt.split; rw [if_pos h1]
    exact call_meets F.slot_str_split (typeIs_str _ _ _) F.entry_str_split (F.args_str_split_2 _ _) (meets_str_split_cannot_occur z ⟨#[c]⟩ k k2 h1) (fin [z] [.str z k] s.toks e.symm (by show 1 ≤ sizeLine; decide) (.cons ⟨_, rfl⟩ .nil))
  | false =>
    cases h2 : (occurrences z ⟨#[c]⟩ 0 z.length (z.length + 1)).isEmpty with
    | true =>
      have e : Txt.split z ⟨#[c]⟩ = [z] := by unfold Txt.split; rw [if_neg (by rw [h1]; simp), if_pos h2]
      exact call_meets F.slot_str_split (typeIs_str _ _ _) F.entry_str_split (F.args_str_split_2 _ _) (meets_str_split_not_found z ⟨#[c]⟩ k k2 h1 hy h2) (fin [z] [.str z k] s.toks e.symm (by show 1 ≤ sizeLine; decide) (.cons ⟨_, rfl⟩ .nil))
    | false =>
      have e : Txt.split z ⟨#[c]⟩ = partsBetween z (occurrences z ⟨#[c]⟩ 0 z.length (z.length + 1)) (⟨#[c]⟩ : Str).length := by unfold Txt.split; rw [if_neg (by rw [h1]; simp), if_neg (by rw [h2]; simp)]
      refine call_meets F.slot_str_split (typeIs_str _ _ _) F.entry_str_split (F.args_str_split_2 _ _) (meets_str_split_sep z ⟨#[c]⟩ k k2 h1 hy h2 hzs (by rw [← e]; exact sl)) ?_
      exact fin _ _ _ e.symm (by rw [← e]; exact sl) (vals_strsFrom _ _)
end
/-! ### a joined text falls apart in one way -/
theorem cut_eq {c : Nat} : ∀ {a b x y : List Nat}, c ∉ a → c ∉ b → a ++ c :: x = b ++ c :: y → a = b ∧ x = y
  | [], [], x, y, _, _, h => by
    simp only [List.nil_append, List.cons.injEq, true_and] at h
    exact ⟨rfl, h⟩
  | [], b :: bs, x, y, _, hb, h => by
    simp only [List.nil_append, List.cons_append, List.cons.injEq] at h
    exact absurd (h.1 ▸ List.mem_cons_self) hb
  | a :: as, [], x, y, ha, _, h => by
    simp only [List.nil_append, List.cons_append, List.cons.injEq] at h
    exact absurd (h.1 ▸ List.mem_cons_self) ha
  | a :: as, b :: bs, x, y, ha, hb, h => by
    simp only [List.cons_append, List.cons.injEq] at h
    obtain ⟨rfl, h⟩ := h
    obtain ⟨rfl, e⟩ := cut_eq (fun z => ha (List.mem_cons_of_mem _ z)) (fun z => hb (List.mem_cons_of_mem _ z)) h
    exact ⟨rfl, e⟩
theorem join_two (c : Nat) (a b : Str) (r : List Str) : (Str.join ⟨#[c]⟩ (a :: b :: r)).cps.toList = a.cps.toList ++ c :: (Str.join ⟨#[c]⟩ (b :: r)).cps.toList := by
  show ((a ++ ⟨#[c]⟩ ++ Str.join ⟨#[c]⟩ (b :: r)).cps).toList = _
  rw [Str.cps_append, Str.cps_append]
  simp
theorem str_ext {a b : Str} (h : a.cps.toList = b.cps.toList) : a = b := Str.ext' (Array.toList_inj.mp h)
theorem join_inj {c : Nat} : ∀ {ts us : List Str}, ts ≠ [] → us ≠ [] → (∀ t ∈ ts, c ∉ t.cps.toList) → (∀ t ∈ us, c ∉ t.cps.toList) → Str.join ⟨#[c]⟩ ts = Str.join ⟨#[c]⟩ us → ts = us
  | [], _, h, _, _, _, _ => absurd rfl h
  | _, [], _, h, _, _, _ => absurd rfl h
  | [a], [b], _, _, _, _, h => by
    have : a = b := h
    rw [this]
  | [a], b :: b2 :: r, _, _, ha, _, h => by
    have e : a.cps.toList = b.cps.toList ++ c :: (Str.join ⟨#[c]⟩ (b2 :: r)).cps.toList := by rw [← join_two, ← h]; rfl
    exact absurd (by rw [e]; simp) (ha a (by simp))
  | a :: a2 :: r, [b], _, _, _, hb, h => by
    have e : b.cps.toList = a.cps.toList ++ c :: (Str.join ⟨#[c]⟩ (a2 :: r)).cps.toList := by rw [← join_two, h]; rfl
    exact absurd (by rw [e]; simp) (hb b (by simp))
  | a :: a2 :: r, b :: b2 :: q, _, _, ha, hb, h => by
    have e : a.cps.toList ++ c :: (Str.join ⟨#[c]⟩ (a2 :: r)).cps.toList = b.cps.toList ++ c :: (Str.join ⟨#[c]⟩ (b2 :: q)).cps.toList := by rw [← join_two, ← join_two, h]
    obtain ⟨e1, e2⟩ := cut_eq (ha a (by simp)) (hb b (by simp)) e
    rw [str_ext e1, join_inj (by simp) (by simp) (fun t ht => ha t (List.mem_cons_of_mem _ ht)) (fun t ht => hb t (List.mem_cons_of_mem _ ht)) (str_ext e2)]
theorem split_join {c : Nat} {ts : List Str} (h : ts ≠ []) (hf : ∀ t ∈ ts, c ∉ t.cps.toList) : Txt.split (Str.join ⟨#[c]⟩ ts) ⟨#[c]⟩ = ts := by
  refine join_inj (c := c) (fun z => ?_) h (StrLaws.split_free _ c) hf (StrLaws.join_split _ _)
  have := split_pos (Str.join ⟨#[c]⟩ ts) ⟨#[c]⟩
  rw [z] at this; simp at this
end L3
namespace Ma
open PySem L2 L3
def numT (i : Int) : Str := Str.ofString (toString i)
def ptT (p : Pt) : Str := numT p.1 ++ Str.ofString "," ++ numT p.2
/-- points, written -/
def txt (ps : List Pt) : Str := Str.join (Str.ofString " ") (ps.map ptT)
theorem numT_len {i : Int} (h : -1000000 ≤ i ∧ i ≤ 1000000) : (numT i).length ≤ 8 := by
  unfold numT
  rw [ofString_length]
  exact int_text_length_le10 (k := 7) (by decide) (by omega)
theorem log_small {i : Int} (h : -1000000 ≤ i ∧ i ≤ 1000000) : i.natAbs.log2 < 1920 := by
  by_cases c : i.natAbs = 0
  · rw [c]; decide
  · have : i.natAbs.log2 < 20 := (Nat.log2_lt c).mpr (by omega)
    omega
theorem ptT_len {p : Pt} (h : InB p) : (ptT p).length ≤ 17 := by
  unfold ptT
  rw [Str.length_append, Str.length_append]
  have a := numT_len ⟨h.1, h.2.1⟩
  have b := numT_len ⟨h.2.2.1, h.2.2.2⟩
  have c : (Str.ofString ",").length = 1 := by decide +kernel
  omega
theorem sum_le {ts : List Str} (h : ∀ t ∈ ts, t.length ≤ 17) : (ts.map (·.length)).sum ≤ 17 * ts.length := by
  induction ts with
  | nil => simp
  | cons t ts ih =>
    rw [List.map_cons, List.sum_cons, List.length_cons]
    have := h t (by simp)
    have := ih fun x hx => h x (List.mem_cons_of_mem _ hx)
    omega
theorem ofStr_cps (s : String) : (Str.ofString s).cps.toList = s.toList.map Char.toNat := by
  rw [Str.ofString_eq_toList]
theorem digit_range {c : Char} (h : c.isDigit = true) : 48 ≤ c.toNat ∧ c.toNat ≤ 57 := by
  simp only [Char.isDigit, Bool.and_eq_true, decide_eq_true_eq] at h
  obtain ⟨h1, h2⟩ := h
  have e : c.val.toNat = c.toNat := rfl
  have a1 := UInt32.le_iff_toNat_le.mp h1
  have a2 := UInt32.le_iff_toNat_le.mp h2
  have b1 : (48 : UInt32).toNat = 48 := rfl
  have b2 : (57 : UInt32).toNat = 57 := rfl
  rw [e] at a1 a2
  exact ⟨a1, a2⟩
/-- the signs of a written number -/
theorem numT_signs (i : Int) : ∀ ch ∈ (numT i).cps.toList, ch = 45 ∨ (48 ≤ ch ∧ ch ≤ 57) := by
  intro ch hc
  unfold numT at hc
  rw [ofStr_cps] at hc
  obtain ⟨c, hd, rfl⟩ := List.mem_map.mp hc
  clear hc
  have nat : ∀ n : Nat, c ∈ (Nat.repr n).toList → 48 ≤ c.toNat ∧ c.toNat ≤ 57 := fun n h => by
    rw [Nat.toList_repr] at h
    exact digit_range (Nat.isDigit_of_mem_toDigits (by decide) (by decide) h)
  rw [Int.toString_eq_repr, Int.repr_eq_if] at hd
  split at hd
  · exact .inr (nat _ hd)
  · rw [String.toList_append, List.mem_append] at hd
    rcases hd with hd | hd
    · have : c = '-' := by simpa using hd
      subst this; exact .inl (by decide)
    · exact .inr (nat _ hd)
theorem ptT_signs (p : Pt) : ∀ ch ∈ (ptT p).cps.toList, ch = 44 ∨ ch = 45 ∨ (48 ≤ ch ∧ ch ≤ 57) := by
  intro ch hc
  unfold ptT at hc
  rw [Str.cps_append, Str.cps_append, Array.toList_append, Array.toList_append, List.mem_append, List.mem_append] at hc
  rcases hc with (h | h) | h
  · exact .inr (numT_signs _ ch h)
  · have e : (Str.ofString ",").cps.toList = [44] := by decide +kernel
    rw [e] at h
    exact .inl (by simpa using h)
  · exact .inr (numT_signs _ ch h)
theorem txt_split {ps : List Pt} (h : ps ≠ []) : Txt.split (txt ps) ⟨#[32]⟩ = ps.map ptT := by
  have e : Str.ofString " " = ⟨#[32]⟩ := by decide +kernel
  unfold txt
  rw [e]
  refine split_join (by simpa using h) fun t ht hc => ?_
  obtain ⟨p, _, rfl⟩ := List.mem_map.mp ht
  have := ptT_signs p 32 hc
  omega
theorem ptT_join (p : Pt) : ptT p = Str.join ⟨#[44]⟩ [numT p.1, numT p.2] := by
  have e : Str.ofString "," = ⟨#[44]⟩ := by decide +kernel
  unfold ptT
  rw [e]; rfl
theorem ptT_split (p : Pt) : Txt.split (ptT p) ⟨#[44]⟩ = [numT p.1, numT p.2] := by
  rw [ptT_join]
  refine split_join (by simp) fun t ht hc => ?_
  rcases List.mem_cons.mp ht with rfl | ht
  · have := numT_signs _ 44 hc; omega
  · obtain rfl := List.mem_singleton.mp ht
    have := numT_signs _ 44 hc; omega
end Ma

namespace L3
open PySem PySem.Spec PyProof.Rows PySem.Calls L2 PySem.Builtin PySem.Builtin.Str
/-! ### text[a:], text[:b] -/
def cutS (z : Str) (a b : Nat) : Str := ⟨((z.cps.toList.drop a).take (b - a)).toArray⟩
theorem cutS_all (z : Str) : cutS z 0 z.length = z := by
  unfold cutS
  refine Str.ext' ?_
  show ((z.cps.toList.drop 0).take (z.length - 0)).toArray = z.cps
  rw [List.drop_zero, Nat.sub_zero, List.take_of_length_le (by show z.cps.toList.length ≤ z.cps.size; simp)]
theorem cutS_len (z : Str) {a b : Nat} (h : a ≤ b) (hb : b ≤ z.length) : (cutS z a b).length = b - a := by
  show ((z.cps.toList.drop a).take (b - a)).toArray.size = b - a
  have : z.cps.toList.length = z.length := by show z.cps.toList.length = z.cps.size; simp
  rw [List.size_toArray, List.length_take, List.length_drop, this]; omega
/-- bounds that come to a and b -/
def SlAb (lo hi : Option Int) (n a b : Nat) : Prop := strSliceIndices lo hi 1 n = strSliceIndices (some (a : Int)) (some (b : Int)) 1 n ∧ a ≤ b ∧ b ≤ n
theorem slAb_from (k n : Nat) : SlAb (some (k : Int)) none n (min k n) n := by
  refine ⟨?_, Nat.min_le_right _ _, Nat.le_refl _⟩
  have h1 : ¬ ((k : Int) < 0) := by omega
  have h2 : ¬ (((min k n : Nat) : Int) < 0) := by omega
  have h3 : ¬ ((n : Int) < 0) := by omega
  simp only [strSliceIndices, h1, h2, h3, if_false, show ((1 : Int) > 0) = True from by simp, if_true]
  congr 1 <;> omega
theorem slAb_to (k n : Nat) : SlAb none (some (k : Int)) n 0 (min k n) := by
  refine ⟨?_, Nat.zero_le _, Nat.min_le_right _ _⟩
  have h1 : ¬ ((k : Int) < 0) := by omega
  have h2 : ¬ (((min k n : Nat) : Int) < 0) := by omega
  have h3 : ¬ (((0 : Nat) : Int) < 0) := by omega
  simp only [strSliceIndices, h1, h2, h3, if_false, show ((1 : Int) > 0) = True from by simp, if_true]
  congr 1 <;> omega
def rSlS : V → Option Int → Option Int → Hp → VK → Prop := fun x lo hi H Q => ∃ (z : Str) (a b : Nat), x = .str z ∧ z.length ≤ sizeLine ∧ SlAb lo hi z.length a b ∧ Q (.str (cutS z a b)) H
section
variable {X : Cx}
theorem part_of {v : Value} {o : Option Int} (h : IsPart v o) : ∃ p : Option (Int × Tok), v = partValue p ∧ p.map (·.1) = o := by
  cases h with
  | none => exact ⟨none, rfl, rfl⟩
  | int i t => exact ⟨some (i, t), rfl, rfl⟩
theorem sl_str : SlR X rSlS := by
  intro pins s σ H x v vl vu lo hi sl Q I rx hs pl pu h
  obtain ⟨z, a, b, rfl, hz, ⟨he, hab, hb⟩, q⟩ := h
  obtain ⟨t, rfl⟩ := rx
  obtain ⟨l, rfl, el⟩ := part_of pl
  obtain ⟨u, rfl, eu⟩ := part_of pu
  refine ⟨"str", _, F.slot_str_getitem.lookup, typeIs_str _ _ _, wpAny_getItem_str_slice (l := l) (u := u) (st := none) hs rfl ?_⟩
  have ep : slicePicked z l u none = strSliceIndices (some (a : Int)) (some (b : Int)) 1 z.length := by
    unfold slicePicked
    rw [el, eu, ← he]; rfl
  have ef : (⟨((slicePicked z l u none).filterMap (z.cps[·]?)).toArray⟩ : Str) = cutS z a b := by
    unfold cutS
    rw [ep, StrLaws.sliced_plain z hab hb]
  have len : (slicePicked z l u none).length = b - a := by
    rw [ep, StrLaws.strSliceIndices_plain hab hb, List.length_map, List.length_range]
  unfold sliceMade
  split
  · rename_i c
    have c2 : (slicePicked z l u none).length = z.length := by
      simp only [Bool.and_eq_true, beq_iff_eq] at c
      exact c.2
    rw [len] at c2
    have ea : a = 0 := by omega
    have eb : b = z.length := by omega
    subst ea eb
    rw [cutS_all] at q
    exact ⟨.str z, H, I, ⟨t, rfl⟩, q⟩
  · rw [ef]
    refine ⟨by rw [cutS_len z hab hb]; omega, .str (cutS z a b), H, I.tok _, ⟨_, rfl⟩, q⟩
end
end L3

namespace L3
open PySem PySem.Spec PyProof.Rows PySem.Calls L2 PySem.Builtin PySem.Builtin.Str
/-! ### words.insert(k, x), int(text) -/
def rInsert : V → List V → Hp → VK → Prop := fun x vs H Q => ∃ (l : Addr) (xs : List V) (i : Int) (y : V), x = .ref l ∧ vs = [.int i, y] ∧ H l = some (.lst xs) ∧ 0 ≤ i ∧ i ≤ xs.length ∧ xs.length < 1000 ∧ Q .non (upd H l (.lst (xs.take i.toNat ++ [y] ++ xs.drop i.toNat)))
theorem insert_fits {i : Int} {n : Nat} (h0 : 0 ≤ i) (h1 : i ≤ n) (h2 : n < 1000) : ¬ (!Builtin.List.listFitsIndex i) = true := by
  unfold Builtin.List.listFitsIndex
  have a : -(2 ^ 63 : Int) ≤ i := by omega
  have b : i < 2 ^ 63 := by omega
  rw [decide_eq_true a, decide_eq_true b]; decide
theorem insert_at {i : Int} {its : List Value} {w : Value} (h0 : 0 ≤ i) (h1 : i ≤ its.length) :
    (fun xs : Array Value => have k := if i < 0 then (i + (xs.size : Int)).toNat else min i.toNat xs.size; (xs.extract 0 k).push w ++ xs.extract k) its.toArray = (its.take i.toNat ++ [w] ++ its.drop i.toNat).toArray := by
  have e1 : (if i < 0 then (i + (its.toArray.size : Int)).toNat else min i.toNat its.toArray.size) = i.toNat := by
    rw [if_neg (by omega), List.size_toArray, Nat.min_eq_left (by omega)]
  show (its.toArray.extract 0 (if i < 0 then (i + (its.toArray.size : Int)).toNat else min i.toNat its.toArray.size)).push w ++ its.toArray.extract (if i < 0 then (i + (its.toArray.size : Int)).toNat else min i.toNat its.toArray.size) = _
  rw [e1]
  apply Array.toList_inj.mp
  simp [List.extract_eq_drop_take]
  exact List.take_of_length_le (by rw [List.length_drop]; exact Nat.le_refl _)
section
variable {X : Cx}
theorem mt_insert : MtM X "list.insert" rInsert := by
  intro pins s σ H x vs v us Q I rx rv h
  obtain ⟨l, xs, i, y, rfl, rfl, hH, h0, h1, hx, q⟩ := h
  cases rx
  obtain ⟨u, w, rfl, ru, rw'⟩ := rv.two
  obtain ⟨t, rfl⟩ := ru
  obtain ⟨z, its, n, r, hl, e⟩ := I.lstM hH
  have big : (1001 : Nat) ≤ sizeLine := by decide
  have isz : its.toArray.size ≤ sizeLine := by rw [List.size_toArray]; exact Nat.le_trans (Nat.le_of_lt (show its.length < 1001 by omega)) big
  have hv : Vals (xs.take i.toNat ++ [y] ++ xs.drop i.toNat) (its.take i.toNat ++ [w] ++ its.drop i.toNat) := Vals.append (Vals.append (Vals.take _ r) (.cons rw' .nil)) (Vals.drop _ r)
  refine call_meets F.slot_list_insert ⟨_, e, rfl⟩ F.entry_list_insert (F.args_list_insert_3 _ _ _) (AutoSeq1.list_insert_list_int_val_1 l its.toArray n i t w (insert_fits h0 h1 hx) isz) ⟨e, ?_⟩
  refine ⟨.non, _, I.lset (its' := its.take i.toNat ++ [w] ++ its.drop i.toNat) hH e (insert_at h0 (by omega)) hv ?_, rfl, q⟩
  rw [List.length_append, List.length_append, List.length_take, List.length_drop]
  simp only [List.length_cons, List.length_nil]
  exact Nat.le_trans (show min i.toNat xs.length + (0 + 1) + (xs.length - i.toNat) ≤ 1001 by omega) big
theorem call_intS : CallR X (.type "int") (fun xs H Q => ∃ (x : Str) (n : Int), xs = [.str x] ∧ PySem.intText? x = some n ∧ x.length ≤ 640 ∧ Q (.int n) H) := by
  intro pins s σ H xs us Q I r h
  obtain ⟨x, n, rfl, hn, hl, q⟩ := h
  obtain ⟨u, rfl, t, rfl⟩ := vals1 r
  exact PySem.W.KIN.call_text hn hl ⟨.int n, H, I.tok _, ⟨_, rfl⟩, q⟩
end
end L3

namespace Ma
open PySem L2 L3 PySem.NumText
/-! ### which texts write a number -/
/-- figures without a needless nought -/
def Figs (cs : List Nat) : Prop := AllDigits cs ∧ cs ≠ [] ∧ (cs = [48] ∨ cs.head? ≠ some 48)
theorem chars_back {cs : List Nat} (h : AllDigits cs) : (cs.map Char.ofNat).map Char.toNat = cs := by
  rw [List.map_map]
  calc cs.map (Char.toNat ∘ Char.ofNat) = cs.map id := List.map_congr_left fun c hc => by
        have := h c hc
        show (Char.ofNat c).toNat = c
        have v : c.isValidChar := Or.inl (by omega)
        unfold Char.ofNat
        rw [dif_pos v]; rfl
    _ = cs := List.map_id _
theorem figs_digits {cs : List Nat} (h : Figs cs) : (Nat.toDigits 10 (digitsVal cs)).map Char.toNat = cs := by
  obtain ⟨h1, h2, h3⟩ := h
  match cs, h2 with
  | c :: r, _ =>
    have e := toDigits_digitsVal r.length (c :: r) rfl h1 (by
      rcases h3 with h3 | h3
      · left; injection h3 with _ h3; rw [h3]; rfl
      · right
        refine ⟨c, r, rfl, ?_⟩
        have := h1.head
        have ne : c ≠ 48 := fun z => h3 (by rw [z]; rfl)
        omega)
    rw [e, chars_back h1]
theorem numT_nat (m : Nat) : (numT (m : Int)).cps.toList = (Nat.toDigits 10 m).map Char.toNat := by
  unfold numT
  rw [ofStr_cps]
  show (Nat.repr m).toList.map Char.toNat = _
  rw [Nat.toList_repr]
theorem numT_neg (m : Nat) : (numT (-((m + 1 : Nat) : Int))).cps.toList = 45 :: (Nat.toDigits 10 (m + 1)).map Char.toNat := by
  unfold numT
  rw [ofStr_cps]
  show ("-" ++ Nat.repr (m + 1)).toList.map Char.toNat = _
  rw [String.toList_append, List.map_append, Nat.toList_repr]
  rfl
/-- a text of figures is the number that it writes, and so with - ahead -/
theorem figs_num {w : Str} (h : Figs w.cps.toList) : w = numT ((digitsVal w.cps.toList : Nat) : Int) := by
  refine str_ext ?_
  rw [numT_nat, figs_digits h]
theorem figs_neg {w : Str} {cs : List Nat} (e : w.cps.toList = 45 :: cs) (h : Figs cs) (h0 : cs ≠ [48]) : w = numT (-((digitsVal cs : Nat) : Int)) := by
  have pos : 0 < digitsVal cs := by
    obtain ⟨h1, h2, h3⟩ := h
    match cs, h2 with
    | c :: r, _ =>
      rcases h3 with h3 | h3
      · exact absurd h3 h0
      · refine digitsVal_pos ?_
        have := h1.head
        have ne : c ≠ 48 := fun z => h3 (by rw [z]; rfl)
        omega
  obtain ⟨m, em⟩ : ∃ m, digitsVal cs = m + 1 := ⟨digitsVal cs - 1, by omega⟩
  refine str_ext ?_
  rw [em, numT_neg, ← em, figs_digits h, e]
/-- and each number is written so -/
theorem digits_figs (m : Nat) : Figs ((Nat.toDigits 10 m).map Char.toNat) ∧ digitsVal ((Nat.toDigits 10 m).map Char.toNat) = m := by
  have all : AllDigits ((Nat.toDigits 10 m).map Char.toNat) := fun c hc => by
    obtain ⟨ch, hch, rfl⟩ := List.mem_map.mp hc
    exact digit_range (Nat.isDigit_of_mem_toDigits (by decide) (by decide) hch)
  have val : digitsVal ((Nat.toDigits 10 m).map Char.toNat) = m := PySem.W.KIN.val_back m
  have len := Nat.length_toDigits_pos (b := 10) (n := m)
  refine ⟨⟨all, fun z => ?_, ?_⟩, val⟩
  · rw [List.map_eq_nil_iff] at z
    rw [z] at len; simp at len
  · by_cases c : ((Nat.toDigits 10 m).map Char.toNat).head? = some 48
    · left
      have e := toDigits_all _ all
      rw [val] at e
      generalize hd : Nat.toDigits 10 m = ds at *
      match ds, len with
      | d :: r, _ =>
        rw [List.map_cons, List.head?_cons] at c
        have d48 : d.toNat = 48 := Option.some.inj c
        rw [List.map_cons, d48, List.dropWhile_cons, if_pos (by decide)] at e
        have r0 : r = [] := by
          cases hh : (r.map Char.toNat).dropWhile (· == 48) with
          | nil =>
            rw [hh] at e
            injection e
          | cons a t =>
            rw [hh] at e
            have l1 : ((r.map Char.toNat).dropWhile (· == 48)).length ≤ (r.map Char.toNat).length := (List.dropWhile_sublist _).length_le
            rw [hh] at l1
            have l2 := congrArg List.length e
            simp only [List.length_cons, List.length_map] at l1 l2
            omega
        rw [r0, List.map_cons, d48]; rfl
    · exact .inr c
end Ma

namespace L3
open PySem PySem.Spec PyProof.Rows PySem.Calls L2
/-! ### for sign in text -/
def Its (x : Str) : It := ⟨fun i _ => i < x.cps.size, fun i H v H' => H' = H ∧ ∃ c, x.cps[i]? = some c ∧ v = .str ⟨#[c]⟩, fun i _ => i = x.cps.size⟩
theorem turn_str {P : Program} {w : World} {K : PySem.W.Frag} {tg : Expr} (ty : String) (it : Addr) (x : Str) (t : Tok) (hn : ["enumerate", "zip", "dict_itemiterator", "dict_reverseitemiterator", "odict_iterator", "itertools.zip_longest", "itertools.pairwise"].contains ty = false)
    (W : ∀ A : Around, A.handled = none → Walks P w A it [it] [it] x.cps.size (SignAt x) (fun i h => h.IsStrIter it ty x t i)) (S : ∀ (A : Around) (i : Nat) (s : Shared) (Q : Value → Shared → Prop) (E : Value → Shared → Prop), s.heap.IsStrIter it ty x t i → Q (.ref it) s → wpAny (model P w) A (pyIter (.ref it)) Q E s) :
    Turn P w K tg (Its x) [it] it (fun i h => h.IsStrIter it ty x t i) where
  mem := by simp
  obj := fun i h st b hb => by
    have e : b = it := by simpa using hb
    subst e
    obtain ⟨o, e, c, d⟩ := st
    exact ⟨o, e, fun v z => by rw [d] at z; cases z⟩
  keep := fun i h h' st k => by
    obtain ⟨o, e, r⟩ := st
    exact ⟨o, k it (by simp) o e, r⟩
  item := by
    intro X hP hw hK hc i pins s σ H E I hf st hg
    subst hP hw hK
    obtain ⟨f0, f1, f2, f3, f4, f5⟩ := hf it (by simp)
    refine (W X.A (I.ok.hd hc)).item i s _ _ hg st fun v h' tk hv st' kk => ?_
    obtain ⟨c, u, ec, rfl⟩ := hv
    have I1 : Inv X pins σ H { s with heap := h', toks := tk } := I.turned (fun b o hb e => kk b o (by simpa using hb) e) f0 f1 f3 f4 f5
    obtain ⟨o, e, cl, d⟩ := id st'
    exact ⟨_, rfl, go_of (s := { s with heap := h', toks := tk }) e cl d hn ⟨.str ⟨#[c]⟩, H, I1, ⟨u, rfl⟩, ⟨rfl, c, ec, rfl⟩, st', fun b hb => (hf b hb).1⟩⟩
  done := by
    intro X hP hw hK hc i pins s σ H E I hf st hg
    subst hP hw hK
    obtain ⟨f0, f1, f2, f3, f4, f5⟩ := hf it (by simp)
    have hi : i = x.cps.size := hg
    subst hi
    exact (W X.A (I.ok.hd hc)).done s _ _ st fun h' tk kk => ⟨rfl, I.turned (fun b o hb e => kk b o (by simpa using hb) e) f0 f1 f3 f4 f5⟩
  self := S
def iStr (tl : TE) : TI := fun σ H R => tl σ H fun v H1 => ∃ x, v = .str x ∧ R (Its x) H1
section
variable {X : Cx} {tg : Expr}
theorem pi_str {l : Expr} {tl : TE} (hl : PE X l tl) : PI X tg l (iStr tl) := by
  intro pins s σ H R I h
  refine thn (hl pins s σ H _ I h) fun v s1 ⟨x, H1, I1, r1, q1⟩ => ?_
  obtain ⟨z, e, q⟩ := q1
  subst e
  obtain ⟨t, rfl⟩ := r1
  have fin : ∀ b ∈ [s1.heap.objs.size], FpOk X pins H1 b := fun b hb => by
    have e : b = s1.heap.objs.size := by simpa using hb
    subst e
    exact I1.fpOk (Nat.le_refl _) (I1.hok.fresh (Nat.le_refl _))
  cases ha : z.cps.all (· < 128)
  · refine wpAny_pyIter_wide ha ?_
    exact ⟨s1.heap.objs.size, [s1.heap.objs.size], _, _, H1, rfl, I1.kept (t' := s1.toks) fun b o e => Heap.get?_push_of_some _ e, turn_str "str_iterator" _ z t (by decide) (fun A hA => Walks.strWide hA _ z t) (fun A i s Q E st h => wpAny_pyIter_striter_wide st h), ⟨_, Heap.get?_push_size _ rfl, rfl, rfl⟩, fin, q⟩
  · refine wpAny_pyIter_ascii ha ?_
    exact ⟨s1.heap.objs.size, [s1.heap.objs.size], _, _, H1, rfl, I1.kept (t' := s1.toks) fun b o e => Heap.get?_push_of_some _ e, turn_str "str_ascii_iterator" _ z t (by decide) (fun A hA => Walks.strAscii hA _ z t) (fun A i s Q E st h => wpAny_pyIter_striter_ascii st h), ⟨_, Heap.get?_push_size _ rfl, rfl, rfl⟩, fin, q⟩
theorem for_str {x : Str} {g : TG} {tb : TS} {D : Ends} {σ : L2.St} {H : Hp} (Pv : Nat → L2.St → Hp → Prop) (h0 : Pv 0 σ H)
    (hs : ∀ i c σ H, x.cps[i]? = some c → Pv i σ H → g (.str ⟨#[c]⟩) σ H fun σ2 H2 => tb { D with nx := Pv (i + 1), ct := Pv (i + 1), bk := D.nx } σ2 H2) (hd : ∀ σ H, Pv x.cps.size σ H → D.nx σ H) :
    ∃ W : Nat → Nat → L2.St → Hp → Prop, (∃ m, W 0 m σ H) ∧ ∀ i m σ H, W i m σ H →
      ((Its x).stop i H ∧ D.nx σ H) ∨ ((Its x).go i H ∧ ∃ N : L2.St → Hp → Prop, (∀ σ' H', N σ' H' → ∃ m', m' < m ∧ W (i + 1) m' σ' H') ∧ ∀ v H', (Its x).yld i H v H' → g v σ H' fun σ2 H2 => tb { D with nx := N, ct := N, bk := D.nx } σ2 H2) := by
  refine ⟨fun i m σ H => m = x.cps.size - i ∧ i ≤ x.cps.size ∧ Pv i σ H, ⟨x.cps.size, by simp, Nat.zero_le _, h0⟩, ?_⟩
  rintro i m σ H ⟨rfl, hi, p⟩
  by_cases hlt : i < x.cps.size
  · refine .inr ⟨hlt, Pv (i + 1), fun σ' H' p' => ⟨x.cps.size - (i + 1), by omega, rfl, hlt, p'⟩, fun v H' y => ?_⟩
    obtain ⟨rfl, c, ec, rfl⟩ := y
    exact hs i c σ _ ec p
  · have e : i = x.cps.size := by omega
    subst e
    exact .inl ⟨rfl, hd σ H p⟩
end
end L3

namespace Ma
open PySem L2 L3 PySem.NumText
/-! ### a word that writes a number within the bounds -/
def NumW (w : Str) (n : Int) : Prop := w = numT n ∧ -1000000 ≤ n ∧ n ≤ 1000000
structure Okf (F : List Nat) : Prop where
  figs : Figs F
  len : F.length ≤ 7
  val : digitsVal F ≤ 1000000
theorem digits_ok {m : Nat} (h : m ≤ 1000000) : Okf ((Nat.toDigits 10 m).map Char.toNat) := by
  obtain ⟨h1, h2⟩ := digits_figs m
  refine ⟨h1, ?_, by rw [h2]; exact h⟩
  rw [List.length_map]
  exact (Nat.length_toDigits_le_iff (by decide) (by decide)).mpr (by omega)
theorem num_pos {w : Str} (h : w.cps.toList.head? ≠ some 45) (n : Int) : NumW w n ↔ Okf w.cps.toList ∧ n = (digitsVal w.cps.toList : Nat) := by
  constructor
  · rintro ⟨rfl, h1, h2⟩
    by_cases c : 0 ≤ n
    · obtain ⟨m, rfl⟩ := Int.eq_ofNat_of_zero_le c
      rw [numT_nat]
      exact ⟨digits_ok (by omega), by rw [(digits_figs m).2]⟩
    · obtain ⟨m, rfl⟩ : ∃ m : Nat, n = -((m + 1 : Nat) : Int) := ⟨(-n - 1).toNat, by omega⟩
      rw [numT_neg] at h
      exact absurd rfl h
  · rintro ⟨o, rfl⟩
    refine ⟨figs_num o.figs, by omega, ?_⟩
    have := o.val
    omega
theorem num_neg {w : Str} {cs : List Nat} (e : w.cps.toList = 45 :: cs) (n : Int) : NumW w n ↔ (Okf cs ∧ cs ≠ [48]) ∧ n = -((digitsVal cs : Nat) : Int) := by
  constructor
  · rintro ⟨rfl, h1, h2⟩
    by_cases c : 0 ≤ n
    · obtain ⟨m, rfl⟩ := Int.eq_ofNat_of_zero_le c
      rw [numT_nat] at e
      have := (digits_figs m).1.1 45 (by rw [e]; simp)
      omega
    · obtain ⟨m, rfl⟩ : ∃ m : Nat, n = -((m + 1 : Nat) : Int) := ⟨(-n - 1).toNat, by omega⟩
      rw [numT_neg] at e
      injection e with _ e
      subst e
      refine ⟨⟨digits_ok (by omega), fun z => ?_⟩, by rw [(digits_figs (m + 1)).2]⟩
      have v := (digits_figs (m + 1)).2
      rw [z] at v
      have : digitsVal [48] = 0 := rfl
      omega
  · rintro ⟨⟨o, h0⟩, rfl⟩
    refine ⟨figs_neg e o.figs h0, ?_, by omega⟩
    have := o.val
    omega
/-- the sign ahead, and what is behind it -/
theorem sgn (w : Str) : (∃ cs, w.cps.toList = 45 :: cs ∧ cutS w 0 (min 1 w.length) = ⟨#[45]⟩ ∧ (cutS w (min 1 w.length) w.length).cps.toList = cs) ∨ (w.cps.toList.head? ≠ some 45 ∧ cutS w 0 (min 1 w.length) ≠ ⟨#[45]⟩) := by
  have hl : w.cps.toList.length = w.length := by show w.cps.toList.length = w.cps.size; simp
  have e1 : (cutS w 0 (min 1 w.length)).cps.toList = w.cps.toList.take (min 1 w.length) := by
    unfold cutS; simp
  have e2 : (cutS w (min 1 w.length) w.length).cps.toList = (w.cps.toList.drop (min 1 w.length)).take (w.length - min 1 w.length) := by
    unfold cutS; simp
  cases hw : w.cps.toList with
  | nil =>
    right
    refine ⟨by simp, fun z => ?_⟩
    have := congrArg (fun s : Str => s.cps.toList) z
    dsimp only at this
    rw [e1, hw] at this
    simp at this
  | cons c cs =>
    have l1 : w.length = cs.length + 1 := by rw [← hl, hw]; rfl
    have m1 : min 1 w.length = 1 := by omega
    rw [m1] at e1 e2 ⊢
    by_cases h : c = 45
    · left
      subst h
      refine ⟨cs, rfl, str_ext ?_, ?_⟩
      · rw [e1, hw]; rfl
      · rw [e2, hw, l1]
        simp
    · right
      refine ⟨by simpa using h, fun z => ?_⟩
      have := congrArg (fun s : Str => s.cps.toList) z
      dsimp only at this
      rw [e1, hw] at this
      simp at this
      exact h this
end Ma

/-! ### the table of a set: a search meets an empty slot -/
namespace Tb
open PySem SetTable
/-- n steps of a search -/
def adv (t : SetTable) : Nat → Probe → Probe
  | 0, p => p
  | n + 1, p => adv t n (t.advance p)
theorem adv_add (t : SetTable) : ∀ (a b : Nat) (p : Probe), adv t (a + b) p = adv t b (adv t a p)
  | 0, b, p => by rw [Nat.zero_add]; rfl
  | a + 1, b, p => by rw [Nat.add_right_comm]; exact adv_add t a b (t.advance p)
theorem adv_succ (t : SetTable) (n : Nat) (p : Probe) : adv t (n + 1) p = t.advance (adv t n p) := adv_add t n 1 p
/-- the state at the head of a run -/
def hd (m i per : Nat) (d : Option Nat) : Probe := { j := i, more := runEnd m i - i, i := i, perturb := per, dummy := d }
theorem run_le (m i : Nat) : runEnd m i - i ≤ 9 := by unfold runEnd; split <;> omega
theorem adv_run (t : SetTable) : ∀ (n : Nat) (p : Probe), n ≤ p.more → adv t n p = { p with j := p.j + n, more := p.more - n }
  | 0, p, _ => rfl
  | n + 1, p, h => by
    show adv t n (t.advance p) = _
    have e : t.advance p = { p with j := p.j + 1, more := p.more - 1 } := by unfold advance; rw [if_pos (by omega)]
    rw [e, adv_run t n _ (by show n ≤ p.more - 1; omega)]
    show Probe.mk _ _ _ _ _ = Probe.mk _ _ _ _ _
    congr 1
    · show p.j + 1 + n = p.j + (n + 1); omega
    · show p.more - 1 - n = p.more - (n + 1); omega
def lpN (m i per : Nat) : Nat := (leap m i per).1
theorem adv_leap (t : SetTable) (p : Probe) : adv t (p.more + 1) p = hd t.mask (lpN t.mask p.i p.perturb) (p.perturb / 32) p.dummy := by
  rw [adv_succ, adv_run t _ p (Nat.le_refl _)]
  unfold advance
  rw [if_neg (by show ¬ (p.more - p.more > 0); omega)]
  rfl
/-- q leaps -/
def lps (m : Nat) : Nat → Nat × Nat → Nat × Nat
  | 0, x => x
  | q + 1, x => lps m q (lpN m x.1 x.2, x.2 / 32)
theorem lps_add (m : Nat) : ∀ (a b : Nat) (x : Nat × Nat), lps m (a + b) x = lps m b (lps m a x)
  | 0, b, x => by rw [Nat.zero_add]; rfl
  | a + 1, b, x => by rw [Nat.add_right_comm]; exact lps_add m a b _
theorem lps_per (m : Nat) : ∀ (q : Nat) (x : Nat × Nat), (lps m q x).2 = x.2 / 32 ^ q
  | 0, x => by simp [lps]
  | q + 1, x => by
    show (lps m q (lpN m x.1 x.2, x.2 / 32)).2 = _
    rw [lps_per m q, Nat.pow_succ, Nat.mul_comm, ← Nat.div_div_eq_div_mul]
theorem lps_lt (m : Nat) : ∀ (q : Nat) (x : Nat × Nat), (lps m (q + 1) x).1 ≤ m
  | 0, x => Nat.le_of_lt_succ (Nat.mod_lt _ (Nat.succ_pos _))
  | q + 1, x => lps_lt m q _
theorem adv_leaps (t : SetTable) (d : Option Nat) : ∀ (q : Nat) (i per : Nat), ∃ n, n ≤ 10 * q ∧ adv t n (hd t.mask i per d) = hd t.mask (lps t.mask q (i, per)).1 (lps t.mask q (i, per)).2 d
  | 0, i, per => ⟨0, Nat.le_refl _, rfl⟩
  | q + 1, i, per => by
    obtain ⟨n, hn, e⟩ := adv_leaps t d q (lpN t.mask i per) (per / 32)
    have hr := run_le t.mask i
    refine ⟨(runEnd t.mask i - i + 1) + n, by omega, ?_⟩
    rw [adv_add]
    have := adv_leap t (hd t.mask i per d)
    rw [show (hd t.mask i per d).more = runEnd t.mask i - i from rfl] at this
    rw [this]
    exact e
/-! the leaps go round -/
def orb (m : Nat) : Nat → Nat
  | 0 => 0
  | n + 1 => (orb m n * 5 + 1) % (m + 1)
def Full (m : Nat) : Prop := orb m (m + 1) = 0 ∧ ∀ J, J ≤ m → ∃ n, n ≤ m ∧ orb m n = J
theorem full7 : Full 7 := ⟨by decide +kernel, by
  have h : ∀ J, J < 8 → ∃ n, n < 8 ∧ orb 7 n = J := by decide +kernel
  exact fun J hJ => by obtain ⟨n, h1, h2⟩ := h J (by omega); exact ⟨n, by omega, h2⟩⟩
theorem full31 : Full 31 := ⟨by decide +kernel, by
  have h : ∀ J, J < 32 → ∃ n, n < 32 ∧ orb 31 n = J := by decide +kernel
  exact fun J hJ => by obtain ⟨n, h1, h2⟩ := h J (by omega); exact ⟨n, by omega, h2⟩⟩
def orbs (m : Nat) : Nat → Nat → List Nat
  | 0, _ => []
  | n + 1, x => x :: orbs m n ((x * 5 + 1) % (m + 1))
theorem orbs_mem (m J : Nat) : ∀ (n a : Nat), J ∈ orbs m n (orb m a) → ∃ k, k < n ∧ orb m (a + k) = J
  | 0, a, h => nomatch h
  | n + 1, a, h => by
    rcases List.mem_cons.mp h with rfl | h
    · exact ⟨0, by omega, rfl⟩
    · obtain ⟨k, h1, h2⟩ := orbs_mem m J n (a + 1) h
      exact ⟨k + 1, by omega, by rw [← h2]; congr 1; omega⟩
theorem full127 : Full 127 := ⟨by decide +kernel, by
  have h : (List.range 128).all (fun J => (orbs 127 128 0).contains J) = true := by decide +kernel
  intro J hJ
  have h2 := List.all_eq_true.mp h J (List.mem_range.mpr (by omega))
  obtain ⟨n, h3, h4⟩ := orbs_mem 127 J 128 0 (by show J ∈ orbs 127 128 0; simpa using h2)
  exact ⟨n, by omega, by simpa using h4⟩⟩
theorem lps_zero (m : Nat) : ∀ (n a : Nat), (lps m n (orb m a, 0)) = (orb m (a + n), 0)
  | 0, a => rfl
  | n + 1, a => by
    show lps m n (lpN m (orb m a) 0, 0 / 32) = _
    have e : lpN m (orb m a) 0 = orb m (a + 1) := by
      show (orb m a * 5 + 1 + 0 / 32) % (m + 1) = (orb m a * 5 + 1) % (m + 1)
      simp
    rw [e, Nat.zero_div, lps_zero m n (a + 1)]
    congr 2; omega
theorem orb_round {m : Nat} (F : Full m) : ∀ b, orb m (m + 1 + b) = orb m b
  | 0 => F.1
  | b + 1 => by
    show (orb m (m + 1 + b) * 5 + 1) % (m + 1) = _
    rw [orb_round F b]; rfl
/-- within mask + 14 leaps each slot is a run's head -/
theorem reach {m : Nat} (F : Full m) {i per : Nat} (hp : per < 2 ^ 64) {J : Nat} (hJ : J ≤ m) : ∃ q, q ≤ m + 13 ∧ (lps m q (i, per)).1 = J := by
  have e1 : (lps m 13 (i, per)).2 = 0 := by
    rw [lps_per]
    exact Nat.div_eq_of_lt (Nat.lt_trans hp (by decide))
  have e2 : (lps m 13 (i, per)).1 ≤ m := lps_lt m 12 _
  obtain ⟨a, ha, ea⟩ := F.2 _ e2
  obtain ⟨b, hb, eb⟩ := F.2 _ hJ
  have e3 : lps m 13 (i, per) = (orb m a, 0) := by rw [ea, ← e1]
  by_cases c : a ≤ b
  · refine ⟨13 + (b - a), by omega, ?_⟩
    rw [lps_add, e3, lps_zero]
    show orb m (a + (b - a)) = J
    rw [show a + (b - a) = b by omega, eb]
  · refine ⟨13 + (m + 1 + b - a), by omega, ?_⟩
    rw [lps_add, e3, lps_zero]
    show orb m (a + (m + 1 + b - a)) = J
    rw [show a + (m + 1 + b - a) = m + 1 + b by omega, orb_round F, eb]
/-- so a search comes to each slot -/
theorem adv_reach {t : SetTable} (F : Full t.mask) {p : Probe} (hp : p.perturb < 2 ^ 64) (hm : p.more ≤ 9) {J : Nat} (hJ : J ≤ t.mask) : ∃ n, n < 10 * turns t.mask ∧ (adv t n p).j = J := by
  obtain ⟨q, hq, e⟩ := reach F (i := lpN t.mask p.i p.perturb) (per := p.perturb / 32) (Nat.lt_of_le_of_lt (Nat.div_le_self _ _) hp) hJ
  obtain ⟨n, hn, e2⟩ := adv_leaps t p.dummy q (lpN t.mask p.i p.perturb) (p.perturb / 32)
  refine ⟨(p.more + 1) + n, by unfold turns; omega, ?_⟩
  rw [adv_add, adv_leap, e2]
  exact e
structure PrOk (p : Probe) : Prop where
  per : p.perturb < 2 ^ 64
  more : p.more ≤ 9
  du : p.dummy = none
theorem PrOk.adv1 {t : SetTable} {p : Probe} (h : PrOk p) : PrOk (t.advance p) := by
  unfold advance
  split
  · exact ⟨h.per, by have := h.more; show p.more - 1 ≤ 9; omega, h.du⟩
  · exact ⟨Nat.lt_of_le_of_lt (Nat.div_le_self _ _) h.per, run_le _ _, h.du⟩
theorem PrOk.adv {t : SetTable} : ∀ (n : Nat) {p : Probe}, PrOk p → PrOk (adv t n p)
  | 0, p, h => h
  | n + 1, p, h => PrOk.adv n h.adv1
theorem bits_lt (h : Int) : bits h < 2 ^ 64 := by
  unfold bits
  have := Int.emod_lt_of_pos h (show (0 : Int) < 2 ^ 64 by decide)
  have := Int.emod_nonneg h (show (2 ^ 64 : Int) ≠ 0 by decide)
  omega
theorem start_ok (t : SetTable) (h : Int) : PrOk (t.probeStart h) := ⟨bits_lt h, run_le _ _, rfl⟩
theorem start_hd (t : SetTable) (h : Int) : t.probeStart h = hd t.mask (bits h % (t.mask + 1)) (bits h) none := rfl
/-! which slots are taken -/
theorem has_nil (j : Nat) : has #[] j = false := by simp [has]
theorem slot_live {t : SetTable} {j i : Nat} (h : t.slot j = .live i) : t.place[i]? = some j := by
  unfold slot at h
  dsimp only at h
  split at h
  · rename_i c
    injection h with h
    subst h
    simpa using c
  · split at h <;> cases h
theorem slot_cases {t : SetTable} (hd : t.dummies = #[]) (j : Nat) : t.slot j = .empty ∨ ∃ i, t.slot j = .live i := by
  unfold slot
  dsimp only
  split
  · exact .inr ⟨_, rfl⟩
  · rw [hd, has_nil]; exact .inl rfl
theorem nodup_le : ∀ {l m : List Nat}, l.Nodup → (∀ x ∈ l, x ∈ m) → l.length ≤ m.length
  | [], m, _, _ => Nat.zero_le _
  | x :: l, m, nd, h => by
    rw [List.nodup_cons] at nd
    have hx := h x List.mem_cons_self
    have h2 : ∀ y ∈ l, y ∈ m.erase x := fun y hy => by
      have ne : y ≠ x := fun e => nd.1 (e ▸ hy)
      exact (List.mem_erase_of_ne ne).mpr (h y (List.mem_cons_of_mem _ hy))
    have := nodup_le nd.2 h2
    rw [List.length_erase_of_mem hx] at this
    have : 0 < m.length := List.length_pos_of_mem hx
    show l.length + 1 ≤ m.length
    omega
theorem free_there {t : SetTable} (hd : t.dummies = #[]) (hf : t.place.size ≤ t.mask) : ∃ J, J ≤ t.mask ∧ t.slot J = .empty := by
  refine Classical.byContradiction fun c => ?_
  have h : ∀ J ∈ List.range (t.mask + 1), J ∈ t.place.toList := fun J hJ => by
    have hJ' := List.mem_range.mp hJ
    rcases slot_cases hd J with e | ⟨i, e⟩
    · exact (c ⟨J, by omega, e⟩).elim
    · have := slot_live e
      rw [← Array.getElem?_toList] at this
      exact List.mem_of_getElem? this
  have := nodup_le List.nodup_range h
  rw [List.length_range, Array.length_toList] at this
  omega
theorem empty_ahead {t : SetTable} (F : Full t.mask) (hd : t.dummies = #[]) (hf : t.place.size ≤ t.mask) {p : Probe} (h : PrOk p) : ∃ n, n < 10 * turns t.mask ∧ t.slot (adv t n p).j = .empty := by
  obtain ⟨J, h1, h2⟩ := free_there hd hf
  obtain ⟨n, h3, h4⟩ := adv_reach F h.per h.more h1
  exact ⟨n, h3, by rw [h4]; exact h2⟩
/-- one look along the slots -/
theorem go_spec {t : SetTable} (hd : t.dummies = #[]) (ha : Nat → Int) (h : Int) : ∀ (fuel : Nat) (p : Probe) (n : Nat), n < fuel → t.slot (adv t n p).j = .empty →
    ∃ m, m ≤ n ∧ (∀ l, l < m → ∃ i, t.slot (adv t l p).j = .live i ∧ ha i ≠ h) ∧
      ((t.slot (adv t m p).j = .empty ∧ SetTable.probe.go t ha h fuel p = some (.empty (adv t m p).j p.dummy)) ∨
       (∃ i, m < n ∧ t.slot (adv t m p).j = .live i ∧ ha i = h ∧ SetTable.probe.go t ha h fuel p = some (.candidate (adv t m p).j i (adv t (m + 1) p))))
  | 0, p, n, hn, _ => absurd hn (Nat.not_lt_zero _)
  | fuel + 1, p, n, hn, he => by
    rcases slot_cases hd p.j with e | ⟨i, e⟩
    · refine ⟨0, Nat.zero_le _, fun l hl => absurd hl (Nat.not_lt_zero _), .inl ⟨e, ?_⟩⟩
      unfold probe.go; rw [e]; rfl
    · have hn0 : n ≠ 0 := fun z => by subst z; rw [show adv t 0 p = p from rfl, e] at he; cases he
      obtain ⟨n', rfl⟩ : ∃ n', n = n' + 1 := ⟨n - 1, by omega⟩
      by_cases c : ha i = h
      · refine ⟨0, Nat.zero_le _, fun l hl => absurd hl (Nat.not_lt_zero _), .inr ⟨i, Nat.succ_pos _, e, c, ?_⟩⟩
        unfold probe.go; rw [e]
        show (if (ha i == h) = true then _ else _) = _
        rw [if_pos (by simpa using c)]; rfl
      · obtain ⟨m, h1, h2, h3⟩ := go_spec hd ha h fuel (t.advance p) n' (by omega) he
        have eg : SetTable.probe.go t ha h (fuel + 1) p = SetTable.probe.go t ha h fuel (t.advance p) := by
          rw [probe.go, e]
          show (if (ha i == h) = true then _ else _) = _
          rw [if_neg (by simpa using c)]
        have ed : (t.advance p).dummy = p.dummy := by unfold advance; split <;> rfl
        refine ⟨m + 1, by omega, fun l hl => ?_, ?_⟩
        · cases l with
          | zero => exact ⟨i, e, c⟩
          | succ l => exact h2 l (by omega)
        · rw [eg, ← ed]
          rcases h3 with ⟨a, b⟩ | ⟨i', a, b, c', d⟩
          · exact .inl ⟨a, b⟩
          · exact .inr ⟨i', by omega, b, c', d⟩
end Tb

namespace Tb
open PySem SetTable
/-! ### the places rise: what `below` finds -/
abbrev Rise (l : List Nat) : Prop := l.Pairwise (· < ·)
theorem below_go {xs : Array Nat} {j : Nat} (hs : Rise xs.toList) : ∀ (fuel lo hi : Nat), hi - lo ≤ fuel → lo ≤ hi → hi ≤ xs.size → (∀ i v, i < lo → xs[i]? = some v → v < j) → (∀ i v, hi ≤ i → xs[i]? = some v → j ≤ v) →
    ∀ r, below.go xs j fuel lo hi = r → r ≤ xs.size ∧ (∀ i v, i < r → xs[i]? = some v → v < j) ∧ ∀ i v, r ≤ i → xs[i]? = some v → j ≤ v
  | 0, lo, hi, hf, hl, hh, h1, h2, r, e => by
    have : lo = hi := by omega
    subst this
    unfold below.go at e; subst e
    exact ⟨hh, h1, h2⟩
  | fuel + 1, lo, hi, hf, hl, hh, h1, h2, r, e => by
    unfold below.go at e
    by_cases c : lo < hi
    · rw [if_pos c] at e
      dsimp only at e
      have hm : (lo + hi) / 2 < xs.size := by omega
      have em : xs[(lo + hi) / 2]? = some xs[(lo + hi) / 2] := Array.getElem?_eq_getElem hm
      have eg : xs.getD ((lo + hi) / 2) j = xs[(lo + hi) / 2] := by simp [Array.getD, hm]
      rw [eg] at e
      have mono : ∀ a b u v, a ≤ b → xs[a]? = some u → xs[b]? = some v → u ≤ v := fun a b u v hab ea eb => by
        rw [← Array.getElem?_toList] at ea eb
        obtain ⟨la, ea⟩ := List.getElem?_eq_some_iff.mp ea
        obtain ⟨lb, eb⟩ := List.getElem?_eq_some_iff.mp eb
        rcases Nat.lt_or_eq_of_le hab with z | rfl
        · have := List.pairwise_iff_getElem.mp hs a b la lb z
          omega
        · omega
      by_cases d : xs[(lo + hi) / 2] < j
      · rw [if_pos d] at e
        refine below_go hs fuel _ hi (by omega) (by omega) hh (fun i v hi' ev => ?_) h2 r e
        have := mono i ((lo + hi) / 2) v _ (by omega) ev em
        omega
      · rw [if_neg d] at e
        refine below_go hs fuel lo _ (by omega) (by omega) (by omega) h1 (fun i v hi' ev => ?_) r e
        have := mono ((lo + hi) / 2) i _ v hi' em ev
        omega
    · rw [if_neg c] at e
      subst e
      have : lo = hi := by omega
      subst this
      exact ⟨hh, h1, h2⟩
theorem below_spec {xs : Array Nat} (hs : Rise xs.toList) (j : Nat) : below xs j ≤ xs.size ∧ (∀ i v, i < below xs j → xs[i]? = some v → v < j) ∧ ∀ i v, below xs j ≤ i → xs[i]? = some v → j ≤ v :=
  below_go hs xs.size 0 xs.size (by omega) (by omega) (Nat.le_refl _) (fun i v h => absurd h (Nat.not_lt_zero _)) (fun i v h e => by
    have := (Array.getElem?_eq_some_iff.mp e).1; omega) _ rfl
theorem slot_taken {t : SetTable} (hs : Rise t.place.toList) {j : Nat} (h : j ∈ t.place.toList) : ∃ i, t.slot j = .live i := by
  obtain ⟨i, hi, e⟩ := List.getElem_of_mem h
  have ei : t.place[i]? = some j := by rw [← Array.getElem?_toList, List.getElem?_eq_getElem hi, e]
  obtain ⟨b0, b1, b2⟩ := below_spec hs j
  have hb : below t.place j = i := by
    rcases Nat.lt_trichotomy (below t.place j) i with z | z | z
    · -- the one at below is ≥ j but less than that at i
      have hlt : below t.place j < t.place.toList.length := by omega
      have e3 : t.place[below t.place j]? = some t.place.toList[below t.place j] := by rw [← Array.getElem?_toList]; exact List.getElem?_eq_getElem hlt
      have h4 := b2 _ _ (Nat.le_refl _) e3
      have h5 := List.pairwise_iff_getElem.mp hs _ i hlt hi z
      omega
    · exact z
    · have := b1 i j z ei; omega
  refine ⟨i, ?_⟩
  unfold slot
  dsimp only
  rw [hb, ei]
  simp
theorem slot_empty {t : SetTable} (hs : Rise t.place.toList) (hd : t.dummies = #[]) {j : Nat} : t.slot j = .empty ↔ j ∉ t.place.toList := by
  constructor
  · intro e m
    obtain ⟨i, e2⟩ := slot_taken hs m
    rw [e] at e2; cases e2
  · intro h
    rcases slot_cases hd j with e | ⟨i, e⟩
    · exact e
    · have := slot_live e
      rw [← Array.getElem?_toList] at this
      exact (h (List.mem_of_getElem? this)).elim
/-! ### a table that is in order -/
abbrev En := Int × Value
/-- the slots and what stands there -/
def prs (t : SetTable) (es : Array En) : List (Nat × En) := t.place.toList.zip es.toList
/-- the way of a search to slot j: taken slots alone -/
def Way (m : Nat) (tk : Nat → Prop) (h : Int) (j : Nat) : Prop :=
  ∃ n, (adv { mask := m, place := #[], dummies := #[], finger := 0, led := true, moves := 0, plain := true } n (hd m (bits h % (m + 1)) (bits h) none)).j = j ∧
    ∀ l, l < n → tk (adv { mask := m, place := #[], dummies := #[], finger := 0, led := true, moves := 0, plain := true } l (hd m (bits h % (m + 1)) (bits h) none)).j
theorem adv_mask {t u : SetTable} (h : t.mask = u.mask) : ∀ (n : Nat) (p : Probe), adv t n p = adv u n p
  | 0, p => rfl
  | n + 1, p => by
    show adv t n (t.advance p) = adv u n (u.advance p)
    have e : t.advance p = u.advance p := by unfold advance; rw [h]
    rw [e]; exact adv_mask h n _
theorem Way.imp {m : Nat} {tk tk' : Nat → Prop} {h : Int} {j : Nat} (w : Way m tk h j) (f : ∀ j, tk j → tk' j) : Way m tk' h j := by
  obtain ⟨n, a, b⟩ := w
  exact ⟨n, a, fun l hl => f _ (b l hl)⟩
structure Ok (t : SetTable) (es : Array En) : Prop where
  sz : t.place.size = es.size
  du : t.dummies = #[]
  mk7 : (t.mask = 7 ∧ es.size ≤ 4) ∨ (t.mask = 31 ∧ es.size ≤ 18) ∨ (t.mask = 127 ∧ es.size ≤ 76)
  ri : Rise t.place.toList
  way : ∀ j e, (j, e) ∈ prs t es → Way t.mask (· ∈ t.place.toList) e.1 j
theorem Ok.full {t : SetTable} {es : Array En} (o : Ok t es) : Full t.mask := by
  rcases o.mk7 with ⟨h, _⟩ | ⟨h, _⟩ | ⟨h, _⟩ <;> rw [h]
  · exact full7
  · exact full31
  · exact full127
theorem Ok.le {t : SetTable} {es : Array En} (o : Ok t es) : t.place.size ≤ t.mask := by
  have := o.sz
  rcases o.mk7 with ⟨h, _⟩ | ⟨h, _⟩ | ⟨h, _⟩ <;> omega
theorem Ok.fits {t : SetTable} {es : Array En} (o : Ok t es) : t.fits es.size = true := by
  have h1 := o.sz
  have h2 := o.le
  have e : t.fill = t.place.size := by show t.place.size + t.dummies.size = _; rw [o.du]; rfl
  unfold SetTable.fits
  rw [e, h1]
  simp
  omega
theorem Ok.way0 {t : SetTable} {es : Array En} {h : Int} : ∀ n, adv { mask := t.mask, place := #[], dummies := #[], finger := 0, led := true, moves := 0, plain := true } n (hd t.mask (bits h % (t.mask + 1)) (bits h) none) = adv t n (t.probeStart h) := fun n => by rw [start_hd]; apply adv_mask; rfl
theorem fresh_ok (led : Bool) : Ok (.fresh 0 0 led) #[] where
  sz := rfl
  du := rfl
  mk7 := .inl ⟨rfl, Nat.zero_le _⟩
  ri := List.Pairwise.nil
  way := fun j e h => nomatch h
/-- what a whole search tells: an empty slot at the end of a way, all of it taken by others -/
theorem Ok.absent {t : SetTable} {es : Array En} (o : Ok t es) {h : Int} {m : Nat} (he : t.slot (adv t m (t.probeStart h)).j = .empty)
    {bad : En → Prop} (hb : ∀ l i e, l < m → t.slot (adv t l (t.probeStart h)).j = .live i → es[i]? = some e → ¬ bad e) : ∀ e ∈ es.toList, e.1 = h → ¬ bad e := by
  intro e me eh
  obtain ⟨i, hi, ei⟩ := List.getElem_of_mem me
  have hi2 : i < t.place.toList.length := by have := o.sz; rw [Array.length_toList] at hi ⊢; omega
  have mz : (t.place.toList[i], e) ∈ prs t es := by
    unfold prs
    refine List.mem_of_getElem? (i := i) ?_
    rw [List.getElem?_zip_eq_some]
    exact ⟨List.getElem?_eq_getElem hi2, by rw [List.getElem?_eq_getElem hi, ei]⟩
  obtain ⟨n, e1, e2⟩ := o.way _ _ mz
  rw [Ok.way0 (es := es), eh] at e1
  have e2' : ∀ l, l < n → (adv t l (t.probeStart h)).j ∈ t.place.toList := fun l hl => by
    have := e2 l hl
    rw [Ok.way0 (es := es), eh] at this; exact this
  have hn := slot_empty (j := (adv t m (t.probeStart h)).j) o.ri o.du |>.mp he
  rcases Nat.lt_trichotomy m n with z | z | z
  · exact (hn (e2' m z)).elim
  · subst z; rw [e1] at hn; exact (hn (List.getElem_mem hi2)).elim
  · -- its own slot was met
    obtain ⟨i', e3⟩ := slot_taken o.ri (List.getElem_mem hi2)
    have e4 := slot_live e3
    have : i' = i := by
      rw [← Array.getElem?_toList] at e4
      obtain ⟨hi', e5⟩ := List.getElem?_eq_some_iff.mp e4
      rcases Nat.lt_trichotomy i' i with y | y | y
      · have := List.pairwise_iff_getElem.mp o.ri i' i hi' hi2 y; omega
      · exact y
      · have := List.pairwise_iff_getElem.mp o.ri i i' hi2 hi' y; omega
    subst this
    refine hb n i' e z (by rw [e1]; exact e3) ?_
    rw [← Array.getElem?_toList, List.getElem?_eq_getElem hi, ei]
/-! ### one more -/
theorem insert_rise {l : List Nat} {p j : Nat} (hs : Rise l) (h1 : ∀ i v, i < p → l[i]? = some v → v < j) (h2 : ∀ i v, p ≤ i → l[i]? = some v → j < v) : Rise (l.take p ++ j :: l.drop p) := by
  have a1 : ∀ x ∈ l.take p, x < j := fun x hx => by
    obtain ⟨i, hi, e⟩ := List.getElem_of_mem hx
    have hi' : i < p := by rw [List.length_take] at hi; omega
    rw [List.getElem_take] at e
    have hl : i < l.length := by rw [List.length_take] at hi; omega
    exact h1 i x hi' (by rw [List.getElem?_eq_getElem hl, e])
  have a2 : ∀ x ∈ l.drop p, j < x := fun x hx => by
    obtain ⟨i, hi, e⟩ := List.getElem_of_mem hx
    rw [List.getElem_drop] at e
    have hl : p + i < l.length := by rw [List.length_drop] at hi; omega
    exact h2 (p + i) x (by omega) (by rw [List.getElem?_eq_getElem hl, e])
  refine List.pairwise_append.mpr ⟨hs.sublist (List.take_sublist p l), List.pairwise_cons.mpr ⟨a2, hs.sublist (List.drop_sublist p l)⟩, fun x hx y hy => ?_⟩
  rcases List.mem_cons.mp hy with rfl | hy
  · exact a1 x hx
  · exact Nat.lt_trans (a1 x hx) (a2 y hy)
theorem put_place (t : SetTable) (j : Nat) : (t.put j).1.place.toList = t.place.toList.take (below t.place j) ++ j :: t.place.toList.drop (below t.place j) := SetTable.toList_insertAt _ _ _
theorem mem_insert {α : Type} {l : List α} {p : Nat} {x y : α} : y ∈ l.take p ++ x :: l.drop p ↔ y ∈ l ∨ y = x := by
  have h : y ∈ l ↔ y ∈ l.take p ++ l.drop p := by rw [List.take_append_drop]
  rw [h, List.mem_append, List.mem_append, List.mem_cons]
  constructor
  · rintro (a | a | a)
    · exact .inl (.inl a)
    · exact .inr a
    · exact .inl (.inr a)
  · rintro ((a | a) | a)
    · exact .inl a
    · exact .inr (.inr a)
    · exact .inr (.inl a)
theorem zip_insert {α β : Type} (l : List α) (m : List β) (p : Nat) (x : α) (y : β) (h : l.length = m.length) : (l.take p ++ x :: l.drop p).zip (m.take p ++ y :: m.drop p) = (l.zip m).take p ++ (x, y) :: (l.zip m).drop p := by
  rw [List.zip_append (by rw [List.length_take, List.length_take, h]), List.zip_cons_cons]; unfold List.zip; rw [List.take_zipWith, List.drop_zipWith]
/-- the table with one more, before it is looked whether it is too full -/
structure Ok1 (t : SetTable) (es : Array En) : Prop where
  sz : t.place.size = es.size
  du : t.dummies = #[]
  mk7 : (t.mask = 7 ∧ es.size ≤ 5) ∨ (t.mask = 31 ∧ es.size ≤ 19) ∨ (t.mask = 127 ∧ es.size ≤ 77)
  ri : Rise t.place.toList
  way : ∀ j e, (j, e) ∈ prs t es → Way t.mask (· ∈ t.place.toList) e.1 j
theorem Ok.put {t : SetTable} {es : Array En} (o : Ok t es) {h : Int} {x : Value} {m : Nat} (he : t.slot (adv t m (t.probeStart h)).j = .empty) (ht : ∀ l, l < m → t.slot (adv t l (t.probeStart h)).j ≠ .empty) :
    Ok1 (t.put (adv t m (t.probeStart h)).j).1 (insertAt es (t.put (adv t m (t.probeStart h)).j).2 (h, x)) ∧ (t.put (adv t m (t.probeStart h)).j).1.mask = t.mask ∧ ((insertAt es (t.put (adv t m (t.probeStart h)).j).2 (h, x)).toList.Perm (es.push (h, x)).toList) := by
  generalize hj : (adv t m (t.probeStart h)).j = j at he
  have hn : j ∉ t.place.toList := (slot_empty o.ri o.du).mp he
  obtain ⟨b0, b1, b2⟩ := below_spec o.ri j
  have ep : (t.put j).2 = below t.place j := rfl
  have em : (t.put j).1.mask = t.mask := rfl
  have pm := SetTable.insertAt_perm es (t.put j).2 (h, x)
  have es1 : (insertAt es (t.put j).2 (h, x)).size = es.size + 1 := by
    rw [← Array.length_toList, pm.length_eq, Array.toList_push, List.length_append, Array.length_toList]; rfl
  have ps1 : (t.put j).1.place.size = t.place.size + 1 := by
    rw [← Array.length_toList, put_place, List.length_append, List.length_cons, List.length_take, List.length_drop, Array.length_toList]
    omega
  have hz : prs (t.put j).1 (insertAt es (t.put j).2 (h, x)) = (prs t es).take (below t.place j) ++ (j, (h, x)) :: (prs t es).drop (below t.place j) := by
    unfold prs
    rw [put_place, SetTable.toList_insertAt, ep]
    exact zip_insert _ _ _ _ _ (by rw [Array.length_toList, Array.length_toList, o.sz])
  refine ⟨⟨by rw [es1, ps1, o.sz], ?_, ?_, ?_, fun j' e' hm => ?_⟩, em, pm⟩
  · show (if has t.dummies j = true then _ else _) = _
    rw [o.du, has_nil]; rfl
  · rw [em, es1]
    rcases o.mk7 with ⟨a, b⟩ | ⟨a, b⟩ | ⟨a, b⟩
    · exact .inl ⟨a, by omega⟩
    · exact .inr (.inl ⟨a, by omega⟩)
    · exact .inr (.inr ⟨a, by omega⟩)
  · rw [put_place]
    refine insert_rise o.ri (fun i v h1 e => b1 i v h1 (by rw [← Array.getElem?_toList]; exact e)) (fun i v h1 e => ?_)
    have := b2 i v h1 (by rw [← Array.getElem?_toList]; exact e)
    have ne : v ≠ j := fun z => hn (z ▸ List.mem_of_getElem? e)
    omega
  · rw [hz] at hm
    have tk : ∀ k, k ∈ t.place.toList → k ∈ (t.put j).1.place.toList := fun k hk => by rw [put_place]; exact mem_insert.mpr (.inl hk)
    rcases mem_insert.mp hm with q | q
    · exact (o.way j' e' q).imp tk
    · injection q with q1 q2
      subst q1; subst q2
      refine ⟨m, ?_, fun l hl => ?_⟩
      · rw [em, Ok.way0 (es := es)]; exact hj
      · rw [em, Ok.way0 (es := es)]
        refine tk _ (Classical.byContradiction fun c => ?_)
        exact ht l hl ((slot_empty o.ri o.du).mpr c)
theorem Ok1.ok {t : SetTable} {es : Array En} (o : Ok1 t es) (h : t.tooFull = false) : Ok t es := by
  refine ⟨o.sz, o.du, ?_, o.ri, o.way⟩
  have e : t.fill = t.place.size := by show t.place.size + t.dummies.size = _; rw [o.du]; rfl
  have h1 := o.sz
  unfold tooFull at h
  rw [e] at h
  have h2 := of_decide_eq_false h
  rcases o.mk7 with ⟨a, b⟩ | ⟨a, b⟩ | ⟨a, b⟩
  · exact .inl ⟨a, by omega⟩
  · exact .inr (.inl ⟨a, by omega⟩)
  · exact .inr (.inr ⟨a, by omega⟩)
theorem Ok1.congr {t u : SetTable} {es : Array En} (o : Ok1 t es) (h1 : u.place = t.place) (h2 : u.dummies = t.dummies) (h3 : u.mask = t.mask) : Ok1 u es := by
  obtain ⟨a, b, c, d, e⟩ := o
  refine ⟨by rw [h1]; exact a, by rw [h2]; exact b, by rw [h3]; exact c, by rw [h1]; exact d, ?_⟩
  unfold prs
  rw [h1, h3]; exact e
theorem Ok1.fits {t : SetTable} {es : Array En} (o : Ok1 t es) : t.fits es.size = true := by
  have h1 := o.sz
  have e : t.fill = t.place.size := by show t.place.size + t.dummies.size = _; rw [o.du]; rfl
  unfold SetTable.fits
  rw [e, h1]
  rcases o.mk7 with ⟨a, b⟩ | ⟨a, b⟩ | ⟨a, b⟩ <;> (simp; omega)
end Tb

namespace Tb
open PySem SetTable
/-! ### laid anew -/
abbrev tm (m : Nat) : SetTable := { mask := m, place := #[], dummies := #[], finger := 0, led := true, moves := 0, plain := true }
theorem getD_in {ow : Array (Option Nat)} {j : Nat} (h : j < ow.size) (d d' : Option Nat) : ow.getD j d = ow.getD j d' := by simp [Array.getD, h]
theorem free_spec {m J : Nat} {ow : Array (Option Nat)} (hs : ow.size = m + 1) (hJ : J ≤ m) (eJ : ow.getD J none = none) : ∀ (fuel q i per : Nat), i ≤ m → q < fuel → (lps m q (i, per)).1 = J →
    ∃ j, layClean.free m ow fuel i per = some j ∧ j ≤ m ∧ ow.getD j none = none ∧ ∃ n, (adv (tm m) n (hd m i per none)).j = j ∧ ∀ l, l < n → (ow.getD (adv (tm m) l (hd m i per none)).j none).isSome = true
  | 0, q, i, per, _, h, _ => absurd h (Nat.not_lt_zero _)
  | fuel + 1, q, i, per, hi, hq, eq => by
    have hrun : i ≤ runEnd m i ∧ runEnd m i ≤ m := by unfold runEnd; split <;> omega
    unfold layClean.free
    cases hf : (List.range (runEnd m i + 1 - i)).find? fun k => (ow.getD (i + k) (some 0)).isNone with
    | some k =>
      obtain ⟨h1, h2, h3⟩ := List.find?_range_eq_some.mp hf
      have hk := List.mem_range.mp h2
      have hb : i + k ≤ m := by omega
      have path : ∀ l, l ≤ k → (adv (tm m) l (hd m i per none)).j = i + l := fun l hl => by
        rw [adv_run (tm m) l _ (by show l ≤ runEnd m i - i; omega)]; rfl
      refine ⟨i + k, rfl, hb, ?_, k, path k (Nat.le_refl _), fun l hl => ?_⟩
      · rw [getD_in (by omega) none (some 0)]
        exact Option.isNone_iff_eq_none.mp h1
      · rw [path l (Nat.le_of_lt hl), getD_in (by omega) none (some 0)]
        have := h3 l hl
        cases z : ow.getD (i + l) (some 0) with
        | none => rw [z] at this; simp at this
        | some _ => rfl
    | none =>
      have h3 := List.find?_range_eq_none.mp hf
      have full : ∀ l, l ≤ runEnd m i - i → (ow.getD (i + l) none).isSome = true := fun l hl => by
        rw [getD_in (by omega) none (some 0)]
        have := h3 l (by omega)
        cases z : ow.getD (i + l) (some 0) with
        | none => rw [z] at this; simp at this
        | some _ => rfl
      cases q with
      | zero =>
        have := full 0 (Nat.zero_le _)
        have e0 : i = J := eq
        rw [Nat.add_zero, e0, eJ] at this; cases this
      | succ q =>
        obtain ⟨j, e1, e2, e3, n, e4, e5⟩ := free_spec hs hJ eJ fuel q (lpN m i per) (per / 32) (Nat.le_of_lt_succ (Nat.mod_lt _ (Nat.succ_pos _))) (by omega) eq
        have al : adv (tm m) (runEnd m i - i + 1) (hd m i per none) = hd m (lpN m i per) (per / 32) none := adv_leap (tm m) (hd m i per none)
        refine ⟨j, e1, e2, e3, (runEnd m i - i + 1) + n, ?_, fun l hl => ?_⟩
        · rw [adv_add, al]; exact e4
        · by_cases c : l ≤ runEnd m i - i
          · rw [adv_run (tm m) l _ (by show l ≤ runEnd m i - i; omega)]
            exact full l c
          · have : l = (runEnd m i - i + 1) + (l - (runEnd m i - i + 1)) := by omega
            rw [this, adv_add, al]
            exact e5 _ (by omega)
def lv (m : Nat) (ow : Array (Option Nat)) : List (Nat × Nat) := (List.range (m + 1)).filterMap fun j => (ow.getD j none).map (j, ·)
theorem fm_succ {β : Type} {f f' : Nat → Option β} {j0 : Nat} {b : β} (h0 : f j0 = none) (h1 : f' j0 = some b) (h2 : ∀ j, j ≠ j0 → f' j = f j) : ∀ (l : List Nat), l.Nodup →
    (j0 ∉ l → (l.filterMap f').length = (l.filterMap f).length) ∧ (j0 ∈ l → (l.filterMap f').length = (l.filterMap f).length + 1)
  | [], _ => ⟨fun _ => rfl, fun h => nomatch h⟩
  | x :: l, nd => by
    rw [List.nodup_cons] at nd
    obtain ⟨i1, i2⟩ := fm_succ h0 h1 h2 l nd.2
    constructor
    · intro h
      have hx : x ≠ j0 := fun e => h (e ▸ List.mem_cons_self)
      have := i1 fun e => h (List.mem_cons_of_mem _ e)
      rw [List.filterMap_cons, List.filterMap_cons, h2 x hx]
      cases f x with
      | none => exact this
      | some _ => rw [List.length_cons, List.length_cons, this]
    · intro h
      by_cases hx : x = j0
      · subst hx
        have := i1 nd.1
        rw [List.filterMap_cons, List.filterMap_cons, h0, h1, List.length_cons, this]
      · have hm : j0 ∈ l := by
          rcases List.mem_cons.mp h with e | e
          · exact (hx e.symm).elim
          · exact e
        have := i2 hm
        rw [List.filterMap_cons, List.filterMap_cons, h2 x hx]
        cases f x with
        | none => exact this
        | some _ => rw [List.length_cons, List.length_cons, this]
structure Laid (m : Nat) (hs : List Int) (ow : Array (Option Nat)) (k : Nat) : Prop where
  size : ow.size = m + 1
  cnt : (lv m ow).length = k
  all : ∀ i, i < k → ∃ j, j ≤ m ∧ ow.getD j none = some i
  way : ∀ j i, ow.getD j none = some i → i < k ∧ ∃ h, hs[i]? = some h ∧ Way m (fun j => (ow.getD j none).isSome = true) h j
theorem laid_step {m : Nat} (F : Full m) {hs : List Int} {ow : Array (Option Nat)} {k : Nat} {h : Int} (L : Laid m hs ow k) (hk : k ≤ m) (eh : hs[k]? = some h) :
    ∃ j, layClean.free m ow (turns m) (bits h % (m + 1)) (bits h) = some j ∧ Laid m hs (ow.setIfInBounds j (some k)) (k + 1) := by
  have fr : ∃ J, J ≤ m ∧ ow.getD J none = none := by
    refine Classical.byContradiction fun c => ?_
    have : (lv m ow).length = (List.range (m + 1)).length := List.filterMap_length_eq_length.mpr fun a ha => by
      have ha' := List.mem_range.mp ha
      cases z : ow.getD a none with
      | none => exact (c ⟨a, by omega, z⟩).elim
      | some _ => rfl
    rw [L.cnt, List.length_range] at this
    omega
  obtain ⟨J, hJ, eJ⟩ := fr
  obtain ⟨q, hq, e⟩ := reach F (i := bits h % (m + 1)) (bits_lt h) hJ
  obtain ⟨j, e1, e2, e3, n, e4, e5⟩ := free_spec L.size hJ eJ (turns m) q (bits h % (m + 1)) (bits h) (Nat.le_of_lt_succ (Nat.mod_lt _ (Nat.succ_pos _))) (by unfold turns; omega) e
  have jlt : j < ow.size := by rw [L.size]; omega
  have gj : (ow.setIfInBounds j (some k)).getD j none = some k := by simp [Array.getD, jlt]
  have gn : ∀ i, i ≠ j → (ow.setIfInBounds j (some k)).getD i none = ow.getD i none := fun i hi => by
    rw [Array.getD_eq_getD_getElem?, Array.getD_eq_getD_getElem?, Array.getElem?_setIfInBounds_ne (Ne.symm hi)]
  have tk : ∀ i, (ow.getD i none).isSome = true → ((ow.setIfInBounds j (some k)).getD i none).isSome = true := fun i hi => by
    by_cases c : i = j
    · rw [c, gj]; rfl
    · rw [gn i c]; exact hi
  refine ⟨j, e1, ⟨by rw [Array.size_setIfInBounds]; exact L.size, ?_, fun i hi => ?_, fun j' i' z => ?_⟩⟩
  · have := (fm_succ (f := fun j => (ow.getD j none).map (j, ·)) (f' := fun i => ((ow.setIfInBounds j (some k)).getD i none).map (i, ·)) (j0 := j) (b := (j, k)) (by simp only [e3, Option.map_none]) (by simp only [gj, Option.map_some]) (fun i hi => by simp only [gn i hi]) (List.range (m + 1)) List.nodup_range).2 (List.mem_range.mpr (by omega))
    show List.length (List.filterMap _ _) = _
    rw [this]
    show (lv m ow).length + 1 = k + 1
    rw [L.cnt]
  · rcases Nat.lt_or_eq_of_le (Nat.le_of_lt_succ hi) with c | rfl
    · obtain ⟨j', h1, h2⟩ := L.all i c
      refine ⟨j', h1, ?_⟩
      rw [gn j' fun z => by rw [z, e3] at h2; cases h2]; exact h2
    · exact ⟨j, e2, gj⟩
  · by_cases c : j' = j
    · subst c
      rw [gj] at z; cases z
      exact ⟨Nat.lt_succ_self _, h, eh, n, e4, fun l hl => tk _ (e5 l hl)⟩
    · rw [gn j' c] at z
      obtain ⟨h1, h', h2, h3⟩ := L.way j' i' z
      exact ⟨by omega, h', h2, h3.imp tk⟩
theorem laid_all {m : Nat} (F : Full m) {hs : List Int} (hm : hs.length ≤ m) : ∀ (rest done : List Int) (ow : Array (Option Nat)), hs = done ++ rest → Laid m hs ow done.length →
    ∃ ow', rest.foldl (fun acc h => do let (owner, k) ← acc; let j ← layClean.free m owner (turns m) (bits h % (m + 1)) (bits h); pure (owner.setIfInBounds j (some k), k + 1)) (some (ow, done.length)) = some (ow', hs.length) ∧ Laid m hs ow' hs.length
  | [], done, ow, e, L => by
    rw [List.append_nil] at e; subst e
    exact ⟨ow, rfl, L⟩
  | h :: rest, done, ow, e, L => by
    have ek : hs[done.length]? = some h := by rw [e]; simp
    have hk : done.length ≤ m := by rw [e, List.length_append, List.length_cons] at hm; omega
    obtain ⟨j, e1, L1⟩ := laid_step F L hk ek
    obtain ⟨ow', e2, L2⟩ := laid_all F hm rest (done ++ [h]) (ow.setIfInBounds j (some done.length)) (by rw [e]; simp) (by rw [List.length_append]; exact L1)
    refine ⟨ow', ?_, L2⟩
    rw [List.foldl_cons, ← e2]
    congr 1
    show (layClean.free m ow (turns m) (bits h % (m + 1)) (bits h)).bind _ = _
    rw [e1, List.length_append]; rfl
theorem layClean_some {m : Nat} (F : Full m) (hs : Array Int) (hm : hs.size ≤ m) : ∃ ow, layClean m hs = some ow ∧ Laid m hs.toList ow hs.size := by
  have L0 : Laid m hs.toList (Array.replicate (m + 1) none) ([] : List Int).length := by
    have g0 : ∀ j, (Array.replicate (m + 1) (none : Option Nat)).getD j none = none := fun j => by
      rw [Array.getD_eq_getD_getElem?, Array.getElem?_replicate]; split <;> rfl
    refine ⟨Array.size_replicate, ?_, fun i hi => absurd hi (Nat.not_lt_zero _), fun j i z => by rw [g0] at z; cases z⟩
    show (List.filterMap _ _).length = 0
    rw [List.length_eq_zero_iff, List.filterMap_eq_nil_iff]
    intro a _
    rw [g0]; rfl
  obtain ⟨ow, e, L⟩ := laid_all F (hs := hs.toList) (by simpa using hm) hs.toList [] _ rfl L0
  refine ⟨ow, ?_, by simpa using L⟩
  unfold layClean
  rw [← Array.foldl_toList]
  show Option.map _ (List.foldl _ (some (Array.replicate (m + 1) none, ([] : List Int).length)) hs.toList) = _
  rw [e]; rfl
theorem lv_mem {m : Nat} {ow : Array (Option Nat)} {j k : Nat} : (j, k) ∈ lv m ow ↔ j ≤ m ∧ ow.getD j none = some k := by
  unfold lv
  rw [List.mem_filterMap]
  constructor
  · rintro ⟨a, h1, h2⟩
    cases z : ow.getD a none with
    | none => rw [z] at h2; cases h2
    | some b =>
      rw [z] at h2
      injection h2 with h2
      injection h2 with h3 h4
      subst h3; subst h4
      exact ⟨Nat.le_of_lt_succ (List.mem_range.mp h1), z⟩
  · rintro ⟨h1, h2⟩
    exact ⟨j, List.mem_range.mpr (by omega), by rw [h2]; rfl⟩
theorem lv_sub {f : Nat → Option Nat} : ∀ (l : List Nat), ((l.filterMap fun j => (f j).map (j, ·)).map (·.1)).Sublist l
  | [] => List.Sublist.refl _
  | x :: l => by
    rw [List.filterMap_cons]
    cases f x with
    | none => exact (lv_sub l).cons _
    | some b => exact (lv_sub l).cons₂ _
theorem order_spec {es : Array En} : ∀ (L : List (Nat × Nat)), (∀ x ∈ L, ∃ e, es[x.2]? = some e) → ((L.map (·.2)).filterMap (es[·]?)).length = L.length ∧
    ∀ j e, (j, e) ∈ (L.map (·.1)).zip ((L.map (·.2)).filterMap (es[·]?)) → ∃ k, (j, k) ∈ L ∧ es[k]? = some e
  | [], _ => ⟨rfl, fun j e h => nomatch h⟩
  | x :: L, h => by
    obtain ⟨i1, i2⟩ := order_spec L fun y hy => h y (List.mem_cons_of_mem _ hy)
    obtain ⟨e0, h0⟩ := h x List.mem_cons_self
    rw [List.map_cons, List.map_cons, List.filterMap_cons, h0]
    refine ⟨by rw [List.length_cons, List.length_cons, i1], fun j e hm => ?_⟩
    rw [List.zip_cons_cons] at hm
    rcases List.mem_cons.mp hm with z | z
    · injection z with z1 z2
      subst z1; subst z2
      exact ⟨x.2, List.mem_cons_self, h0⟩
    · obtain ⟨k, a, b⟩ := i2 j e z
      exact ⟨k, List.mem_cons_of_mem _ a, b⟩
theorem laid_ok {m : Nat} (F : Full m) {es : Array En} (hm : (m = 31 ∧ es.size ≤ 18) ∨ (m = 127 ∧ es.size ≤ 76)) (fi mo : Nat) (led pl : Bool) :
    ∃ t order, SetTable.laid m fi mo led pl (es.map (·.1)) = some (t, order) ∧ (order.filterMap (es[·]?)).size = es.size ∧ Ok t (order.filterMap (es[·]?)) ∧ ∀ e, e ∈ (order.filterMap (es[·]?)).toList ↔ e ∈ es.toList := by
  have hs : (es.map (·.1)).size ≤ m := by rw [Array.size_map]; omega
  obtain ⟨ow, e, L⟩ := layClean_some F (es.map (·.1)) hs
  rw [Array.size_map] at L
  have val : ∀ x ∈ lv m ow, ∃ e, es[x.2]? = some e := fun x hx => by
    obtain ⟨j, k⟩ := x
    obtain ⟨_, z⟩ := lv_mem.mp hx
    have := (L.way j k z).1
    exact ⟨es[k], Array.getElem?_eq_getElem this⟩
  obtain ⟨o1, o2⟩ := order_spec (lv m ow) val
  have et : (((lv m ow).map (·.2)).toArray.filterMap (es[·]?)).toList = ((lv m ow).map (·.2)).filterMap (es[·]?) := by
    rw [Array.toList_filterMap]
  have esz : (((lv m ow).map (·.2)).toArray.filterMap (es[·]?)).size = es.size := by
    rw [← Array.length_toList, et, o1, L.cnt]
  refine ⟨{ mask := m, place := ((lv m ow).map (·.1)).toArray, dummies := #[], finger := fi, led := led, moves := mo, plain := pl }, ((lv m ow).map (·.2)).toArray, ?_, esz, ⟨?_, rfl, ?_, ?_, fun j e' hz => ?_⟩, fun e' => ?_⟩
  · unfold SetTable.laid
    rw [e]; rfl
  · rw [esz]
    show ((lv m ow).map (·.1)).toArray.size = _
    rw [List.size_toArray, List.length_map, L.cnt]
  · rw [esz]
    rcases hm with h | h
    · exact .inr (.inl h)
    · exact .inr (.inr h)
  · show Rise ((lv m ow).map (·.1))
    exact List.Pairwise.sublist (lv_sub _) List.pairwise_lt_range
  · unfold prs at hz
    rw [et] at hz
    obtain ⟨k, h1, h2⟩ := o2 j e' hz
    obtain ⟨h3, h4⟩ := lv_mem.mp h1
    obtain ⟨_, h, h6, h7⟩ := L.way j k h4
    have eh : h = e'.1 := by
      rw [Array.getElem?_toList, Array.getElem?_map, h2] at h6
      exact (Option.some.inj h6).symm
    rw [← eh]
    refine h7.imp fun j' hj' => ?_
    show j' ∈ (lv m ow).map (·.1)
    cases z : ow.getD j' none with
    | none => rw [z] at hj'; cases hj'
    | some b =>
      have hb : j' ≤ m := by
        refine Classical.byContradiction fun c => ?_
        have : ow.getD j' none = none := by
          rw [Array.getD_eq_getD_getElem?, Array.getElem?_eq_none (by rw [L.size]; omega)]; rfl
        rw [this] at z; cases z
      exact List.mem_map.mpr ⟨(j', b), lv_mem.mpr ⟨hb, z⟩, rfl⟩
  · rw [et, List.mem_filterMap]
    constructor
    · rintro ⟨k, _, h⟩
      rw [← Array.getElem?_toList] at h
      exact List.mem_of_getElem? h
    · intro h
      obtain ⟨i, hi, ei⟩ := List.getElem_of_mem h
      rw [Array.length_toList] at hi
      obtain ⟨j, h1, h2⟩ := L.all i hi
      refine ⟨i, List.mem_map.mpr ⟨(j, i), lv_mem.mpr ⟨h1, h2⟩, rfl⟩, ?_⟩
      rw [← Array.getElem?_toList, List.getElem?_eq_getElem (by simpa using hi), ei]
theorem relaid_ok {t : SetTable} {es : Array En} (o : Ok1 t es) (hf : t.tooFull = true) (hn : es.size ≤ 21) :
    sizeAbove (grown es.size) ≤ 128 ∧ ∃ t' order, t.relaid (es.map (·.1)) (grown es.size) = some (t', order) ∧ (order.filterMap (es[·]?)).size = es.size ∧ Ok t' (order.filterMap (es[·]?)) ∧ ∀ e, e ∈ (order.filterMap (es[·]?)).toList ↔ e ∈ es.toList := by
  have e : t.fill = t.place.size := by show t.place.size + t.dummies.size = _; rw [o.du]; rfl
  have h1 := o.sz
  unfold tooFull at hf
  rw [e] at hf
  have h2 := of_decide_eq_true hf
  rcases o.mk7 with ⟨a, b⟩ | ⟨a, b⟩ | ⟨a, b⟩
  · have : es.size = 5 := by omega
    have eq : sizeAbove (grown es.size) = 32 := by rw [this]; decide
    refine ⟨by omega, ?_⟩
    unfold SetTable.relaid
    rw [eq]
    exact laid_ok full31 (.inl ⟨rfl, by omega⟩) _ _ _ _
  · have : es.size = 19 := by omega
    have eq : sizeAbove (grown es.size) = 128 := by rw [this]; decide
    refine ⟨by omega, ?_⟩
    unfold SetTable.relaid
    rw [eq]
    exact laid_ok full127 (.inr ⟨rfl, by omega⟩) _ _ _ _
  · omega
end Tb

namespace Tb
open PySem SetTable
section
variable {prog : Program} {w : World} {A : Around} {E : Value → Shared → Prop} {s : Shared}
abbrev Tk (prog : Program) (w : World) (h : Heap) (k : List Int) (b : Addr) : Prop := IsTupleKey (intKind prog w) h k b
abbrev hsh (prog : Program) (w : World) (k : List Int) : Int := tupleKeyHash (intKind prog w) k
theorem items_int {ks : List Int} {vs : List Value} (h : ItemsAre (intKind prog w) ks vs) : ∀ v ∈ vs, ∃ i t, v = Value.int i t := by
  induction h with
  | nil => intro v hv; cases hv
  | @cons k v' ks vs h1 _ ih =>
    intro v hv
    rcases List.mem_cons.mp hv with rfl | hv
    · obtain ⟨t, e⟩ := Value.isInt_shape h1
      exact ⟨_, t, e⟩
    · exact ih v hv
theorem hbv {k : List Int} {b : Addr} {Q : Bool → Shared → Prop} (hk : Tk prog w s.heap k b) (h : Q true s) : wpAny (model prog w) A (hashByValue 8 (.ref b)) Q E s := by
  have hT := hk.typeIs
  obtain ⟨o, items, n, ho, _, hd, hi⟩ := hk
  unfold hashByValue
  refine wpAny_bind (wpAny_specialOf hT F.slot_tuple_hash.lookup ?_)
  show wpAny _ _ (seqItems? (.ref b) >>= _) _ _ s
  refine wpAny_bind (wpAny_seqItems ho hd ?_)
  refine wpAny_bind ?_
  show wpAny _ _ (forIn items _ _) _ _ s
  rw [← Array.forIn_toList]
  refine wpAny_forIn_list _ (fun rest r s' => r.1 = none ∧ s' = s ∧ ∀ v ∈ rest, ∃ i t, v = Value.int i t) _ ?_ ?_ _ _ ⟨rfl, rfl, items_int hi⟩
  · rintro v rest r s' ⟨hr, rfl, hall⟩
    obtain ⟨i, t, rfl⟩ := hall v List.mem_cons_self
    rw [show ∀ n, hashByValue n (.int i t) = pure true from fun n => by cases n <;> simp [hashByValue]]
    refine wpAny_bind (wpAny_pure ?_)
    simp only [Bool.not_true, Bool.false_eq_true, if_false]
    exact wpAny_pure ⟨rfl, rfl, fun u hu' => hall u (List.mem_cons_of_mem _ hu')⟩
  · rintro ⟨r1, r2⟩ s' ⟨hr, rfl, _⟩
    simp only at hr
    subst hr
    exact wpAny_pure h
theorem oac {k : List Int} {b : Addr} {Q : Bool → Shared → Prop} (hk : Tk prog w s.heap k b) (h : Q false s) : wpAny (model prog w) A (ofAClassStatement 8 (.ref b)) Q E s := by
  have hT := hk.typeIs
  obtain ⟨o, items, n, ho, _, hd, hi⟩ := hk
  unfold ofAClassStatement
  refine wpAny_bind (wpAny_typeOf hT ?_)
  simp only [beq_self_eq_true, if_true]
  refine wpAny_bind (wpAny_pure ?_)
  simp only [Bool.not_true, Bool.false_eq_true, if_false]
  refine wpAny_bind (wpAny_seqItems ho hd ?_)
  dsimp only
  refine wpAny_bind ?_
  rw [← Array.forIn_toList]
  refine wpAny_forIn_list _ (fun rest r s' => r.1 = none ∧ s' = s ∧ ∀ v ∈ rest, ∃ i t, v = Value.int i t) _ ?_ ?_ _ _ ⟨rfl, rfl, items_int hi⟩
  · rintro v rest r s' ⟨hr, rfl, hall⟩
    obtain ⟨i, t, rfl⟩ := hall v List.mem_cons_self
    rw [show ∀ n, ofAClassStatement n (.int i t) = pure false from fun n => by cases n <;> simp [ofAClassStatement]]
    refine wpAny_bind (wpAny_pure ?_)
    simp only [Bool.false_eq_true, if_false]
    exact wpAny_pure ⟨rfl, rfl, fun u hu' => hall u (List.mem_cons_of_mem _ hu')⟩
  · rintro ⟨r1, r2⟩ s' ⟨hr, rfl, _⟩
    simp only at hr
    subst hr
    exact wpAny_pure h
theorem scs {k : List Int} {b : Addr} {Q : Bool → Shared → Prop} (hk : Tk prog w s.heap k b) {st : List Value} (hst : ∀ y ∈ st, ∃ k' b', y = Value.ref b' ∧ Tk prog w s.heap k' b') (h : Q false s) :
    wpAny (model prog w) A (searchCouldBeSeen (.ref b) st) Q E s := by
  unfold searchCouldBeSeen
  refine wpAny_bind ?_
  refine wpAny_forIn_list _ (fun rest r s' => r.1 = none ∧ s' = s ∧ ∀ y ∈ rest, ∃ k' b', y = Value.ref b' ∧ Tk prog w s.heap k' b') _ ?_ ?_ _ _ ⟨rfl, rfl, hst⟩
  · rintro y rest r s' ⟨hr, rfl, hall⟩
    obtain ⟨k', b', rfl, hk'⟩ := hall y List.mem_cons_self
    have hrest := fun u hu' => hall u (List.mem_cons_of_mem _ hu')
    dsimp only [carriedByValue]
    by_cases c : (b == b') = true
    · rw [c]
      simp only [Bool.true_or, if_true]
      exact wpAny_pure ⟨rfl, rfl, hrest⟩
    · rw [Bool.eq_false_iff.mpr c]
      simp only [Bool.false_or, Bool.and_self, Bool.false_eq_true, if_false]
      refine wpAny_bind (wpAny_eqIsQuiet_tuple hk ?_)
      simp only [Bool.not_true, Bool.false_eq_true, if_false]
      refine wpAny_bind (wpAny_eqIsQuiet_tuple hk' ?_)
      simp only [Bool.not_true, Bool.false_eq_true, if_false]
      refine wpAny_bind (oac hk ?_)
      simp only [Bool.false_eq_true, if_false]
      refine wpAny_bind (oac hk' ?_)
      simp only [Bool.false_eq_true, if_false]
      exact wpAny_pure ⟨rfl, rfl, hrest⟩
  · rintro ⟨r1, r2⟩ s' ⟨hr, rfl, _⟩
    simp only at hr
    subst hr
    exact wpAny_pure h
end
end Tb
namespace Tb
open PySem SetTable
section
variable {prog : Program} {w : World} {A : Around} {E : Value → Shared → Prop} {s : Shared}
theorem gave_no {t : SetTable} {es : Array En} (o : Ok t es) : t.gaveWay = false := by
  unfold SetTable.gaveWay
  rcases o.mk7 with ⟨h, _⟩ | ⟨h, _⟩ | ⟨h, _⟩ <;> rw [h] <;> rfl
/-- the elements are tuples of ints under their hashes -/
def Els (prog : Program) (w : World) (h : Heap) (es : Array En) : Prop := ∀ e ∈ es.toList, ∃ k b, e = (hsh prog w k, Value.ref b) ∧ Tk prog w h k b
theorem search_T {a b : Addr} {k : List Int} {o : Obj} {es : Array En} {ep : Nat} {t : SetTable} {Q : SetFound → Shared → Prop} (hu : A.units < cLine) (ho : s.heap.get? a = some o) (hd : o.data = .set es ep t) (ok : Ok t es) (el : Els prog w s.heap es) (hk : Tk prog w s.heap k b) :
    ∀ (fuel n : Nat) (stand : Option Probe) (p : Probe), stand.getD (t.probeStart (hsh prog w k)) = p → PrOk p → n < fuel → t.slot (adv t n p).j = .empty →
      ((∃ e ∈ es.toList, ∃ b', e.2 = Value.ref b' ∧ Tk prog w s.heap k b') → Q (.there none) s) →
      (∀ m, t.slot (adv t m p).j = .empty → (∀ l, l < m → t.slot (adv t l p).j ≠ .empty) → (∀ l i e, l < m → t.slot (adv t l p).j = .live i → es[i]? = some e → ¬ ∃ b', e.2 = Value.ref b' ∧ Tk prog w s.heap k b') → Q (.free (adv t m p).j false) s) →
      wpAny (model prog w) A (setSearchFrom a (.ref b) (hsh prog w k) true fuel stand) Q E s := by
  intro fuel
  induction fuel with
  | zero => intro n _ _ _ _ hn; exact absurd hn (Nat.not_lt_zero _)
  | succ fuel ih =>
    intro n stand p hp po hn he qt qf
    unfold setSearchFrom
    refine wpAny_bind (wpAny_setState_of ho hd ok.fits ?_)
    dsimp only
    rw [gave_no ok]
    simp only [Bool.false_eq_true, if_false]
    rw [hp]
    obtain ⟨n', hn', he'⟩ := empty_ahead ok.full ok.du ok.le po
    unfold SetTable.probe
    obtain ⟨ha, hha⟩ : ∃ f : Nat → Int, f = fun i => (es[i]?.map (·.1)).getD 0 := ⟨_, rfl⟩
    obtain ⟨m, hm, hlt, hc⟩ := go_spec ok.du ha (hsh prog w k) _ p n' hn' he'
    have hai : ∀ i e, es[i]? = some e → ha i = e.1 := fun i e z => by
      rw [hha]
      show (es[i]?.map (·.1)).getD 0 = e.1
      rw [z]; rfl
    have skip : ∀ l i e, l < m → t.slot (adv t l p).j = .live i → es[i]? = some e → ¬ ∃ b', e.2 = Value.ref b' ∧ Tk prog w s.heap k b' := fun l i e hl z1 z2 z3 => by
      obtain ⟨i', y1, y2⟩ := hlt l hl
      rw [z1] at y1; cases y1
      obtain ⟨k2, b2, e2, t2⟩ := el e (by rw [← Array.getElem?_toList] at z2; exact List.mem_of_getElem? z2)
      obtain ⟨b', e3, t3⟩ := z3
      rw [e2] at e3
      injection e3 with e3
      subst e3
      have := IsTupleKey.inj t2 t3
      subst this
      apply y2
      rw [hai i e z2, e2]
    rcases hc with ⟨h1, h2⟩ | ⟨i, h0, h1, h2, h3⟩
    · subst hha
      erw [h2]
      dsimp only
      rw [po.du]
      refine wpAny_pure (qf m h1 (fun l hl z => ?_) skip)
      obtain ⟨i, y, _⟩ := hlt l hl
      rw [z] at y; cases y
    · subst hha
      erw [h3]
      dsimp only
      have hi : i < es.size := by
        have := slot_live h1
        have := (Array.getElem?_eq_some_iff.mp this).1
        rw [ok.sz] at this; exact this
      have ei : es[i]? = some es[i] := Array.getElem?_eq_getElem hi
      obtain ⟨k2, b2, e2, t2⟩ := el es[i] (by rw [← Array.getElem_toList]; exact List.getElem_mem _)
      have after : wpAny (model prog w) A (do
          let some (_, y) := es[i]? | unsupported "internal:set-entry"
          let equal ← holding [y] (eqBool y (.ref b))
          let (es', _, t') ← setState a
          if true && equal then return SetFound.there none
          let some same := t'.sameMemory t.moves t.mask | unsupported "set.changed-during-lookup:is-the-new-block-at-the-old-address"
          let still ← match (if same then t'.slot (adv t m p).j else .empty) with
            | .live i' => match es'[i']? with
              | some (_, y') => do pure (if ← isSame y' y then some i' else none)
              | none => pure none
            | _ => pure none
          match still with
          | none => rule "set.search.anew"; setSearchFrom a (.ref b) (hsh prog w k) true fuel none
          | some i' => if equal then return SetFound.there (some i') else setSearchFrom a (.ref b) (hsh prog w k) true fuel (some (adv t (m + 1) p))) Q E s := by
        rw [ei, e2]
        dsimp only
        refine wpAny_bind (wpAny_holding (wpAny_eqBool_tuple hu t2 hk ?_))
        refine wpAny_bind (wpAny_setState_of ho hd ok.fits ?_)
        dsimp only
        by_cases c : k2 = k
        · subst c
          simp only [decide_true, Bool.and_self, if_true]
          exact wpAny_pure (qt ⟨es[i], by rw [← Array.getElem_toList]; exact List.getElem_mem _, b2, by rw [e2], t2⟩)
        · rw [decide_eq_false c]
          simp only [Bool.and_false, Bool.false_eq_true, if_false]
          have sm : t.sameMemory t.moves t.mask = some true := by unfold SetTable.sameMemory; simp
          rw [sm]
          dsimp only
          simp only [if_true]
          rw [h1]
          dsimp only
          rw [ei, e2]
          dsimp only
          refine wpAny_bind (wpAny_isSame_ref_self (wpAny_bind (wpAny_pure ?_)))
          simp only [if_true]
          have hmn : m < n := by
            refine Classical.byContradiction fun z => ?_
            rcases Nat.lt_or_eq_of_le (Nat.le_of_not_lt z) with y | y
            · obtain ⟨i', y1, _⟩ := hlt n y
              rw [he] at y1; cases y1
            · rw [y, h1] at he; cases he
          have esh : ∀ l, adv t (m + 1 + l) p = adv t l (adv t (m + 1) p) := fun l => adv_add t (m + 1) l p
          refine ih (n - (m + 1)) (some (adv t (m + 1) p)) (adv t (m + 1) p) rfl (PrOk.adv _ po) (by omega) (by rw [← esh, show m + 1 + (n - (m + 1)) = n by omega]; exact he) qt fun m' q1 q2 q3 => ?_
          rw [← esh]
          refine qf (m + 1 + m') (by rw [esh]; exact q1) (fun l hl z => ?_) fun l i' e' hl z1 z2 => ?_
          · rcases Nat.lt_trichotomy l m with y | y | y
            · obtain ⟨i', y1, _⟩ := hlt l y
              rw [z] at y1; cases y1
            · rw [y, h1] at z; cases z
            · have : l = m + 1 + (l - (m + 1)) := by omega
              rw [this, esh] at z
              exact q2 _ (by omega) z
          · rcases Nat.lt_trichotomy l m with y | y | y
            · exact skip l i' e' y z1 z2
            · subst y
              rw [h1] at z1; cases z1
              rw [ei] at z2; cases z2
              rintro ⟨b', z3, z4⟩
              rw [e2] at z3
              injection z3 with z3
              subst z3
              exact c (IsTupleKey.inj t2 z4)
            · have : l = m + 1 + (l - (m + 1)) := by omega
              rw [this, esh] at z1
              exact q3 _ i' e' (by omega) z1 z2
      cases hl : t.led with
      | true =>
        simp only [Bool.not_true, Bool.false_eq_true, if_false]
        exact after
      | false =>
        simp only [Bool.not_false, if_true]
        refine wpAny_bind (scs hk (fun y hy => ?_) ?_)
        · obtain ⟨e, m1, rfl⟩ := List.mem_map.mp hy
          have m2 : e ∈ es.toList := by
            rw [Array.toList_filter] at m1
            exact (List.mem_filter.mp m1).1
          obtain ⟨k3, b3, e3, t3⟩ := el e m2
          exact ⟨k3, b3, by rw [e3], t3⟩
        · simp only [Bool.false_eq_true, if_false]
          exact after
end
end Tb

namespace Tb
open PySem SetTable
section
variable {prog : Program} {w : World} {A : Around} {E : Value → Shared → Prop} {s : Shared}
/-- a set of tuples of ints -/
def SetT (prog : Program) (w : World) (h : Heap) (a : Addr) (ks : List (List Int)) : Prop :=
  ∃ o es ep t, h.get? a = some o ∧ o.ExactSet ∧ o.data = .set es ep t ∧ Ok t es ∧ Els prog w h es ∧ es.size = ks.length ∧ ∀ k, k ∈ ks ↔ ∃ e ∈ es.toList, ∃ b, e.2 = Value.ref b ∧ Tk prog w h k b
theorem tk_at {h h' : Heap} {k : List Int} {b : Addr} (x : Tk prog w h k b) (q : ∀ o, h.get? b = some o → h'.get? b = some o) : Tk prog w h' k b := by
  obtain ⟨o, items, n, ho, r⟩ := x
  exact ⟨o, items, n, q o ho, r⟩
theorem tk_ne {h : Heap} {k : List Int} {a b : Addr} {o : Obj} {es : Array En} {ep : Nat} {t : SetTable} (x : Tk prog w h k b) (ho : h.get? a = some o) (hd : o.data = .set es ep t) : b ≠ a := by
  obtain ⟨o', items, n, ho', _, hd', _⟩ := x
  intro z
  subst z
  rw [ho] at ho'
  cases ho'
  rw [hd] at hd'
  cases hd'
/-- what is stored anew in the set, told of the heap behind it -/
theorem stored {a : Addr} {o : Obj} {es es1 : Array En} {ep : Nat} {t t1 : SetTable} {h : Heap} (ho : h.get? a = some o) (hex : o.ExactSet) (hd : o.data = .set es ep t) :
    ∃ o1, (h.update a (Obj.putSet es1 t1)).get? a = some o1 ∧ o1.ExactSet ∧ o1.data = .set es1 (ep + 1) t1 ∧ Heap.SameBut a h (h.update a (Obj.putSet es1 t1)) := by
  refine ⟨{ o with data := .set es1 (ep + 1) t1 }, ?_, hex, rfl, Heap.SameBut.update h a _⟩
  have z := Heap.get?_update_self (Obj.putSet es1 t1) ho (by rw [putSet_of es1 t1 hd]; rfl)
  rw [putSet_of es1 t1 hd] at z
  exact z
theorem size_small {n : Nat} (h : n ≤ 1000) : n ≤ sizeLine := by rw [sizeLine_eq]; omega
theorem add_T {a b : Addr} {k : List Int} {ks : List (List Int)} {Q : Bool → Shared → Prop} (hu : A.units < cLine) (hS : SetT prog w s.heap a ks) (hk : Tk prog w s.heap k b) (hn : ks.length ≤ 20)
    (q : ∀ h', Heap.SameBut a s.heap h' → SetT prog w h' a (if k ∈ ks then ks else ks ++ [k]) → Q (decide (k ∉ ks)) { s with heap := h' }) :
    wpAny (model prog w) A (setAddHashed a (.ref b) (hsh prog w k)) Q E s := by
  obtain ⟨o, es, ep, t, ho, hex, hd, ok, el, hz, hm⟩ := id hS
  unfold setAddHashed setAddHashedIn
  refine wpAny_holding (wpAny_bind (wpAny_setState_of ho hd ok.fits ?_))
  dsimp only
  rw [show byScan (.ref b) es = false from rfl]
  simp only [Bool.false_eq_true, if_false]
  unfold setSearch
  obtain ⟨n, hn', he⟩ := empty_ahead ok.full ok.du ok.le (start_ok t (hsh prog w k))
  have hn2 : n < 100000 := by
    unfold turns at hn'
    rcases ok.mk7 with ⟨z, _⟩ | ⟨z, _⟩ | ⟨z, _⟩ <;> (rw [z] at hn'; omega)
  refine wpAny_bind (search_T hu ho hd ok el hk 100000 n none _ rfl (start_ok _ _) hn2 he (fun ex => ?_) (fun m q1 q2 q3 => ?_))
  · have hin : k ∈ ks := (hm k).mpr ex
    have z := q s.heap (Heap.SameBut.refl a s.heap) (by rw [if_pos hin]; exact hS)
    rw [decide_eq_false (fun y => y hin)] at z
    exact wpAny_pure z
  · have hin : k ∉ ks := fun z => by
      obtain ⟨e, me, b', z1, z2⟩ := (hm k).mp z
      obtain ⟨k2, b2, e2, t2⟩ := el e me
      have : k2 = k := by
        rw [e2] at z1
        injection z1 with z1
        subst z1
        exact IsTupleKey.inj t2 z2
      exact ok.absent q1 (bad := fun e => ∃ b', e.2 = Value.ref b' ∧ Tk prog w s.heap k b') q3 e me (by rw [e2, this]) ⟨b', z1, z2⟩
    dsimp only
    refine wpAny_bind (wpAny_setState_of ho hd ok.fits ?_)
    dsimp only
    simp only [Option.getD_none] at q1 q2 q3 ⊢
    obtain ⟨o1, em, pm⟩ := ok.put (x := Value.ref b) q1 q2
    generalize t.put (adv t m (t.probeStart (hsh prog w k))).j = tp at o1 em pm ⊢
    obtain ⟨t1, p1⟩ := tp
    dsimp only at o1 em pm ⊢
    generalize insertAt es p1 (hsh prog w k, Value.ref b) = es1 at o1 pm ⊢
    have mem1 : ∀ e, e ∈ es1.toList ↔ e ∈ es.toList ∨ e = (hsh prog w k, Value.ref b) := fun e => by
      rw [pm.mem_iff, Array.toList_push, List.mem_append, List.mem_singleton]
    have sz1 : es1.size = ks.length + 1 := by
      rw [← Array.length_toList, pm.length_eq, Array.toList_push, List.length_append, Array.length_toList, hz]; rfl
    -- what holds of any heap that differs at the set alone and holds these elements
    have fin : ∀ (h2 : Heap) (o2 : Obj) (es2 : Array En) (ep2 : Nat) (t2 : SetTable), Heap.SameBut a s.heap h2 → h2.get? a = some o2 → o2.ExactSet → o2.data = .set es2 ep2 t2 → Ok t2 es2 → es2.size = es1.size → (∀ e, e ∈ es2.toList ↔ e ∈ es1.toList) → Q true { s with heap := h2 } := fun h2 o2 es2 ep2 t2 sb g1 g2 g3 g4 g5 g6 => by
      have up : ∀ {k' b'}, Tk prog w s.heap k' b' → Tk prog w h2 k' b' := fun {k' b'} x => tk_at x fun o z => (sb.2 b' (tk_ne x ho hd)).trans z
      have dn : ∀ {k' b'}, b' ≠ a → Tk prog w h2 k' b' → Tk prog w s.heap k' b' := fun {k' b'} nb x => tk_at x fun o z => (sb.2 b' nb).symm.trans z
      have z := q h2 sb
      rw [if_neg hin, decide_eq_true hin] at z
      refine z ⟨o2, es2, ep2, t2, g1, g2, g3, g4, fun e me => ?_, ?_, fun k' => ?_⟩
      · rcases (mem1 e).mp ((g6 e).mp me) with y | y
        · obtain ⟨k3, b3, e3, t3⟩ := el e y
          exact ⟨k3, b3, e3, up t3⟩
        · exact ⟨k, b, y, up hk⟩
      · rw [g5, sz1, List.length_append]; rfl
      · rw [List.mem_append, List.mem_singleton, hm k']
        constructor
        · rintro (⟨e, me, b', z1, z2⟩ | rfl)
          · exact ⟨e, (g6 e).mpr ((mem1 e).mpr (.inl me)), b', z1, up z2⟩
          · exact ⟨_, (g6 _).mpr ((mem1 _).mpr (.inr rfl)), b, rfl, up hk⟩
        · rintro ⟨e, me, b', z1, z2⟩
          rcases (mem1 e).mp ((g6 e).mp me) with y | y
          · obtain ⟨k3, b3, e3, t3⟩ := el e y
            have eb : b3 = b' := by rw [e3] at z1; injection z1
            subst eb
            exact .inl ⟨e, y, b3, z1, dn (tk_ne t3 ho hd) z2⟩
          · rw [y] at z1
            injection z1 with z1
            subst z1
            exact .inr (IsTupleKey.inj (dn (tk_ne hk ho hd) z2) hk)
    obtain ⟨oA, gA, xA, dA, sA⟩ := stored (es1 := es1) (t1 := t1) ho hex hd
    refine wpAny_ite ?_
    split
    refine wpAny_bind (hbv hk ?_)
    rotate_left
    refine wpAny_bind (wpAny_pure ?_)
    all_goals
     simp only [if_true]
     refine wpAny_bind (wpAny_storeSet_of ho hd ?_ (size_small (by omega)))
     cases hf : t1.tooFull with
     | false =>
       simp only [Bool.and_false, Bool.false_eq_true, if_false]
       exact wpAny_pure (fin _ oA es1 _ t1 sA gA xA dA (o1.ok hf) rfl fun e => Iff.rfl)
     | true =>
       simp only [Bool.not_false, Bool.and_self, if_true]
       obtain ⟨b1, t2, order, r1, r2, r3, r4⟩ := relaid_ok o1 hf (by omega)
       refine wpAny_bind ?_
       unfold setRelay
       refine wpAny_bind (wpAny_setState_of (s := { s with heap := s.heap.update a (Obj.putSet es1 t1) }) gA dA o1.fits ?_)
       dsimp only
       rw [hz, ← sz1, if_neg (by rw [sizeLine_eq]; omega)]
       rw [r1]
       refine wpAny_bind (?_ : wpAny _ _ (ite (((order.filterMap (es1[·]?)).size != es1.size) = true) _ (pure (order.filterMap (es1[·]?), t2))) _ _ _)
       rw [if_neg (by rw [r2]; simp)]
       refine wpAny_pure ?_
       dsimp only
       obtain ⟨oB, gB, xB, dB, sB⟩ := stored (es1 := order.filterMap (es1[·]?)) (t1 := t2) gA xA dA
       refine wpAny_storeSet_of (s := { s with heap := s.heap.update a (Obj.putSet es1 t1) }) gA dA ?_ (size_small (by omega))
       exact wpAny_pure (fin _ oB _ _ t2 (sA.trans sB) gB xB dB r3 r2 r4)
end
end Tb

namespace Tb
open PySem SetTable
/-! ### set(xs), xs a list of tuples of ints -/
def dd (acc : List (List Int)) : List (List Int) → List (List Int)
  | [] => acc
  | m :: ms => dd (if m ∈ acc then acc else acc ++ [m]) ms
theorem dd_snoc (m : List Int) : ∀ (ms acc : List (List Int)), dd acc (ms ++ [m]) = if m ∈ dd acc ms then dd acc ms else dd acc ms ++ [m]
  | [], acc => rfl
  | x :: ms, acc => dd_snoc m ms _
theorem dd_len : ∀ (ms acc : List (List Int)), (dd acc ms).length ≤ acc.length + ms.length
  | [], acc => Nat.le_refl _
  | m :: ms, acc => by
    show (dd (if m ∈ acc then acc else acc ++ [m]) ms).length ≤ acc.length + (ms.length + 1)
    by_cases c : m ∈ acc
    · rw [if_pos c]
      have := dd_len ms acc
      omega
    · rw [if_neg c]
      have := dd_len ms (acc ++ [m])
      rw [List.length_append] at this
      have e : [m].length = 1 := rfl
      omega
theorem dd_all : ∀ (ms acc : List (List Int)), acc.Nodup → ((dd acc ms).length = acc.length + ms.length ↔ (acc ++ ms).Nodup)
  | [], acc, nd => ⟨fun _ => by rw [List.append_nil]; exact nd, fun _ => rfl⟩
  | m :: ms, acc, nd => by
    show (dd (if m ∈ acc then acc else acc ++ [m]) ms).length = acc.length + (ms.length + 1) ↔ _
    by_cases c : m ∈ acc
    · rw [if_pos c]
      have := dd_len ms acc
      constructor
      · intro h; omega
      · intro h
        rw [List.nodup_append] at h
        exact (h.2.2 m c m List.mem_cons_self rfl).elim
    · rw [if_neg c]
      have nd2 : (acc ++ [m]).Nodup := by
        rw [List.nodup_append]
        refine ⟨nd, by simp, fun a ha b hb e => ?_⟩
        rw [List.mem_singleton.mp hb] at e
        exact c (e ▸ ha)
      have := dd_all ms (acc ++ [m]) nd2
      rw [List.length_append] at this
      rw [show acc ++ m :: ms = (acc ++ [m]) ++ ms by simp, ← this]
      show _ ↔ _ = acc.length + 1 + ms.length
      constructor <;> intro h <;> omega
theorem in1_u {A : Around} : A.in1.units = A.units + 1 := rfl
section
variable {prog : Program} {w : World} {A : Around} {E : Value → Shared → Prop} {s : Shared}
theorem els_nil {h : Heap} : Els prog w h #[] := by
  intro e me
  cases me
theorem SetT.at_ {h h' : Heap} {a : Addr} {ks : List (List Int)} (x : SetT prog w h a ks) (ha : ∀ o, h.get? a = some o → h'.get? a = some o) (hb : ∀ b k o, Tk prog w h k b → h.get? b = some o → h'.get? b = some o) : SetT prog w h' a ks := by
  obtain ⟨o, es, ep, t, g1, g2, g3, g4, g5, g6, g7⟩ := x
  refine ⟨o, es, ep, t, ha o g1, g2, g3, g4, fun e me => ?_, g6, fun k => (g7 k).trans ?_⟩
  · obtain ⟨k, b, e1, e2⟩ := g5 e me
    exact ⟨k, b, e1, tk_at e2 fun o z => hb b k o e2 z⟩
  · constructor
    · rintro ⟨e, me, b, z1, z2⟩
      exact ⟨e, me, b, z1, tk_at z2 fun o z => hb b k o z2 z⟩
    · rintro ⟨e, me, b, z1, z2⟩
      obtain ⟨k3, b3, e3, t3⟩ := g5 e me
      have eb : b3 = b := by rw [e3] at z1; injection z1
      subst eb
      have t4 : Tk prog w h' k3 b3 := tk_at t3 fun o z => hb b3 k3 o t3 z
      have := IsTupleKey.inj t4 z2
      subst this
      exact ⟨e, me, b3, z1, t3⟩
/-- the walk that fills a set -/
theorem fill_T {R : Result → Shared → Prop} {I l : Addr} {items : Array Value} (hh : A.handled = none) (ne : l ≠ I) (S : Addr) (nI : S ≠ I) (nl : S ≠ l) (hu : A.units + 2 < cLine)
    (ms : List (List Int)) (bs : List Addr) (hn : ms.length = items.size) (hm : items.size ≤ 20) (hP : ∀ (i : Nat) v, items[i]? = some v → ∃ b, v = Value.ref b ∧ bs[i]? = some b) :
    ∀ (k i : Nat) (s : Shared), items.size - i = k → i ≤ items.size → (s.heap.IsListIter I l i ∧ s.heap.IsList l items) → SetT prog w s.heap S (dd [] (ms.take i)) → (∀ (j : Nat) m b, ms[j]? = some m → bs[j]? = some b → Tk prog w s.heap m b) →
      (∀ h' tk, (∀ b o, b ≠ S → b ≠ I → s.heap.get? b = some o → h'.get? b = some o) → SetT prog w h' S (dd [] ms) → R (.ok (.ret .none)) { s with heap := h', toks := tk }) →
      codeAny (model prog w) A (.builtin "set.update.loop" ⟨[.ref S, .ref I], []⟩) R s := by
  have W := Walks.list (prog := prog) (w := w) (A := A.in1) hh I l ne items
  -- a tuple stands elsewhere than the walker
  have tI : ∀ {h : Heap} {i : Nat} {k b}, h.IsListIter I l i → Tk prog w h k b → b ≠ I := fun {h i k b} x y z => by
    obtain ⟨o, e1, e2, _⟩ := x
    obtain ⟨o', _, _, e3, e4, _⟩ := y
    subst z
    rw [e1] at e3; cases e3
    rw [e2] at e4
    exact absurd (Value.type.inj e4) (by decide)
  intro k
  induction k with
  | zero =>
    intro i s hk hi st hT hts hR
    obtain rfl : i = items.size := by omega
    refine codeAny_builtin PyProof.Rows.F.entry_set_update_loop ?_
    rw [Around.under_plainId PyProof.Rows.F.plain_set_update_loop _]
    refine (?_ : wpAny _ A.in1 (pyNext (.ref I) >>= _) _ _ s)
    refine wpAny_bind (W.done s _ _ st fun h' tk kp => ?_)
    refine (?_ : wpAny _ A.in1 (ret Value.none) _ _ _)
    rw [List.take_of_length_le (by omega)] at hT
    exact wpAny_pure (hR h' tk (fun b o _ nb z => kp b o (by simpa using nb) z) (hT.at_ (fun o z => kp S o (by simpa using nI) z) fun b m o x z => kp b o (by simpa using tI st.1 x) z))
  | succ k ih =>
    intro i s hk hi st hT hts hR
    have hlt : i < items.size := by omega
    refine codeAny_builtin PyProof.Rows.F.entry_set_update_loop ?_
    rw [Around.under_plainId PyProof.Rows.F.plain_set_update_loop _]
    refine (?_ : wpAny _ A.in1 (pyNext (.ref I) >>= _) _ _ s)
    refine wpAny_bind (W.item i s _ _ hlt st fun v h' tk pv st' kp => ?_)
    obtain ⟨b, rfl, eb⟩ := hP i v pv
    have em : ms[i]? = some ms[i] := List.getElem?_eq_getElem (by omega)
    have kp' : ∀ b' m' o', Tk prog w s.heap m' b' → s.heap.get? b' = some o' → h'.get? b' = some o' := fun b' m' o' x z => kp b' o' (by simpa using tI st.1 x) z
    have hT' : SetT prog w h' S (dd [] (ms.take i)) := hT.at_ (fun o z => kp S o (by simpa using nI) z) kp'
    have hts' : ∀ (j : Nat) m b, ms[j]? = some m → bs[j]? = some b → Tk prog w h' m b := fun j m b' y1 y2 => tk_at (hts j m b' y1 y2) fun o z => kp' b' m o (hts j m b' y1 y2) z
    have hk0 := hts' i _ b em eb
    refine (?_ : wpAny _ A.in1 (holding [Value.ref b] (setAdd S (.ref b)) >>= _) _ _ _)
    refine wpAny_bind (wpAny_holding ?_)
    unfold setAdd
    refine wpAny_holding ?_
    refine wpAny_bind (wpAny_pyHash_tuple (knd := intKind prog w) (s := { s with heap := h', toks := tk }) (by rw [in1_u]; omega) hk0 ?_)
    have dl := dd_len (ms.take i) []
    have ll := List.length_take_le i ms
    refine add_T (s := { s with heap := h', toks := tk + ((ms[i]).length + 1) }) (by rw [in1_u]; omega) hT' hk0 (by simp only [List.length_nil] at dl; omega) fun h2 sb hT2 => ?_
    rw [← dd_snoc, ← (show ms.take (i + 1) = ms.take i ++ [ms[i]] by rw [List.take_succ, em]; rfl)] at hT2
    -- the set has changed alone
    obtain ⟨o0, es0, ep0, t0, g1, _, g3, _⟩ := hT'
    have keep : ∀ b' m' o', Tk prog w h' m' b' → h'.get? b' = some o' → h2.get? b' = some o' := fun b' m' o' x z => (sb.2 b' (tk_ne x g1 g3)).trans z
    refine wpAny_pure ⟨plainId_quiet PyProof.Rows.F.plain_set_update_loop _, ih (i + 1) _ (by omega) hlt (W.frame _ _ _ st' fun b' hb o z => ?_) hT2 (fun j m b' y1 y2 => tk_at (hts' j m b' y1 y2) fun o z => keep b' m o (hts' j m b' y1 y2) z) fun h3 tk3 kp3 hT3 => ?_⟩
    · have : b' ≠ S := by
        rcases List.mem_cons.mp hb with rfl | hb
        · exact nI.symm
        · obtain rfl := List.mem_singleton.mp hb; exact nl.symm
      exact (sb.2 b' this).trans z
    · exact hR h3 tk3 (fun b' o n1 n2 z => kp3 b' o n1 n2 ((sb.2 b' n1).trans (kp b' o (by simpa using n2) z))) hT3
/-- set(xs) -/
theorem call_set_T {l : Addr} {items : Array Value} {Q : Value → Shared → Prop} (hh : A.handled = none) (hu : A.units + 10 < cLine) (hl : s.heap.IsList l items) (ms : List (List Int)) (bs : List Addr) (hn : ms.length = items.size) (hm : items.size ≤ 20)
    (hP : ∀ (i : Nat) v, items[i]? = some v → ∃ b, v = Value.ref b ∧ bs[i]? = some b) (hts : ∀ (j : Nat) m b, ms[j]? = some m → bs[j]? = some b → Tk prog w s.heap m b)
    (q : ∀ h' tk, SetT prog w h' s.heap.objs.size (dd [] ms) → (∀ b o, s.heap.get? b = some o → h'.get? b = some o) → Q (.ref s.heap.objs.size) { s with heap := h', toks := tk }) :
    wpAny (model prog w) A (call (.type "set") [.ref l]) Q E s := by
  obtain ⟨c, tl, mro⟩ := F.called_set.mro
  have mk := F.called_set.made
  have sub := F.called_set.sub
  refine wpAny_call (codeAny_of_tree ?_)
  refine (?_ : wpAny _ _ (callAny (.type "set") _) _ _ _)
  refine wpAny_pure ⟨Code.quiet_builtin _ (by decide +kernel), codeAny_builtin F.entry_type_call ?_⟩
  rw [Around.under_plain (weight_type_call_type "set" [.ref l] []) rfl]
  have n1 := F.called_set.notType
  have n2 := F.called_set.canCreate
  have n3 := F.typeCall_set_1 (.ref l)
  repeat (any_goals (first | assumption | wp_step))
  refine codeAny_mono (code_set_new_1 (.ref l) (E := E) (Q₁ := fun v s1 => ∃ led : Bool, v = .ref s.heap.objs.size ∧ s1 = { s with heap := s.heap.push { cls := .type "set", dict := none, data := .set #[] 0 (.fresh 0 0 led) } }) fun led => ⟨led, rfl, rfl⟩) fun r s1 hr => ?_
  cases r with
  | error e => exact hr
  | ok fl =>
    cases fl with
    | ret obj =>
      obtain ⟨led, rfl, rfl⟩ := hr
      have gS : (s.heap.push { cls := .type "set", dict := none, data := .set #[] 0 (.fresh 0 0 led) }).get? s.heap.objs.size = some { cls := .type "set", dict := none, data := .set #[] 0 (.fresh 0 0 led) } := Heap.get?_push_size _ rfl
      have tS : Shared.TypeIs { s with heap := s.heap.push { cls := .type "set", dict := none, data := .set #[] 0 (.fresh 0 0 led) } } (.ref s.heap.objs.size) "set" := ⟨_, gS, rfl⟩
      have il := F.called_set.init.lookup
      have ib := F.called_set.init.bind (.ref s.heap.objs.size)
      repeat (any_goals (first | assumption | wp_step))
      refine codeAny_mono (codeAny_call_builtin (R := wants (fun r s2 => r = .none ∧ ∃ h' tk, s2 = { s with heap := h', toks := tk } ∧ SetT prog w h' s.heap.objs.size (dd [] ms) ∧ ∀ b o, s.heap.get? b = some o → h'.get? b = some o) E) F.called_set.init.plain F.entry_set_init (check_set_init_1 tS ?_)) fun r2 s2 hr2 => ?_
      · obtain ⟨ol, g1, g2, nl, g3⟩ := hl
        obtain ⟨ocls, odict, odata, oslots⟩ := ol
        simp only at g2 g3
        subst g2; subst g3
        have gl : (s.heap.push { cls := .type "set", dict := none, data := .set #[] 0 (.fresh 0 0 led) }).get? l = some { cls := .type "list", dict := odict, data := .seq items nl, slots := oslots } := Heap.get?_push_of_some _ g1
        have s1 := F.sub_list_set
        have s2 := F.sub_list_frozenset
        have s3 : (Value.type "list" == Value.type "dict") = false := by decide
        have il1 : (s.heap.push { cls := .type "set", dict := none, data := .set #[] 0 (.fresh 0 0 led) }).IsList l items := ⟨_, gl, rfl, nl, rfl⟩
        unfold Builtin.«set.__init__» noKeywords Builtin.Frozenset.updateFrom
        generalize eP : pyIter = PI
        wp_walk
        subst eP
        refine wpAny_pyIter_list il1 ?_
        refine wpAny_bind (wpAny_runValue ?_)
        have lS : l < s.heap.objs.size := Heap.lt_size g1
        have zS : (s.heap.push { cls := .type "set", dict := none, data := .set #[] 0 (.fresh 0 0 led) }).objs.size = s.heap.objs.size + 1 := Heap.size_push ..
        have kp : ∀ b o, s.heap.get? b = some o → ((s.heap.push { cls := .type "set", dict := none, data := .set #[] 0 (.fresh 0 0 led) }).push { cls := .type "list_iterator", data := .fields #[.ref l, .int 0 0] }).get? b = some o := fun b o z => Heap.get?_push_of_some _ (Heap.get?_push_of_some _ z)
        refine fill_T (items := items) (by simp [hh]) (by rw [zS]; exact Nat.ne_of_lt (Nat.lt_succ_of_lt lS)) s.heap.objs.size (by rw [zS]; exact Nat.ne_of_lt (Nat.lt_succ_self _)) (Nat.ne_of_gt lS) (by simp only [in1_u]; omega) ms bs hn hm hP (items.size - 0) 0 _ rfl (Nat.zero_le _)
          ⟨⟨_, Heap.get?_push_size _ rfl, rfl, rfl⟩, il1.push _⟩ ?hS0 (fun j m b y1 y2 => tk_at (hts j m b y1 y2) fun o z => kp b o z) ?hR
        case hS0 =>
          rw [List.take_zero]
          exact ⟨_, #[], 0, _, Heap.get?_push_of_some _ gS, ⟨rfl, rfl, rfl⟩, rfl, fresh_ok led, els_nil, rfl, fun k => ⟨fun z => (by cases z), fun ⟨e, me, _⟩ => (by cases me)⟩⟩
        case hR =>
          intro h' tk' kp' hT'
          refine (?_ : wpAny _ _ _ _ _ _)
          refine wpAny_pure ?_
          refine (?_ : wpAny _ _ (ret Value.none) _ _ _)
          refine wpAny_pure ⟨rfl, h', tk', rfl, hT', fun b o z => ?_⟩
          have hb := Heap.lt_size z
          exact kp' b o (Nat.ne_of_lt hb) (by rw [zS]; exact Nat.ne_of_lt (Nat.lt_succ_of_lt hb)) (kp b o z)
      · cases r2 with
        | error e => exact hr2
        | ok fl2 =>
          cases fl2 with
          | ret r =>
            obtain ⟨rfl, h', tk, rfl, hT', hk'⟩ := hr2
            repeat (any_goals (first | assumption | wp_step))
            exact q _ _ hT' hk'
          | _ => exact hr2.elim
    | _ => exact hr.elim
end
end Tb
namespace L3
open PySem PySem.Spec PyProof.Rows PySem.Calls L2
/-- how many stand in the set at a -/
def SetN (a : Addr) (n : Nat) : HO := .ext fun h => ∃ o es ep t, h.get? a = some o ∧ o.ExactSet ∧ o.data = .set es ep t ∧ t.fits es.size = true ∧ es.size = n
theorem b_set : bootBuiltins "set" = some (.type "set") := by decide +kernel
theorem b_all : bootBuiltins "all" = some (.builtin "all") := by decide +kernel
section
variable {X : Cx}
theorem tk_den {pins : List (Addr × Obj)} {σ : L2.St} {H : Hp} {s : Shared} {m : List Int} {y : V} {v : Value} (I : Inv X pins σ H s) (h : Den X.K H (itup m) y) (r : RelV y v) : ∃ b, v = .ref b ∧ Tb.Tk X.prog X.w s.heap m b := by
  obtain ⟨a, xs, rfl, h1, h2⟩ := h.tup_of
  cases r
  obtain ⟨its, rv, ⟨o, e1, e2, n, e3⟩, _⟩ := I.tuple h1
  rw [dens_ints_of h2] at rv
  refine ⟨a, rfl, o, its.toArray, n, e1, e2, e3, ?_⟩
  have : ∀ {m : List Int} {us : List Value}, Vals (m.map V.int) us → ItemsAre (intKind X.prog X.w) m us := by
    intro m
    induction m with
    | nil => intro us q; cases q; exact .nil
    | cons i m ih =>
      intro us q
      cases q with
      | cons q t =>
        obtain ⟨tk, rfl⟩ := q
        exact .cons (intKind_is _ _ _ _) (ih t)
  exact this (by simpa using rv)
def rSetT (K : PySem.W.Frag) : List V → Hp → VK → Prop := fun xs H Q => ∃ (p : Addr) (ys : List V) (ms : List (List Int)), xs = [.ref p] ∧ SqL K H p ys ∧ Dens K H (ms.map itup) ys ∧ ms.length ≤ 20 ∧ ∀ a, H a = none → Q (.ref a) (upd H a (SetN a (Tb.dd [] ms).length))
theorem call_setT (hc : X.calm = true) (hu : X.A.units + 40 < cLine) : CallR X (.type "set") (rSetT X.K) := by
  intro pins s σ H xs us Q I r h
  obtain ⟨p, ys, ms, rfl, hp, hd, h20, q⟩ := h
  obtain ⟨u, rfl, r1⟩ := vals1 r
  cases r1
  obtain ⟨its, rv, pl, hz⟩ := I.list hp
  have ly : ys.length = ms.length := by have := Dens.length hd; rw [List.length_map] at this; exact this
  have lv : ys.length = its.length := rv.length
  have at_ : ∀ (i : Nat) v, its[i]? = some v → ∃ m b, ms[i]? = some m ∧ v = .ref b ∧ Tb.Tk X.prog X.w s.heap m b := fun i v e => by
    have hi : i < ms.length := by have := (List.getElem?_eq_some_iff.mp e).1; omega
    have em : ms[i]? = some ms[i] := List.getElem?_eq_getElem hi
    obtain ⟨y, ey, dy⟩ := Dens.at (i := i) hd (d := itup ms[i]) (by rw [List.getElem?_map, em]; rfl)
    obtain ⟨v', ev, rv'⟩ := rv.get ey
    rw [e] at ev; cases ev
    obtain ⟨b, e1, e2⟩ := tk_den I dy rv'
    exact ⟨_, b, em, e1, e2⟩
  refine Tb.call_set_T (items := its.toArray) (I.ok.hd hc) (by omega) pl.isList ms (its.map fun v => match v with | .ref b => b | _ => 0) (by rw [List.size_toArray]; omega) (by rw [List.size_toArray]; omega) (fun i v e => ?_) (fun j m b e1 e2 => ?_) fun h' tk hS hk => ?_
  · rw [List.getElem?_toArray] at e
    obtain ⟨m, b, _, rfl, _⟩ := at_ i v e
    exact ⟨b, rfl, by rw [List.getElem?_map, e]; rfl⟩
  · rw [List.getElem?_map] at e2
    cases e3 : its[j]? with
    | none => rw [e3] at e2; cases e2
    | some v =>
      rw [e3] at e2
      obtain ⟨m', b', e4, rfl, e5⟩ := at_ j v e3
      cases e2
      rw [e1] at e4; cases e4
      exact e5
  · obtain ⟨o, es, ep, t, g1, g2, g3, g4, _, g6, _⟩ := hS
    have hl : H s.heap.objs.size = none := I.hok.fresh (Nat.le_refl _)
    refine ⟨.ref s.heap.objs.size, _, I.laid (t' := tk) hk (Nat.le_refl _) (show ObjOk X.prog X.w _ h' _ (SetN s.heap.objs.size (Tb.dd [] ms).length) from ⟨⟨o, es, ep, t, g1, g2, g3, g4.fits, g6⟩, ⟨o, g1⟩, fun h1 h2 z k => ?_⟩), rfl, q _ hl⟩
    obtain ⟨o', es', ep', t', y1, y⟩ := z
    exact ⟨o', es', ep', t', k _ y1, y⟩
theorem call_lenSet : CallR X (.builtin "len") (fun xs H Q => ∃ (a : Addr) (n : Nat), xs = [V.ref a] ∧ H a = some (SetN a n) ∧ n ≤ 1000 ∧ Q (.int n) H) := by
  intro pins s σ H xs us Q I r h
  obtain ⟨a, n, rfl, ha, hn, q⟩ := h
  obtain ⟨u, rfl, ru⟩ := vals1 r
  cases ru
  obtain ⟨⟨o, es, ep, t, g1, g2, g3, g4, g5⟩, _⟩ := (show ObjOk X.prog X.w H s.heap a (SetN a n) from I.hok a _ ha)
  refine call_len_set g1 g2 g3 g4 (by rw [g5]; omega) ?_
  rw [g5]
  exact ⟨.int n, H, I.tok _, ⟨_, rfl⟩, q⟩
end
end L3

namespace L3
open PySem PySem.Spec PyProof.Rows PySem.Calls L2
/-! ### names of the module, all(..), startswith -/
def GV (mg : Str → Option Value) (x : Str) (v : V) : Prop := ∃ u, mg x = some u ∧ RelV v u
section
variable {X : Cx}
theorem pe_gv {x : Str} {v : V} {pos : Pos} (h : GV X.mg x v) (hg : Gl X x := by rfl) (hd : (x == ("__debug__" : Str)) = false := by decide) : PE X (.Name x pos) (tC v) := by
  obtain ⟨u, h1, h2⟩ := h
  exact pe_glob hg h1 h2 hd
def rAllB (K : PySem.W.Frag) : List V → Hp → VK → Prop := fun xs H Q => ∃ (p : Addr) (bs : List Bool), xs = [.ref p] ∧ SqL K H p (bs.map V.bl) ∧ Q (.bl (bs.all id)) H
theorem all_range (bs : List Bool) : (List.range bs.length).all (fun i => bs.getD i true) = bs.all id := by
  apply Bool.eq_iff_iff.mpr
  rw [List.all_eq_true, List.all_eq_true]
  constructor
  · intro h b hb
    obtain ⟨i, hi, e⟩ := List.getElem_of_mem hb
    have := h i (List.mem_range.mpr hi)
    rw [List.getD_eq_getElem?_getD, List.getElem?_eq_getElem hi] at this
    rw [← e]; exact this
  · intro h i hi
    have hi' := List.mem_range.mp hi
    rw [List.getD_eq_getElem?_getD, List.getElem?_eq_getElem hi']
    exact h _ (List.getElem_mem hi')
theorem call_allB (hc : X.calm = true) : CallR X (.builtin "all") (rAllB X.K) := by
  intro pins s σ H xs us Q I r h
  obtain ⟨p, bs, rfl, hp, q⟩ := h
  obtain ⟨u, rfl, r1⟩ := vals1 r
  cases r1
  obtain ⟨its, rv, pl, hz⟩ := I.list hp
  have ll : its.length = bs.length := by have := rv.length; rw [List.length_map] at this; exact this.symm
  have nI : p ≠ s.heap.objs.size := by
    obtain ⟨o, e, _⟩ := pl.isList
    exact Nat.ne_of_lt (Heap.lt_size e)
  refine call_all_walk (wpAny_pyIter_list pl.isList ⟨s.heap.objs.size, [s.heap.objs.size, p], [s.heap.objs.size], its.toArray.size, _, _, fun i => bs.getD i true, rfl, Walks.list (A := X.A.in1) (show X.A.in1.handled = none from I.ok.hd hc) s.heap.objs.size p nI its.toArray, ⟨⟨_, Heap.get?_push_size _ rfl, rfl, rfl⟩, pl.isList.push _⟩, fun i v s' Q' E' pv hq => ?_, fun h' tk k => ?_⟩)
  · have pv : its.toArray[i]? = some v := pv
    rw [List.getElem?_toArray] at pv
    have hi : i < bs.length := by have := (List.getElem?_eq_some_iff.mp pv).1; omega
    obtain ⟨u, e1, e2⟩ := rv.get (i := i) (x := .bl bs[i]) (by rw [List.getElem?_map, List.getElem?_eq_getElem hi]; rfl)
    rw [pv] at e1; cases e1
    obtain rfl : v = Value.bool bs[i] := e2
    have : bs.getD i true = bs[i] := by rw [List.getD_eq_getElem?_getD, List.getElem?_eq_getElem hi]; rfl
    simp only [this] at hq
    exact wpAny_truthy_bool hq
  · rw [List.size_toArray, ll, all_range]
    refine ⟨.bl _, H, I.kept (t' := tk) fun b o e => k b o ?_ (Heap.get?_push_of_some _ e), rfl, q⟩
    have := Heap.lt_size e
    simp only [List.mem_singleton]
    exact Nat.ne_of_lt this
def rStarts : V → List V → Hp → VK → Prop := fun x vs H Q => ∃ z y : Str, x = .str z ∧ vs = [.str y] ∧ Q (.bl (Txt.startswith z y)) H
theorem mt_starts : MtM X "str.startswith" rStarts := by
  intro pins s σ H x vs v us Q I rx rv h
  obtain ⟨z, y, rfl, rfl, q⟩ := h
  obtain ⟨k, rfl⟩ := rx
  obtain ⟨u, rfl, ru⟩ := rv.one
  obtain ⟨k2, rfl⟩ := ru
  exact SC.startswith ⟨.bl _, H, I, rfl, q⟩
end
end L3

namespace L3
open PySem PySem.Spec PyProof.Rows PySem.Calls L2
/-! ### sorted(d), d a dict with tuples of ints for keys -/
section
variable {prog : Program} {w : World} {A : Around} {E : Value → Shared → Prop} {s : Shared} {T : String} {r d : Addr} {n : Nat} {P : Nat → Value → Prop} {OK : Heap → Prop}
end
def rSortD (K : PySem.W.Frag) : List V → Hp → VK → Prop := fun xs H Q => ∃ (p : Addr) (kvs : List (List Key × V)) (ms : List (List Int)), xs = [.ref p] ∧ H p = some (.dT kvs) ∧ kvs.map (·.1) = ms.map keyT ∧ (∀ m ∈ ms, m ≠ []) ∧
  ∀ (l : Addr) (ns : List (List Int)) (zs : List V), H l = none → ns.Perm ms → ns.Pairwise (fun a b => llt b a = false) → Dens K (upd H l (.lst zs)) (ns.map itup) zs → Q (.ref l) (upd H l (.lst zs))
section
variable {X : Cx}
end
end L3

namespace L3
open PySem PySem.Spec PyProof.Rows PySem.Calls L2
/-! ### a comprehension over a text's signs -/
theorem comp_str {x : Str} {g : TG} {tc : TT} {te : TE} {Q : VK} {σ0 : L2.St} {H0 : Hp} (Pv : Nat → List V → L2.St → Hp → Prop) (h0 : Pv 0 [] σ0 H0) (hx : x.cps.size ≤ sizeLine)
    (hl : ∀ i ys σ H, i ≤ x.cps.size → Pv i ys σ H → ys.length ≤ i)
    (hs : ∀ i c ys σ H, x.cps[i]? = some c → Pv i ys σ H → g (.str ⟨#[c]⟩) σ H fun σ2 H3 => tc σ2 H3 fun b H4 => if b = true then te σ2 H4 fun y H5 => Pv (i + 1) (ys ++ [y]) σ2 H5 else Pv (i + 1) ys σ2 H4)
    (hd : ∀ ys σ H, Pv x.cps.size ys σ H → ∀ p, H p = none → Q (.ref p) (upd H p (.lst ys))) :
    tCompAt (Its x) g tc te Q σ0 H0 := by
  refine ⟨fun i m ys σ H => m = x.cps.size - i ∧ i ≤ x.cps.size ∧ Pv i ys σ H, ⟨x.cps.size, by simp, Nat.zero_le _, h0⟩, ?_⟩
  rintro i m ys σ H ⟨rfl, hi, p⟩
  have hy := hl i ys σ H hi p
  by_cases hlt : i < x.cps.size
  · refine .inr ⟨hlt, by omega, Pv (i + 1), fun ys' σ' H' p' => ⟨x.cps.size - (i + 1), by omega, rfl, hlt, p'⟩, fun v H' y => ?_⟩
    obtain ⟨rfl, c, ec, rfl⟩ := y
    exact hs i c ys σ _ ec p
  · have e : i = x.cps.size := by omega
    subst e
    exact .inl ⟨rfl, by omega, hd ys σ H p⟩
theorem starts_one (z : Str) (c : Nat) : Txt.startswith z ⟨#[c]⟩ = decide (z.cps.toList.head? = some c) := by
  unfold Txt.startswith Builtin.Str.subAt
  have e : z.cps.toList = (z.cps.toList) := rfl
  have h1 : (⟨#[c]⟩ : Str).length = 1 := rfl
  rw [h1]
  have h2 : (z.cps.extract 0 (0 + 1) == #[c]) = decide (z.cps.toList.take 1 = [c]) := by
    apply Bool.eq_iff_iff.mpr
    rw [beq_iff_eq, decide_eq_true_iff]
    constructor
    · intro h
      have := congrArg Array.toList h
      simpa [List.extract_eq_take_drop] using this
    · intro h
      apply Array.toList_inj.mp
      simpa [List.extract_eq_take_drop] using h
  show (decide (0 + 1 ≤ z.length) && (z.cps.extract 0 (0 + 1) == #[c])) = _
  rw [h2]
  have hl : z.length = z.cps.toList.length := by show z.cps.size = _; simp
  rw [hl]
  cases z.cps.toList with
  | nil => simp
  | cons d r => simp
end L3
namespace Ma
open PySem L2 L3 PySem.NumText
/-- a word that writes a number of at most seven figures -/
def NumA (w : Str) (n : Int) : Prop := w = numT n ∧ -9999999 ≤ n ∧ n ≤ 9999999
theorem digits_seven {m : Nat} : ((Nat.toDigits 10 m).map Char.toNat).length ≤ 7 ↔ m ≤ 9999999 := by
  rw [List.length_map]
  have := Nat.length_toDigits_le_iff (b := 10) (n := m) (k := 7) (by decide) (by decide)
  rw [this]
  omega
theorem numA_pos {w : Str} (h : w.cps.toList.head? ≠ some 45) (n : Int) : NumA w n ↔ (Figs w.cps.toList ∧ w.cps.toList.length ≤ 7) ∧ n = (digitsVal w.cps.toList : Nat) := by
  constructor
  · rintro ⟨rfl, h1, h2⟩
    by_cases c : 0 ≤ n
    · obtain ⟨m, rfl⟩ := Int.eq_ofNat_of_zero_le c
      rw [numT_nat]
      exact ⟨⟨(digits_figs m).1, digits_seven.mpr (by omega)⟩, by rw [(digits_figs m).2]⟩
    · obtain ⟨m, rfl⟩ : ∃ m : Nat, n = -((m + 1 : Nat) : Int) := ⟨(-n - 1).toNat, by omega⟩
      rw [numT_neg] at h
      exact absurd rfl h
  · rintro ⟨⟨o, o7⟩, rfl⟩
    refine ⟨figs_num o, by omega, ?_⟩
    have : digitsVal w.cps.toList ≤ 9999999 := digits_seven.mp (by rw [figs_digits o]; exact o7)
    omega
theorem numA_neg {w : Str} {cs : List Nat} (e : w.cps.toList = 45 :: cs) (n : Int) : NumA w n ↔ (Figs cs ∧ cs.length ≤ 7 ∧ cs ≠ [48]) ∧ n = -((digitsVal cs : Nat) : Int) := by
  constructor
  · rintro ⟨rfl, h1, h2⟩
    by_cases c : 0 ≤ n
    · obtain ⟨m, rfl⟩ := Int.eq_ofNat_of_zero_le c
      rw [numT_nat] at e
      have := (digits_figs m).1.1 45 (by rw [e]; simp)
      omega
    · obtain ⟨m, rfl⟩ : ∃ m : Nat, n = -((m + 1 : Nat) : Int) := ⟨(-n - 1).toNat, by omega⟩
      rw [numT_neg] at e
      injection e with _ e
      subst e
      refine ⟨⟨(digits_figs (m + 1)).1, digits_seven.mpr (by omega), fun z => ?_⟩, by rw [(digits_figs (m + 1)).2]⟩
      have v := (digits_figs (m + 1)).2
      rw [z] at v
      have : digitsVal [48] = 0 := rfl
      omega
  · rintro ⟨⟨o, o7, h0⟩, rfl⟩
    refine ⟨figs_neg e o h0, ?_, by omega⟩
    have : digitsVal cs ≤ 9999999 := digits_seven.mp (by rw [figs_digits o]; exact o7)
    omega
theorem numA_zero : NumA ⟨#[48]⟩ 0 := ⟨by decide +kernel, by decide, by decide⟩
end Ma

namespace L3
open PySem PySem.Spec PyProof.Rows L2
/-! ### a comprehension whose element may raise -/
section
variable {M : Model} {A : Around} {E : Value → Shared → Prop} {s : Shared} {env : Env}
def postX (M : Model) (A : Around) (E : Value → Shared → Prop) (use : Option (Value → Sem Unit)) (Q : Value → Shared → Prop) (scope : Scope) (env : Env) (acc : Value) (cenv : Env) (r : Result) (s' : Shared) : Prop :=
  match r, use with
  | .ok _, none => ∃ m, s'.heap.Ns cenv.locals m ∧ ∀ h', Heap.SameBut cenv.locals s'.heap h' → Q acc { s' with heap := h' }
  | .ok _, some u => wpAny M A (u acc) (fun _ t => ∃ m, t.heap.Ns cenv.locals m ∧ ∀ h', Heap.SameBut cenv.locals t.heap h' → Q .none { t with heap := h' }) E s'
  | .error x, _ => ∃ m, s'.heap.Ns cenv.locals m ∧ ∀ h', Heap.SameBut cenv.locals s'.heap h' → wpAny M A (passOn "comprehension.variables-let-go" x { cenv with scope := relabel scope env } : Sem Value) (fun _ _ => False) E { s' with heap := h' }
theorem comp_freeX {e : Expr} {scope : Scope} {pos : Pos} {newAcc first : Sem Value} {g : Comprehension} {gs : List Comprehension} {cl : List (Str × Addr)} {use : Option (Value → Sem Unit)} {Q : Value → Shared → Prop}
    (ec : clausesOf e = g :: gs) (ef : ∀ x, foldedSetIterable g.iter env x = pure x) (eo : closureFor scope env = pure cl) (hk : scope.kind = .function) (hn : ∀ x ∈ scope.names, x.2 = .local → scope.names.lookup x.1 = some .local)
    (h : wpAny M A first (fun x s1 => wpAny M A (pyIter x) (fun it s2 => wpAny M A newAcc (fun acc s3 => wpAny M A (newFunctionEnv scope env.globals cl [] env.qual none .none (some env)) (fun cenv s4 =>
        codeAny M A (.compStart e 0 it acc { cenv with scope := relabel scope env }) (postX M A E use Q scope env acc cenv) s4) E s3) E s2) E s1) E s) :
    wpAny M A (comprehension e scope env pos newAcc false first use) Q E s := by
  unfold comprehension
  rw [eo, ec]
  refine wpAny_bind (wpAny_mono h (fun x s1 h1 => wpAny_bind (wpAny_standAt (wpAny_bind (wpAny_of_eq (ef x) (wpAny_bind (wpAny_holding (wpAny_mono h1 (fun it s2 h2 => wpAny_standIf (wpAny_bind (wpAny_mono h2 (fun acc s3 h3 => wpAny_bind (wpAny_pure (wpAny_bind (wpAny_mono h3 (fun cenv s4 h4 => ?_) fun _ _ y => y)))) fun _ _ y => y))) fun _ _ y => y))))))) fun _ _ y => y)
  dsimp only
  have v1 : ∀ x ∈ (scope.names.filter fun x => (x.2 == .local || x.2 == .cell) && x.1 != (".0" : Str)).reverse, x.2 = .local → Env.kindOf { cenv with scope := relabel scope env } x.1 = some .local := fun x hx hl => lookup_relabel_local (hn x (List.mem_filter.mp (List.mem_reverse.mp hx)).1 hl)
  have v2 : ∀ x ∈ (scope.names.filter fun x => (x.2 == .local || x.2 == .cell) && x.1 != (".0" : Str)).reverse.drop 1 ++ (scope.names.filter fun x => (x.2 == .local || x.2 == .cell) && x.1 != (".0" : Str)).reverse.take 1, x.2 = .local → Env.kindOf { cenv with scope := relabel scope env } x.1 = some .local := fun x hx hl => by
    rcases List.mem_append.mp hx with y | y
    · exact v1 x (List.mem_of_mem_drop y) hl
    · exact v1 x (List.mem_of_mem_take y) hl
  refine wpAny_holding (wpAny_bind (wpAny_attempt (wpAny_holding (wpAny_run (codeAny_mono h4 fun r t hr => ?_)))))
  cases r with
  | ok f =>
    cases use with
    | none =>
      obtain ⟨m, y1, y2⟩ := hr
      exact wpAny_bind (wpAny_holding (wpAny_comp_letGo (cenv := { cenv with scope := relabel scope env }) hk _ t m v1 y1 fun h' m' _ sb => wpAny_pure (y2 h' sb)))
    | some u =>
      refine wpAny_bind (wpAny_rule (wpAny_bind (wpAny_holding (wpAny_mono hr (fun _ t2 y => ?_) fun _ _ y => y))))
      obtain ⟨m, y1, y2⟩ := y
      exact wpAny_bind (wpAny_comp_letGo (cenv := { cenv with scope := relabel scope env }) hk _ t2 m v2 y1 fun h' m' _ sb => wpAny_pure (y2 h' sb))
  | error x =>
    have hr' : ∃ m, t.heap.Ns cenv.locals m ∧ ∀ h', Heap.SameBut cenv.locals t.heap h' → wpAny M A (passOn "comprehension.variables-let-go" x { cenv with scope := relabel scope env } : Sem Value) (fun _ _ => False) E { t with heap := h' } := by cases use <;> exact hr
    obtain ⟨m, y1, y2⟩ := hr'
    exact wpAny_bind (wpAny_holding (wpAny_comp_letGo (cenv := { cenv with scope := relabel scope env }) hk _ t m v1 y1 fun h' m' _ sb => wpAny_mono (y2 h' sb) (fun _ _ z => z.elim) fun _ _ y => y))
end
theorem comp_loopX {prog : Program} {w : World} {A : Around} {R : Result → Shared → Prop} {s : Shared} {elt tg iter : Expr} {ifs : List Expr} {scope : Scope} {pos : Pos} {it acc : Value} {env : Env} (xi : Value → Shared → Prop) (hxi : ∀ x s', xi x s' → notedBy (model prog w) A env (fun e s' => R (.error e) s') x s') (J : Nat → Shared → Prop)
    (turn : ∀ n s, J n s → wpAny (model prog w) A (pyNext it) (fun r s1 => match r with
      | none => R (.ok .next) s1
      | some v => wpAny (model prog w) A (letOwnedTupleGo tg it v) (fun _ s2 => wpAny (model prog w) A (assign tg env v) (fun _ s3 =>
          wpAny (model prog w) A (forIn ifs true fun c r => if r = true then do let ok ← isTrue c env (eval c env); pure (ForInStep.yield ok) else pure (ForInStep.yield r)) (fun ok s4 =>
            if ok = true then wpAny (model prog w) A (eval elt env) (fun x s5 => wpAny (model prog w) A (call (.builtin "list.append") [acc, x]) (fun _ s6 => ∃ m, m < n ∧ J m s6) (fun _ _ => False) s5) xi s4
            else ∃ m, m < n ∧ J m s4) (fun _ _ => False) s3) (fun _ _ => False) s2) (fun _ _ => False) s1) (fun _ _ => False) s)
    (n : Nat) (h : J n s) : codeAny (model prog w) A (.compLoop (.ListComp elt [⟨tg, iter, ifs, 0⟩] scope pos) 0 it acc env) R s := by
  refine codeAny_loop rfl J (fun n s hJ => ?_) n h
  have no : ∀ (x : Value) (s' : Shared), (fun (_ : Value) (_ : Shared) => False) x s' → (notedBy (model prog w) A env fun e s' => R (.error e) s') x s' := fun _ _ z => z.elim
  show wpAny (model prog w) A (Sem.onRaise (compTurn (.ListComp elt [⟨tg, iter, ifs, 0⟩] scope pos) 0 it acc env) (fun y => do noteFrame y env; theTreesLotGoes y)) _ _ s
  refine wpAny_noted ?_
  rw [compTurn_list]
  refine wpAny_bind (wpAny_standAt (wpAny_bind (wpAny_mono (turn n s hJ) (fun r s1 h1 => ?_) no)))
  cases r with
  | none => exact wpAny_pure h1
  | some v =>
    refine wpAny_bind (wpAny_mono h1 (fun _ s2 h2 => ?_) no)
    refine wpAny_bind (wpAny_mono h2 (fun _ s3 h3 => ?_) no)
    refine wpAny_bind (wpAny_mono h3 (fun ok s4 h4 => ?_) no)
    cases ok with
    | false => exact wpAny_pure ⟨rfl, h4⟩
    | true =>
      rw [if_pos rfl] at h4
      refine wpAny_bind (wpAny_bind (wpAny_mono h4 (fun x s5 h5 => ?_) hxi))
      exact wpAny_bind (wpAny_mono h5 (fun _ s6 h6 => wpAny_pure (wpAny_pure ⟨rfl, h6⟩)) no)
theorem funFrames_but {h h' base base' : Heap} {C : Addr} (sb : ∀ b, b ≠ C → h'.get? b = h.get? b) (hb : ∀ b, base.get? b = none → base'.get? b = none) : ∀ {l : List Env}, C ∉ frs l → h.FunFrames base l → h'.FunFrames base' l
  | [], _, _ => trivial
  | env :: l, nc, hl => by
    obtain ⟨k, ⟨L, o, hf, hn, ho, hd⟩, hr⟩ := hl
    have e : frs (env :: l) = L :: frs l := by unfold frs; rw [List.filterMap_cons, hf]
    rw [e] at nc
    have n1 : L ≠ C := fun z => nc (z ▸ List.mem_cons_self)
    exact ⟨k, ⟨L, o, hf, hb L hn, (sb L n1).trans ho, hd⟩, funFrames_but sb hb (fun m => nc (List.mem_cons_of_mem _ m)) hr⟩
theorem held_but {h h' B : Heap} {C ea L : Addr} {cls a0 : Value} {l : List Env} {oC : Obj} (hC : h.get? C = some oC) (hd : ∀ vs, oC.data ≠ .fields vs) (nc : C ∉ frs l) (sb : Heap.SameBut C h h') (x : Heap.HeldW B l ea cls a0 L h) : Heap.HeldW (PySem.W.hideAll B [C]) l ea cls a0 L h' := by
  obtain ⟨f1, f2, f3, oe, vs, T, oT, ts, he, hc, hd1, h1, hnT, hTe, hT, hdT, h3⟩ := x
  have sub : ∀ b, B.get? b = none → (PySem.W.hideAll B [C]).get? b = none := fun b e => by
    cases q : (PySem.W.hideAll B [C]).get? b with
    | none => rfl
    | some o => rw [PySem.W.of_hideAll _ q] at e; cases e
  have ne1 : ea ≠ C := fun z => by subst z; rw [hC] at he; cases he; exact hd vs hd1
  have ne2 : T ≠ C := fun z => by subst z; rw [hC] at hT; cases hT; exact hd ts hdT
  refine ⟨fun b o e => ?_, sub ea f2, funFrames_but (fun b nb => sb.2 b nb) sub nc f3, oe, vs, T, oT, ts, (sb.2 ea ne1).trans he, hc, hd1, h1, sub T hnT, hTe, (sb.2 T ne2).trans hT, hdT, h3⟩
  have nb : b ≠ C := fun z => by subst z; rw [PySem.W.hideAll_none [b] (by simp)] at e; cases e
  exact (sb.2 b nb).trans (f1 b o (PySem.W.of_hideAll _ e))
end L3

namespace L3
open PySem PySem.Spec PyProof.Rows L2
section
variable {P : Program} {w : World} {K : PySem.W.Frag} {mg : Str → Option Value} {base : Heap} {N : List Str} {qual : Str} {scope0 : Scope} {f : Addr} {cd : Value} {A : Around} {outer : List Env} {s0 : Shared} {H0 : Hp} {E : XK}
/-- what a callee's exception tells within the block -/
def xiC (X : Cx) (E : XK) (Y : Cx) : Value → Shared → Prop := fun e s' => ∃ pinsI σI HI sI, Inv Y pinsI σI HI sI ∧ CXE X.prog X.w X.stack HI sI E e s'
theorem passI {X : Cx} {scope : Scope} {cl : List (Str × Addr)} {NI : List Str} {s : Shared} {H : Hp} {C : Addr} {fp : List Addr} : Passes (CXE X.prog X.w) ((cxI X scope cl NI s H C fp).wish (xiC X E (cxI X scope cl NI s H C fp))) E := fun pins σ H s e s' I h => ⟨pins, σ, H, s, I.unwish, h⟩
theorem raise_comp {pins : List (Addr × Obj)} {σ : L2.St} {Hc : Hp} {sc s5 : Shared} {scope : Scope} {cl : List (Str × Addr)} {NI : List Str} {C : Addr} {fp : List Addr} {e : Value}
    (I : Inv (cxOf (CXE P w) P w K mg base N qual scope0 f cd A outer s0 H0 E) pins σ Hc sc) (hC : sc.heap.objs.size ≤ C) (f2 : ∀ b ∈ fp, FpOk (cxOf (CXE P w) P w K mg base N qual scope0 f cd A outer s0 H0 E) pins Hc b)
    (hx : xiC (cxOf (CXE P w) P w K mg base N qual scope0 f cd A outer s0 H0 E) E (cxI (cxOf (CXE P w) P w K mg base N qual scope0 f cd A outer s0 H0 E) scope cl NI sc Hc C fp) e s5) :
    notedBy (model P w) (A.deeper (envOfC qual scope0 s0.heap.objs.size f cd)) (compEnvC scope cl C (envOfC qual scope0 s0.heap.objs.size f cd)) (fun e s' => ∃ m, s'.heap.Ns C m ∧ ∀ h', Heap.SameBut C s'.heap h' →
      wpAny (model P w) (A.deeper (envOfC qual scope0 s0.heap.objs.size f cd)) (passOn "comprehension.variables-let-go" e (compEnvC scope cl C (envOfC qual scope0 s0.heap.objs.size f cd)) : Sem Value) (fun _ _ => False) (cxOf (CXE P w) P w K mg base N qual scope0 f cd A outer s0 H0 E).xe { s' with heap := h' }) e s5 := by
  obtain ⟨pinsI, σI, HI, sI, II, ea, cls, a0, H', B, rfl, hE, os, bare, fl, hok, un, st⟩ := hx
  have fl : Heap.FlyingW B (envOfC qual scope0 s0.heap.objs.size f cd :: outer) ea cls a0 s5.heap := fl
  have Io : Inv (cxOf (CXE P w) P w K mg base N qual scope0 f cd A outer s0 H0 E) pins σ HI sI :=
    I.call' (ch := fp) II.os II.base II.hok II.bare (fun b hb => ⟨(f2 b hb).2.2.2.1, (f2 b hb).2.1, (f2 b hb).2.2.2.2.1, (f2 b hb).2.2.2.2.2⟩)
  have efr : frs (envOfC qual scope0 s0.heap.objs.size f cd :: outer) = s0.heap.objs.size :: frs outer := frs_cons rfl
  -- the block's names stand apart
  have nC : C ∉ frs (envOfC qual scope0 s0.heap.objs.size f cd :: outer) := fun m => by
    rcases List.mem_cons.mp (I.stkSub C m) with y | y
    · exact absurd I.lt (by rw [← y]; exact Nat.not_lt.mpr hC)
    · exact I.nofs hC y
  have hs0 : s0.heap.objs.size ≤ sc.heap.objs.size := I.sz
  have nC0 : ∀ b o, s0.heap.get? b = some o → b ≠ C := fun b o e z => absurd (Heap.lt_size e) (by rw [z]; exact Nat.not_lt.mpr (Nat.le_trans hs0 hC))
  obtain ⟨m, hn, _⟩ := II.loc
  have hn : sI.heap.Ns C m := hn
  have HC : HI C = none := II.free
  obtain ⟨oC, es, ep, hoC, hdC, hr⟩ := id hn
  have hC5 : s5.heap.get? C = some oC := un.keep C oC hoC HC nC (by simp)
  have nf : ∀ vs, oC.data ≠ .fields vs := fun vs z => by rw [hdC] at z; cases z
  have hn5 : s5.heap.Ns C m := ⟨oC, es, ep, hC5, hdC, hr⟩
  have HC' : H' C = none := un.free C oC hoC HC (by simp)
  show wpAny _ _ (noteFrame (.ref ea) (envOfC qual scope0 s0.heap.objs.size f cd)) _ _ s5
  refine wpAny_looks_onW (env := envOfC qual scope0 s0.heap.objs.size f cd) (outer := outer) Io.ok.frames rfl fl fun h6 held up => ⟨m, up.ns hn5, fun h' sb => ?_⟩
  obtain ⟨sl6, hC6⟩ := up C oC hC5 nf
  have held' := held_but hC6 nf nC sb held
  have pass : ∀ {Q : Value → Shared → Prop}, Q (.ref ea) { s5 with heap := h' } → wpAny (model P w) (A.deeper (envOfC qual scope0 s0.heap.objs.size f cd)) (passOn "comprehension.variables-let-go" (.ref ea) (compEnvC scope cl C (envOfC qual scope0 s0.heap.objs.size f cd)) : Sem Value) (fun _ _ => False) Q { s5 with heap := h' } := fun {Q} hq => by
    obtain ⟨_, _, _, oe, vs, T, oT, ts, he, hc, hd1, h1, hnT, hTe, hT, hdT, h3⟩ := held'
    unfold PySem.passOn
    refine wpAny_bind (wpAny_field (s := { s5 with heap := h' }) he hd1 h1 ?_)
    rw [if_neg (show ¬ ((Value.ref T == Value.none) = true) by simp)]
    refine wpAny_bind ?_
    unfold setFlight
    refine wpAny_bind (wpAny_field (s := { s5 with heap := h' }) he hd1 h1 ?_)
    rw [if_pos (show (Value.ref T != Value.none) = true by simp)]
    refine wpAny_setField (s := { s5 with heap := h' }) hT hdT (Array.getElem?_eq_some_iff.mp h3).1 ?_
    refine (?_ : wpAny _ _ _ _ _ { s5 with heap := h'.update T (Obj.mapFields (·.setIfInBounds 3 (rawInt s0.heap.objs.size))) })
    rw [Heap.update_setField_same h' T oT ts 3 (rawInt s0.heap.objs.size) hT hdT h3]
    exact wpAny_throw hq
  refine pass ?_
  -- the def is left
  show wpAny (model P w) (A.deeper (envOfC qual scope0 s0.heap.objs.size f cd)) (leaving (envOfC qual scope0 s0.heap.objs.size f cd) (.ref ea)) _ _ { s5 with heap := h' }
  unfold leaving
  refine wpAny_bind (wpAny_noteFrame_againW (s := { s5 with heap := h' }) rfl held'.2.2.2 (wpAny_landsW (s := { s5 with heap := h' }) held' fun h9 fl9 up9 => ?_))
  obtain ⟨k1, k2, ⟨_, _, k3⟩, k4⟩ := fl9
  have I0 := Io.base
  have old : ∀ b o, s0.heap.get? b = some o → b ∉ frs outer → b ∉ s0.heap.objs.size :: frs outer := fun b o e n m => by
    rcases List.mem_cons.mp m with z | z
    · exact absurd (Heap.lt_size e) (by rw [z]; exact Nat.lt_irrefl _)
    · exact n z
  have un : Un (s0.heap.objs.size :: frs outer) [] HI H' sI.heap s5.heap := by rw [← efr]; exact un
  have st : ∀ b o, sI.heap.get? b = some o → b ∉ s0.heap.objs.size :: frs outer → ∃ o', B.get? b = some o' ∧ (HI b = none → o' = o) := by rw [← efr]; exact st
  have hst := fl.2.2.1
  have x4 : ∀ b o, b ≠ C → s5.heap.get? b = some o → (∀ vs, o.data ≠ .fields vs) → ∃ sl, h9.get? b = some { o with slots := sl } := fun b o nb e nd => by
    obtain ⟨sl1, e1⟩ := up b o e nd
    have e2 : h'.get? b = some { o with slots := sl1 } := (sb.2 b nb).trans e1
    obtain ⟨sl2, e3⟩ := up9 b _ e2 nd
    exact ⟨sl2, e3⟩
  have hB : ∀ b o, b ≠ C → B.get? b = some o → (PySem.W.hideAll B [C]).get? b = some o := fun b o nb e => PySem.W.hideAll_get [C] e (by simpa using nb)
  refine ⟨ea, cls, a0, H', PySem.W.hideAll B [C], rfl, hE, os.trans Io.os, bare, ⟨k1, k2, k3, k4⟩, fun a o e => (hok a o e).stay (fun b u hb q => hB b u ?_ q) (fun _ q => q) (fun _ _ q => q), ⟨fun b o q n hf _ => ?_, fun b o q n hf _ => ?_, fun b o q n hx => ?_, fun b o q _ => ?_, fun b xs q => un.tups b xs (I0.tups b xs q), fun b o u q => un.frzs b o u (I0.frzs b o u q), fun b ps q => ?_⟩, fun b o q hf => ?_⟩
  · rcases hb with y | y
    · rw [y]; exact ne_of_none e HC'
    · exact ne_of_none y HC'
  · have e1 : sI.heap.get? b = some o := I0.keep b o q n hf (by simp [cxOf])
    obtain ⟨o', e2, e3⟩ := st b o e1 (old b o q hf)
    rw [e3 (I0.free b o q n (by simp [cxOf]))] at e2
    exact k1 b o (hB b o (nC0 b o q) e2)
  · obtain ⟨sl, e1⟩ := I0.slot b o q n hf (by simp [cxOf])
    obtain ⟨sl1, e2⟩ := un.slot b _ e1 (I0.free b o q n (by simp [cxOf])) (List.mem_cons_of_mem _ hf) (by simp)
    obtain ⟨_, o2, e3, nd⟩ := hst.mem (b := b) (by show b ∈ frs _; rw [efr]; exact List.mem_cons_of_mem _ hf)
    rw [e2] at e3; cases e3
    obtain ⟨sl2, e4⟩ := x4 b _ (nC0 b o q) e2 nd
    exact ⟨sl2, e4⟩
  · obtain ⟨o1, e1⟩ := I0.there b o q (by simp [cxOf])
    exact un.free b o1 e1 (I0.free b o q n (by simp [cxOf])) (by simp)
  · obtain ⟨o1, e1⟩ := I0.there b o q (by simp [cxOf])
    by_cases hf : b ∈ frs outer
    · obtain ⟨_, o2, e3, nd⟩ := hst.mem (b := b) (by show b ∈ frs _; rw [efr]; exact List.mem_cons_of_mem _ hf)
      obtain ⟨sl2, e4⟩ := x4 b _ (nC0 b o q) e3 nd
      exact ⟨_, e4⟩
    · obtain ⟨o', e2, _⟩ := st b o1 e1 (old b o q hf)
      exact ⟨o', k1 b o' (hB b o' (nC0 b o q) e2)⟩
  · obtain ⟨m1, e1⟩ := I0.tbls b ps q
    obtain ⟨m2, e2⟩ := un.tbls b _ e1
    exact ⟨m1 ++ m2, by rw [e2, Array.append_assoc]⟩
  · obtain ⟨o1, e1⟩ := I0.there b o q (by simp [cxOf])
    obtain ⟨o', e2, e3⟩ := st b o1 e1 (old b o q hf)
    refine ⟨o', hB b o' (nC0 b o q) e2, fun n => ?_⟩
    rw [e3 (I0.free b o q n (by simp [cxOf]))]
    have e4 : sI.heap.get? b = some o := I0.keep b o q n hf (by simp [cxOf])
    rw [e1] at e4; cases e4; rfl
end
end L3

namespace L3
open PySem PySem.Spec PyProof.Rows L2
section
variable {X : Cx} {scope : Scope} {cl : List (Str × Addr)} {tgs : List Str} {caps : List (Str × Nat)} {pins : List (Addr × Obj)} {σ : L2.St} {H : Hp} {s : Shared}
theorem comp_runX {elt tg iter : Expr} {ifs : List Expr} {g : TG} {tc : TT} {te : TE} {pos : Pos} {it : Addr} {fp : List Addr} {tn : Nat → Heap → Prop} {J : It} {Q : VK} {RR : Value → Env → Result → Shared → Prop} {E : Value → Shared → Prop} {EX : XK} (hcalm : X.calm = true) (S : CompS X scope cl tgs caps)
    (hg : ∀ s H C fp, PG (cxI X scope cl (nI tgs caps) s H C fp) tg g)
    (hc : (ifs = [] ∧ tc = fun _ H Q => Q true H) ∨ ∃ c, ifs = [c] ∧ ∀ s H C fp, PT (cxI X scope cl (nI tgs caps) s H C fp) c tc)
    (he : ∀ s H C fp, PE ((cxI X scope cl (nI tgs caps) s H C fp).wish (xiC X EX (cxI X scope cl (nI tgs caps) s H C fp))) elt te)
    (I : Inv X pins σ H s) (T : Turn X.prog X.w X.K tg J fp it tn) (st : tn 0 s.heap) (f2 : ∀ b ∈ fp, FpOk X pins H b)
    (hW : tCompAt J g tc te Q (sI tgs caps σ) H)
    (hraise : ∀ e s5, xiC X EX (cxI X scope cl (nI tgs caps) s H (s.heap.objs.size + 1) fp) e s5 → notedBy (model X.prog X.w) X.A (compEnvC scope cl (s.heap.objs.size + 1) X.env) (fun e s' => RR (.ref s.heap.objs.size) { compEnvC scope cl (s.heap.objs.size + 1) X.env with scope := scope } (.error e) s') e s5)
    (hend : ∀ p C ys H' s' m, Inv X pins σ (upd H' p (.lst ys)) s' → Q (.ref p) (upd H' p (.lst ys)) → s'.heap.Ns C m → FpOk X pins (upd H' p (.lst ys)) C → RR (.ref p) { compEnvC scope cl C X.env with scope := scope } (.ok .next) s') :
    wpAny (model X.prog X.w) X.A (newList []) (fun acc s3 => wpAny (model X.prog X.w) X.A (newFunctionEnv scope X.env.globals cl [] X.env.qual none .none (some X.env)) (fun cenv s4 =>
      codeAny (model X.prog X.w) X.A (.compStart (.ListComp elt [⟨tg, iter, ifs, 0⟩] scope pos) 0 (.ref it) acc { cenv with scope := relabel scope X.env }) (RR acc cenv) s4) E s3) E s := by
  have hlt : ∀ b ∈ fp, b < s.heap.objs.size := fun b hb => by
    obtain ⟨o, e, _⟩ := T.obj _ _ st b hb
    exact Heap.lt_size e
  refine wpAny_newObj_type (wpAny_newFunctionEnv S.nocell (by intro y hy; simp at hy) (fun h1 hns1 hsb1 => ?_) S.kind)
  dsimp only at hns1 hsb1 ⊢
  have hC : (s.heap.push { cls := .type "list", dict := none, data := .seq ([] : List Value).toArray }).objs.size = s.heap.objs.size + 1 := Heap.size_push ..
  have old : ∀ b o, s.heap.get? b = some o → h1.get? b = some o := fun b o e =>
    hsb1.extBut b o (by rw [hC]; exact Nat.ne_of_lt (Nat.lt_succ_of_lt (Heap.lt_size e))) (Heap.get?_push_of_some _ (Heap.get?_push_of_some _ e))
  have hacc : h1.get? s.heap.objs.size = some (lobj [] 0) :=
    hsb1.extBut _ _ (by rw [hC]; exact Nat.ne_of_lt (Nat.lt_succ_self _)) (Heap.get?_push_of_some _ (Heap.get?_push_size _ rfl))
  rw [hC] at hns1 ⊢
  obtain ⟨W, ⟨m0, w0⟩, turn⟩ := hW
  have hns2 : h1.Ns (s.heap.objs.size + 1) (fun _ => none) := hns1
  have I4 := inv_block S I f2 hlt hns2 old hacc (t' := s.toks + ([] : List (Str × Value)).length)
  have st4 : tn 0 h1 := T.keep _ _ _ st fun b _ o e => old b o e
  -- the iterator's objects, seen from the block
  have fpI : ∀ {H' : Hp} {o : Obj}, (∀ b ∈ fp, H' b = none) → ∀ b ∈ fp, FpOk (cxI X scope cl (nI tgs caps) s H (s.heap.objs.size + 1) fp) (pins ++ [(s.heap.objs.size, o)]) H' b := fun {H' o} hn b hb => by
    obtain ⟨g0, g1, g2, g3, g4, g5⟩ := f2 b hb
    refine ⟨hn b hb, Nat.ne_of_lt (Nat.lt_succ_of_lt (hlt b hb)), fun m => ?_, .inl hb, fun x c e => g4 x c (S.sub x c e), fun p hp z => ?_⟩
    · rcases List.mem_cons.mp (I.stkSub _ m) with y | y
      · exact g1 y
      · exact g2 y
    · have hp' : p ∈ X.pn ++ (pins ++ [(s.heap.objs.size, o)]) := hp
      rw [← List.append_assoc] at hp'
      rcases List.mem_append.mp hp' with y | y
      · exact g5 p y z
      · have y' : p = (s.heap.objs.size, o) := by simpa using y
        rw [y'] at z
        exact absurd (hlt b hb) (by rw [← z]; exact Nat.lt_irrefl _)
  have loop : codeAny (model X.prog X.w) X.A (.compLoop (.ListComp elt [⟨tg, iter, ifs, 0⟩] scope pos) 0 (.ref it) (.ref s.heap.objs.size) (compEnvC scope cl (s.heap.objs.size + 1) X.env)) (RR (.ref s.heap.objs.size) { compEnvC scope cl (s.heap.objs.size + 1) X.env with scope := scope }) { s with heap := h1, toks := s.toks + ([] : List (Str × Value)).length } := by
    refine comp_loopX (xiC X EX (cxI X scope cl (nI tgs caps) s H (s.heap.objs.size + 1) fp)) hraise (fun n s' => ∃ i ys its k σ' H', Inv (cxI X scope cl (nI tgs caps) s H (s.heap.objs.size + 1) fp) (pins ++ [(s.heap.objs.size, lobj its k)]) σ' H' s' ∧ Vals ys its ∧ tn i s'.heap ∧ (∀ b ∈ fp, H' b = none) ∧ W i n ys σ' H') ?_ m0
      ⟨0, [], [], 0, _, H, I4, .nil, st4, fun b hb => (f2 b hb).1, w0⟩
    rintro n s5 ⟨i, ys, its, k, σ5, H5, I5, v5, st5, fr5, w5⟩
    rcases turn i n ys σ5 H5 w5 with ⟨stop, hz, q⟩ | ⟨go, hz, Nx, hNx, step⟩
    · refine thn (T.done (cxI X scope cl (nI tgs caps) s H (s.heap.objs.size + 1) fp) rfl rfl rfl hcalm i _ s5 σ5 H5 _ I5 (fpI fr5) st5 stop) fun r s6 ⟨hr, I6⟩ => ?_
      subst hr
      obtain ⟨z1, z2, z3, z4, _⟩ := I6.pin (s.heap.objs.size, lobj its k) (by simp)
      obtain ⟨m, hn, _⟩ := I6.loc
      have hA : H5 s.heap.objs.size = none := z2
      refine hend s.heap.objs.size (s.heap.objs.size + 1) ys H5 s6 m (Inv.adopt I (ch := fp) I6.os I6.base I6.hok I6.bare (fun b hb => ⟨(f2 b hb).2.2.2.1, (f2 b hb).2.1, (f2 b hb).2.2.2.2.1, (f2 b hb).2.2.2.2.2⟩) (Heap.get?_none_of_le (Nat.le_refl _)) hA ⟨hz, its, k, v5, z1⟩) (q _ hA) hn ?_
      exact I.fpOk (Nat.le_succ _) (by rw [upd_ne (Nat.ne_of_gt (Nat.lt_succ_self _))]; exact I6.free)
    · refine thn (T.item (cxI X scope cl (nI tgs caps) s H (s.heap.objs.size + 1) fp) rfl rfl rfl hcalm i _ s5 σ5 H5 _ I5 (fpI fr5) st5 go) fun r s6 ⟨u, hr, h6⟩ => ?_
      subst hr
      refine thn h6 fun _ s7 ⟨x, H7, I7, r7, y7, st7, fr7⟩ => ?_
      have I7' := I7.pinned (fpI fr7) (T.obj _ _ st7)
      refine thn (hg _ _ _ _ _ s7 σ5 H7 x u _ I7' r7 (step x H7 y7)) fun _ s8 ⟨σ8, H8, I8, q8⟩ => ?_
      -- behind the tests and the element: the iterator and the list so far are as they were
      have back : ∀ {σ9 : L2.St} {H9 : Hp} {s9 : Shared}, Inv (cxI X scope cl (nI tgs caps) s H (s.heap.objs.size + 1) fp) ((pins ++ [(s.heap.objs.size, lobj its k)]) ++ pinsAt fp s7.heap) σ9 H9 s9 → tn (i + 1) s9.heap ∧ ∀ b ∈ fp, H9 b = none := fun {σ9 H9 s9} I9 => by
        refine ⟨T.keep _ _ _ st7 fun b hb o e => (I9.pin (b, o) (List.mem_append_right _ (List.mem_append_right _ (mem_pinsAt hb e)))).1, fun b hb => ?_⟩
        obtain ⟨o, e, d⟩ := T.obj _ _ st7 b hb
        exact (I9.pin (b, o) (List.mem_append_right _ (List.mem_append_right _ (mem_pinsAt hb e)))).2.1
      have tests : ∀ {Q' : Bool → Shared → Prop}, (∀ b s9 H9, Inv (cxI X scope cl (nI tgs caps) s H (s.heap.objs.size + 1) fp) ((pins ++ [(s.heap.objs.size, lobj its k)]) ++ pinsAt fp s7.heap) σ8 H9 s9 →
          (if b = true then te σ8 H9 fun y H5 => Nx (ys ++ [y]) σ8 H5 else Nx ys σ8 H9) → Q' b s9) →
          wpAny (model X.prog X.w) X.A (forIn ifs true fun c r => if r = true then do let ok ← isTrue c (compEnvC scope cl (s.heap.objs.size + 1) X.env) (eval c (compEnvC scope cl (s.heap.objs.size + 1) X.env)); pure (ForInStep.yield ok) else pure (ForInStep.yield r)) Q' (fun _ _ => False) s8 := fun {Q'} hQ => by
        rcases hc with ⟨rfl, rfl⟩ | ⟨c, rfl, hc⟩
        · exact wpAny_tests_nil (hQ true s8 H8 I8 q8)
        · refine wpAny_tests_one (thn (hc _ _ _ _ _ s8 σ8 H8 _ I8 q8) fun b s9 ⟨H9, I9, q9⟩ => hQ b s9 H9 I9 q9)
      refine tests fun b s9 H9 I9 q9 => ?_
      cases b with
      | false =>
        obtain ⟨m', hm, w9⟩ := hNx _ _ _ q9
        obtain ⟨b1, b2⟩ := back I9
        exact ⟨m', hm, i + 1, ys, its, k, σ8, H9, I9.unpinned, v5, b1, b2, w9⟩
      | true =>
        rw [if_pos rfl]
        rw [if_pos rfl] at q9
        refine thn (he _ _ _ _ _ s9 σ8 H9 _ (I9.wish _) q9) fun u2 s10 ⟨y, H10, I10w, r10, q10⟩ => ?_
        have I10 := I10w.unwish
        obtain ⟨m', hm, w10⟩ := hNx _ _ _ q10
        obtain ⟨b1, b2⟩ := back I10
        obtain ⟨z1, z2, z3, z4, _⟩ := I10.pin (s.heap.objs.size, lobj its k) (by simp)
        have hsz : its.toArray.size ≤ sizeLine := by rw [List.size_toArray, ← v5.length]; exact Nat.le_of_lt hz
        refine append_at (hsz := hsz) z1 fun h11 hs11 hD11 => ?_
        have I10u : Inv (cxI X scope cl (nI tgs caps) s H (s.heap.objs.size + 1) fp) pins σ8 H10 s10 := I10.unpinned.unpinned
        have I11 : Inv (cxI X scope cl (nI tgs caps) s H (s.heap.objs.size + 1) fp) pins σ8 H10 { s10 with heap := h11 } := by
          refine Inv.turned (t' := s10.toks) (it := s.heap.objs.size) I10u (fun b o hb e => (hs11.2 b hb).trans e) z2 z3 (.inr (Nat.le_refl _)) (fun x c e => ?_) (fun p hp z => ?_)
          · obtain ⟨v, q⟩ := I.cell x c (S.sub x c e)
            exact Nat.ne_of_lt q.lt
          · obtain ⟨e, _⟩ := I.pin p hp
            exact absurd (Heap.lt_size e) (by rw [z]; exact Nat.lt_irrefl _)
        have nacc : ∀ b ∈ fp, b ≠ s.heap.objs.size := fun b hb => Nat.ne_of_lt (hlt b hb)
        refine ⟨m', hm, i + 1, ys ++ [y], its ++ [u2], k + 1, σ8, H10, I11.pins_of fun p hp => ?_, vals_snoc v5 r10, T.keep _ _ _ b1 fun b hb o e => (hs11.2 b (nacc b hb)).trans e, b2, w10⟩
        rcases List.mem_append.mp hp with z | z
        · exact I11.pin p (List.mem_append_right _ z)
        · have e : p = (s.heap.objs.size, lobj (its ++ [u2]) (k + 1)) := by simpa using z
          subst e
          refine ⟨?_, z2, z3, z4, fun v z => by cases z⟩
          show h11.get? s.heap.objs.size = some (lobj (its ++ [u2]) (k + 1))
          rw [hD11]
          unfold lobj
          rw [List.push_toArray]
  exact codeAny_compStart_list loop (T.self _ 0 _ _ _ st4 loop)


section
variable {P : Program} {w : World} {K : PySem.W.Frag} {mg : Str → Option Value} {base : Heap} {N : List Str} {qual : Str} {scope0 : Scope} {f : Addr} {cd : Value} {A : Around} {outer : List Env} {s0 : Shared} {H0 : Hp} {elt tg iter : Expr} {ifs : List Expr} {wi : TI} {g : TG} {tc : TT} {te : TE} {pos : Pos}
/-- y = [..], y a plain local on the same row -/
theorem ps_lcX {EX : XK} (hX : X = cxOf (CXE P w) P w K mg base N qual scope0 f cd A outer s0 H0 EX) {i : Nat} {y : Str} {py spos : Pos} (hcalm : X.calm = true) (S : CompS X scope cl tgs caps) (hN : X.N.Nodup) (hy : X.N[i]? = some y) (hl : X.env.scope.names.lookup y = some .local) (hi : PI X tg iter wi) (hg : ∀ s H C fp, PG (cxI X scope cl (nI tgs caps) s H C fp) tg g)
    (hc : (ifs = [] ∧ tc = fun _ H Q => Q true H) ∨ ∃ c, ifs = [c] ∧ ∀ s H C fp, PT (cxI X scope cl (nI tgs caps) s H C fp) c tc)
    (he : ∀ s H C fp, PE ((cxI X scope cl (nI tgs caps) s H C fp).wish (xiC X EX (cxI X scope cl (nI tgs caps) s H C fp))) elt te) (hsw : swapsWith (.ListComp elt [⟨tg, iter, ifs, 0⟩] scope pos) (some (.Name y py)) spos.line X.env = pure true := by rfl) (hs : ∀ x, foldedSetIterable iter X.env x = pure x := by intro _; rfl) :
    PS X (.Assign [.Name y py] (.ListComp elt [⟨tg, iter, ifs, 0⟩] scope pos) spos) (fun D σ H => tComp wi g tc te (sI tgs caps) σ H fun v H1 => D.nx (σ.set i (some v)) H1) := by
  intro pins s σ H D I h
  rw [exec_Assign_Name_used _ _ _ _ hsw]
  refine wpAny_bind (wpAny_standAt (wpAny_bind ?_))
  show wpAny _ X.A (do let _ ← comprehension (.ListComp elt [⟨tg, iter, ifs, 0⟩] scope pos) scope X.env _ (newList []) false (eval iter X.env) (some (assign (.Name y py) X.env))) _ _ s
  refine wpAny_bind (wpAny_mono (comp_freeX (use := some (assign (.Name y py) X.env)) (Q := fun _ s' => SP X pins D .next s') rfl hs S.clos S.kind S.locs (thn (hi pins s σ H _ I h) fun v s1 h1 => thn h1 fun itv s2 h2 => ?_)) (fun _ s' hq => wpAny_pure (wpAny_pure hq)) fun _ _ z => z)
  obtain ⟨it, fp, tn, J, H2, rfl, I2, T, st2, f2, hW⟩ := h2
  refine comp_runX (EX := EX) (Q := fun v H1 => D.nx (σ.set i (some v)) H1) hcalm S hg hc he I2 T st2 f2 hW (fun e s5 hx => by subst hX; exact raise_comp I2 (Nat.le_succ _) f2 hx) fun p C ys H' s' m I3 q hn fk => ?_
  obtain ⟨g0, g1, g2, g3, g4, g5⟩ := fk
  show wpAny _ X.A (assign (.Name y py) X.env (.ref p)) _ _ s'
  refine wpAny_assign_Name (store_ok2 I3 hN hy (.inl hl) (v := .ref p) rfl (fun s4 I4 hsb => ?_) (.inr hl))
  obtain ⟨a, hsb, ha⟩ := hsb
  have hCa : C ≠ a := by
    rcases ha with rfl | ha
    · exact g1
    · exact fun z => g4 _ _ ha z.symm
  exact ⟨m, hn.sameBut hsb hCa, fun h' hs' => ⟨_, _, Inv.turned (t' := s4.toks) I4 (fun b o hb e => (hs'.2 b hb).trans e) g0 g1 g3 g4 g5, q⟩⟩
end
end
end L3

namespace Tw
open PySem L2 L3
def top (i : Nat) : Stmt := PySem.Challenge.pw_twoline_k12_points_read_or_refused.main.body.getD i (.Pass ⟨0, 0, 0, 0⟩)
abbrev s_is_point : Stmt := top 9
abbrev s_are_points : Stmt := top 10
abbrev s_is_number : Stmt := top 14
abbrev s_read_number : Stmt := top 15
abbrev s_read_point : Stmt := top 16
abbrev s_read : Stmt := top 17
abbrev t_cell_at : Stmt := top 19
abbrev t_whole : Stmt := top 20
abbrev t_point_by : Stmt := top 21
abbrev t_points_by : Stmt := top 22
abbrev t_set : Stmt := top 23
abbrev t_is_tuple : Stmt := top 24
abbrev t_text : Stmt := top 25
abbrev t_is_points : Stmt := top 26
abbrev t_sign_by : Stmt := top 27
abbrev t_marks_of : Stmt := top 28
abbrev t_spoiled : Stmt := top 29
abbrev t_number : Stmt := top 30
abbrev t_due : Stmt := top 31
abbrev t_law : Stmt := top 32
end Tw
namespace Tw
open PySem L2 L3
/-- what law(script) promises: for a list of at most 63 ints the answer is True -/
def spLaw (K : PySem.W.Frag) : Sp := fun vs H Q _ => ∃ (a : Addr) (ns : List Int), vs = [.ref a] ∧ SqL K H a (ns.map V.int) ∧ ns.length ≤ 63 ∧ ∀ H', Q (.bl true) H'
theorem walk {l : PySem.W.OpenLaw} {k : Nat} {q : Program} {loose : List Str} {XP : (Str → Option Value) → Heap → Prop} {YP : World → Heap → Prop} {d : DefRec} {K : Params → PySem.W.Frag} (hn : l.most = some 63) (hdf : d.params.defaults = []) (hr : Room k callerA)
    (hY : ∀ (w : World) (h : Heap), YP w h → (K w.params).In h)
    (F : ∀ (w : World) (mg : Str → Option Value) (fa : Addr) (h : Heap), (K w.params).In h → h.Ns mainGlobals mg → mg d.name = some (.ref fa) →
      ∃ fd : FuncData, (∀ (s : Shared) (u : Value), BindsTo s fd ⟨[u], []⟩ [("script", u)]) ∧ ∀ base : Heap, (K w.params).In base → base.Ns mainGlobals mg → FnOk l.prog w (K w.params) mg base (CXE l.prog w) k fa fd ["script"] (spLaw (K w.params))) :
    PySem.W.WalkO q loose XP YP l.row.toRowW d [] (fun f vs => PySem.call f vs) :=
  L2.walk_of (n := 63) (k := k) (x := "script") (CX := fun w => CXE l.prog w) (sp := fun w => spLaw (K w.params)) hn (by decide) hdf hr hY F (fun _ _ a ns hl _ hS => ⟨a, ns, rfl, hS, hl, fun _ => rfl⟩) fun _ _ _ _ _ z => cxe_no z
end Tw

namespace Tw
open PySem L2 L3
/-- a reader with a default, of a list of ints -/
def spCell (K : PySem.W.Frag) : Sp := fun vs H Q _ => ∃ (a : Addr) (ns : List Int) (k : Int), vs = [.ref a, .int k] ∧ SqL K H a (ns.map V.int) ∧ 0 ≤ k ∧ Q (.int (Ma.cell ns k)) H
section
variable {P : Program} {w : World} {K : PySem.W.Frag} {mg : Str → Option Value} {base : Heap}
theorem sc_cell_at : FnScope ["script", "k"] ["script", "k"] (defScope t_cell_at) := ⟨rfl, rfl, rfl, by decide +kernel, rfl, by decide +kernel, by decide +kernel⟩
theorem c_cell_at (S : Src K mg "_law_cell_at" t_cell_at) (m_len : mg "len" = none) : Cal P w K mg base 1 "_law_cell_at" ["script", "k"] (spCell K) := by
  refine S.cal (fun f fd F => okN F sc_cell_at (fun vs H Q E h => ?_) (fun cdv A outer s H vs Q E hr h => ?_)) (fun _ _ _ _ _ _ us hl => match us, hl with | [_, _], _ => rfl)
  · obtain ⟨a, ns, k, rfl, _⟩ := h
    rfl
  obtain ⟨a, ns, k, rfl, hS, h0, q⟩ := h
  refine ⟨_, pss_cons (ps_if (cmp op_lt (pv 1) (callB b_len call_len_seq m_len (a1 (pv 0)))) (pss_one (ps_ret (ixL (pv 0) (pv 1)))) pss_nil) (pss_one (ps_ret pe_int)), ?_⟩
  refine ⟨_, rfl, _, rfl, a, _, rfl, .inl hS, _, _, rfl, rfl, _, rfl, ite2 (fun c => ?_) (fun c => ?_)⟩
  · have c' : k < ((ns.map V.int).length : Int) := of_decide_eq_true c
    rw [List.length_map] at c'
    have hk : k.toNat < ns.length := by omega
    have e : k = ((k.toNat : Nat) : Int) := by omega
    refine ⟨_, rfl, _, rfl, a, _, k, .int (Ma.cell ns k), rfl, rfl, hS, ?_, q⟩
    rw [e]
    refine atI_nat ?_
    rw [List.getElem?_map, List.getElem?_eq_getElem hk]
    show some (V.int ns[k.toNat]) = some (V.int (ns.getD _ 0))
    rw [← e, List.getD_eq_getElem?_getD, List.getElem?_eq_getElem hk]
    rfl
  · have c' : ¬ k < ((ns.map V.int).length : Int) := of_decide_eq_false (Bool.eq_false_iff.mpr c)
    rw [List.length_map] at c'
    have z : Ma.cell ns k = 0 := by
      unfold Ma.cell
      rw [List.getD_eq_getElem?_getD, List.getElem?_eq_none (by omega)]
      rfl
    rw [z] at q
    exact q
end
end Tw

namespace Tw
open PySem L2 L3
def spPt (K : PySem.W.Frag) : Sp := fun vs H Q _ => ∃ a b y : Int, vs = [.int a, .int b, .int y] ∧ ∀ v H', Same H H' → Den K H' (Ma.pt (Ma.ptBy a b y)) v → Q v H'
theorem vint {a b : Int} (h : V.int a = V.int b) : a = b := V.int.inj h
theorem c_small {i j : Int} (h : -(2 ^ 64) < i ∧ i < 2 ^ 64) : CMul i j := .inl h
section
variable {P : Program} {w : World} {K : PySem.W.Frag} {mg : Str → Option Value} {base : Heap}
theorem sc_l_point_by : FnScope ["one", "two", "way", "step"] ["one", "two", "way"] (defScope t_point_by) := ⟨rfl, rfl, rfl, by decide +kernel, rfl, by decide +kernel, by decide +kernel⟩
theorem c_point_by (S : Src K mg "_law_point_by" t_point_by) : Cal P w K mg base 1 "_law_point_by" ["one", "two", "way"] (spPt K) := by
  refine S.cal (fun f fd F => okN F sc_l_point_by (fun vs H Q E h => ?_) (fun cdv A outer s H vs Q E hr h => ?_)) (fun _ _ _ _ _ _ us hl => match us, hl with | [_, _, _], _ => rfl)
  · obtain ⟨a, b, y, rfl, _⟩ := h
    rfl
  obtain ⟨a, b, y, rfl, q⟩ := h
  have nd := sc_l_point_by.nd
  refine ⟨_, (pss_cons (ps_if (cmp op_eq (pv 2) pe_int) (pss_one (ps_ret (pe_tup (a2 (pe_op op_mod (pv 0) pe_int) (pe_op op_mod (pv 1) pe_int))))) pss_nil)
      (pss_cons (ps_if (cmp op_eq (pv 2) pe_int) (pss_one (ps_ret (pe_tup (a2 (pe_op op_sub (pe_op op_mod (pv 0) pe_int) pe_int) (pe_op op_sub (pe_op op_mod (pv 1) pe_int) pe_int))))) pss_nil)
      (pss_cons (ps_if (cmp op_eq (pv 2) pe_int) (pss_one (ps_ret (pe_tup (a2 (pe_op op_sub (pe_op op_mod (pv 0) pe_int) pe_mil) (pe_op op_sub (pe_op op_mod (pv 1) pe_int) pe_mil))))) pss_nil)
      (pss_cons (ps_if (cmp op_eq (pv 2) pe_int) (pss_one (ps_ret (pe_tup (a2 (pe_op op_sub (pe_op op_mod (pv 0) pe_int) pe_int) (pe_op op_add (pe_op op_add (pe_op op_mul pe_int (pe_op op_sub (pe_op op_mod (pv 0) pe_int) pe_int)) (pe_op op_mul pe_int (pe_op op_mod (pv 1) pe_int))) pe_int))))) pss_nil)
      (pss_cons (ps_if (cmp op_eq (pv 2) pe_int) (pss_one (ps_ret (pe_tup (a2 (ixL (pe_lst (pa_cons pe_mil (pa_cons pe_nmil (pa_cons pe_int (pa_cons (pe_op op_sub pe_mil pe_int) pa_nil))))) (pe_op op_mod (pv 0) pe_int)) (ixL (pe_lst (pa_cons pe_mil (pa_cons pe_nmil (pa_cons pe_int (pa_cons (pe_op op_mod (pv 1) pe_int) pa_nil))))) (pe_op op_mod (pv 1) pe_int)))))) pss_nil)
      (pss_cons (sset 3 nd (pe_op op_sub (pe_op op_mod (pv 0) pe_int) pe_int))
      (pss_cons (ps_if (cmp op_eq (pe_op op_mod (pv 1) pe_int) pe_int) (pss_one (ps_ret (pe_tup (a2 (pe_op op_mul pe_int (pv 3)) (pe_op op_add (pe_op op_mul pe_int (pv 3)) pe_int))))) pss_nil)
      (pss_cons (ps_if (cmp op_eq (pe_op op_mod (pv 1) pe_int) pe_int) (pss_one (ps_ret (pe_tup (a2 (pe_op op_mul pe_int (pv 3)) (pe_op op_sub pe_int (pe_op op_mul pe_int (pv 3))))))) pss_nil)
      (pss_one (ps_ret (pe_tup (a2 (pe_op op_mul pe_int (pv 3)) (pe_op op_sub pe_int (pe_op op_mod (pe_op op_fdiv (pv 1) pe_int) pe_int)))))))))))))), ?_⟩
  have p4 : (0 : Int) < 4 := by decide
  have p7 : (0 : Int) < 7 := by decide
  have p3 : (0 : Int) < 3 := by decide
  have p9 : (0 : Int) < 9 := by decide
  have p41 : (0 : Int) < 41 := by decide
  have pB : (0 : Int) < 2000001 := by decide
  have p2 : (0 : Int) < 2 := by decide
  have p5 : (0 : Int) < 5 := by decide
  have S0 : Same H H := Same.refl H
  refine ⟨_, rfl, rfl, _, rfl, ite2 (fun c => ?_) (fun c => ?_)⟩
  · have e : y = 0 := vint (of_decide_eq_true c)
    refine ⟨_, rfl, _, _, rfl, rfl, p4, _, rfl, _, _, rfl, rfl, p4, tup2 S0 q ?_ ?_⟩ <;> simp only [Ma.ptBy, e, if_pos]
  have n0 : ¬ y = 0 := fun z => c (decide_eq_true (congrArg V.int z))
  refine ⟨_, rfl, rfl, _, rfl, ite2 (fun c => ?_) (fun c => ?_)⟩
  · have e : y = 1 := vint (of_decide_eq_true c)
    refine ⟨_, rfl, _, _, rfl, rfl, p7, _, _, rfl, rfl, _, rfl, _, _, rfl, rfl, p3, _, _, rfl, rfl, tup2 S0 q ?_ ?_⟩ <;> simp [Ma.ptBy, e]
  have n1 : ¬ y = 1 := fun z => c (decide_eq_true (congrArg V.int z))
  refine ⟨_, rfl, rfl, _, rfl, ite2 (fun c => ?_) (fun c => ?_)⟩
  · have e : y = 2 := vint (of_decide_eq_true c)
    refine ⟨_, rfl, _, _, rfl, rfl, pB, _, _, rfl, rfl, _, rfl, _, _, rfl, rfl, pB, _, _, rfl, rfl, tup2 S0 q ?_ ?_⟩ <;> simp [Ma.ptBy, e]
  have n2 : ¬ y = 2 := fun z => c (decide_eq_true (congrArg V.int z))
  refine ⟨_, rfl, rfl, _, rfl, ite2 (fun c => ?_) (fun c => ?_)⟩
  · have e : y = 3 := vint (of_decide_eq_true c)
    refine ⟨_, rfl, _, _, rfl, rfl, p41, _, _, rfl, rfl, _, rfl, _, _, rfl, rfl, p41, _, _, rfl, rfl, _, _, rfl, rfl, c_small (by decide), _, rfl, _, _, rfl, rfl, p2, _, _, rfl, rfl, c_small (by decide), _, _, rfl, rfl, _, _, rfl, rfl, tup2 S0 q ?_ ?_⟩ <;> simp [Ma.ptBy, e]
  have n3 : ¬ y = 3 := fun z => c (decide_eq_true (congrArg V.int z))
  refine ⟨_, rfl, rfl, _, rfl, ite2 (fun c => ?_) (fun c => ?_)⟩
  · have e : y = 4 := vint (of_decide_eq_true c)
    refine ⟨_, _, rfl, rfl, (by show 4 ≤ sizeLine; decide), fun l1 f1 => ?_⟩
    refine ⟨_, rfl, _, _, rfl, rfl, p4, l1, _, _, _, rfl, rfl, SqL.of upd_same, atI4 _ _ _ _ (Ma.four a), ?_⟩
    refine ⟨_, rfl, _, _, rfl, rfl, p9, (by show 4 ≤ sizeLine; decide), fun l2 f2 => ?_⟩
    refine ⟨_, rfl, _, _, rfl, rfl, p4, l2, _, _, _, rfl, rfl, SqL.of upd_same, atI4 _ _ _ _ (Ma.four b), tup2 ((same_new f1 _).trans (same_new f2 _)) q ?_ ?_⟩ <;> simp [Ma.ptBy, e]
  have n4 : ¬ y = 4 := fun z => c (decide_eq_true (congrArg V.int z))
  have e5 : Ma.ptBy a b y = if b % 3 = 0 then (250000 * (a % 9 - 4), 100000 * (a % 9 - 4) + 7) else if b % 3 = 1 then (100000 * (a % 9 - 4), 7 - 200000 * (a % 9 - 4)) else (1000 * (a % 9 - 4), 999999 - b / 3 % 5) := by
    unfold Ma.ptBy
    rw [if_neg n0, if_neg n1, if_neg n2, if_neg n3, if_neg n4]
  rw [e5] at q
  refine ⟨_, rfl, _, _, rfl, rfl, p9, _, _, rfl, rfl, ?_⟩
  refine ⟨_, rfl, _, _, rfl, rfl, p3, rfl, _, rfl, ite2 (fun c => ?_) (fun c => ?_)⟩
  · have e : b % 3 = 0 := vint (of_decide_eq_true c)
    rw [if_pos e] at q
    exact ⟨_, rfl, _, _, rfl, rfl, c_small (by decide), _, rfl, _, _, rfl, rfl, c_small (by decide), _, _, rfl, rfl, tup2 S0 q rfl rfl⟩
  have m0 : ¬ b % 3 = 0 := fun z => c (decide_eq_true (congrArg V.int z))
  rw [if_neg m0] at q
  refine ⟨_, rfl, _, _, rfl, rfl, p3, rfl, _, rfl, ite2 (fun c => ?_) (fun c => ?_)⟩
  · have e : b % 3 = 1 := vint (of_decide_eq_true c)
    rw [if_pos e] at q
    exact ⟨_, rfl, _, _, rfl, rfl, c_small (by decide), _, rfl, _, _, rfl, rfl, c_small (by decide), _, _, rfl, rfl, tup2 S0 q rfl rfl⟩
  have m1 : ¬ b % 3 = 1 := fun z => c (decide_eq_true (congrArg V.int z))
  rw [if_neg m1] at q
  exact ⟨_, rfl, _, _, rfl, rfl, c_small (by decide), _, rfl, _, _, rfl, rfl, ⟨by decide, by decide⟩, _, _, rfl, rfl, p5, _, _, rfl, rfl, tup2 S0 q rfl rfl⟩
end
end Tw

namespace Tw
open PySem L2 L3
/-- a list of points of one's own, new behind H -/
def NewPts (K : PySem.W.Frag) (H H' : Hp) (r : Addr) (ps : List Ma.Pt) : Prop := ∃ xs, H r = none ∧ H' r = some (.lst xs) ∧ Dens K H' (ps.map Ma.pt) xs
def spPts (K : PySem.W.Frag) : Sp := fun vs H Q _ => ∃ (a : Addr) (ns : List Int) (st n y : Int), vs = [.ref a, .int st, .int n, .int y] ∧ SqL K H a (ns.map V.int) ∧ 0 ≤ st ∧ st ≤ 1000 ∧ 0 ≤ n ∧ n ≤ 1000 ∧
  ∀ r H', Same H H' → NewPts K H H' r (Ma.ptsBy ns st n.toNat y) → Q (.ref r) H'
section
variable {P : Program} {w : World} {K : PySem.W.Frag} {mg : Str → Option Value} {base : Heap}
/-- one point more, where it is not there yet -/
theorem put_pt {H H2 : Hp} {r : Addr} {xs : List V} {ps : List Ma.Pt} {v : V} {p : Ma.Pt} (hs : Same H H2) (hr : H r = none) (h2 : H2 r = some (.lst xs)) (hd : Dens K H2 (ps.map Ma.pt) xs) (hv : Den K H2 (Ma.pt p) v) :
    Same H (upd H2 r (.lst (xs ++ [v]))) ∧ (upd H2 r (.lst (xs ++ [v]))) r = some (.lst (xs ++ [v])) ∧ Dens K (upd H2 r (.lst (xs ++ [v]))) ((ps ++ [p]).map Ma.pt) (xs ++ [v]) := by
  refine ⟨fun b o e => ?_, upd_same, ?_⟩
  · rw [upd_ne (ne_of_none e hr)]; exact hs b o e
  · rw [List.map_append]
    exact Dens.append (Dens.upd h2 _ _ (Ma.nols_pts ps) hd) (Dens.cons (Den.upd h2 _ _ (Ma.nol_pt p) hv) Dens.nil)
theorem sc_l_points_by : FnScope ["script", "start", "count", "way", "points", "k", "point", "more"] ["script", "start", "count", "way"] (defScope t_points_by) := ⟨rfl, rfl, rfl, by decide +kernel, rfl, by decide +kernel, by decide +kernel⟩
theorem c_points_by (S : Src K mg "_law_points_by" t_points_by) (m_len : mg "len" = none) (m_range : mg "range" = none) (k_cell_at : Cal P w K mg base 1 "_law_cell_at" ["script", "k"] (spCell K)) (k_point_by : Cal P w K mg base 1 "_law_point_by" ["one", "two", "way"] (spPt K)) :
    Cal P w K mg base 2 "_law_points_by" ["script", "start", "count", "way"] (spPts K) := by
  refine S.cal (fun f fd F => okN F sc_l_points_by (fun vs H Q E h => ?_) (fun cdv A outer s H vs Q E hr h => ?_)) (fun _ _ _ _ _ _ us hl => match us, hl with | [_, _, _, _], _ => rfl)
  · obtain ⟨a, ns, st, n, y, rfl, _⟩ := h
    rfl
  obtain ⟨a, ns, st, n, y, rfl, hS, hst0, hst, hn0, hn, q⟩ := h
  have nd := sc_l_points_by.nd
  have hu : (A.deeper (PyProof.Rows.envOfC "_law_points_by" (defScope t_points_by) s.heap.objs.size f cdv)).units + 40 < cLine := by have := hr.units; omega
  refine ⟨_, (pss_cons (sset 4 nd (pe_lst pa_nil))
      (pss_cons (ps_for PassesOwn.never rfl (pi_range1 rfl m_range (a1 (pv 2))) (pg_name (i := 5) nd rfl (by first | exact Or.inl rfl | exact Or.inr rfl)) (pss_cons (sset 6 nd (pe_c k_point_by hr (a3 (pe_c k_cell_at hr (a2 (pv 0) (pe_op op_add (pv 1) (pe_op op_mul pe_int (pv 5))))) (pe_c k_cell_at hr (a2 (pv 0) (pe_op op_add (pe_op op_add (pv 1) (pe_op op_mul pe_int (pv 5))) pe_int))) (pv 3))))
      (pss_one (ps_if (cmp (op_notinD hu) (pv 6) (pv 4)) (pss_one (ps_expr (pe_bm PySem.F.plainAttrs_list PySem.F.slot_list_append PySem.F.type_list_append mt_append (pv 4) (a1 (pv 6))))) pss_nil))))
      (pss_cons (ps_for PassesOwn.never rfl (pi_list (pe_lst (a2 (pe_tup (a2 pe_int pe_int)) (pe_tup (a2 pe_int pe_int))))) (pg_name (i := 7) nd rfl (by first | exact Or.inl rfl | exact Or.inr rfl)) (pss_one (ps_if (PW.pt (pw_and (cmp op_lt (callB b_len call_len_seq m_len (a1 (pv 4))) pe_int) (pw_and1 (cmp (op_notinD hu) (pv 7) (pv 4))))) (pss_one (ps_expr (pe_bm PySem.F.plainAttrs_list PySem.F.slot_list_append PySem.F.type_list_append mt_append (pv 4) (a1 (pv 7))))) pss_nil)))
      (pss_one (ps_ret (pv 4)))))), ?_⟩
  refine ⟨(by show 0 ≤ sizeLine; decide), fun r f0 => ?_⟩
  refine ⟨_, rfl, n, rfl, by omega, by omega, for_range (n := n.toNat) (fun i σ H2 => ∃ (o1 o2 : Option V) (xs : List V), σ = [some (.ref a), some (.int st), some (.int n), some (.int y), some (.ref r), o1, o2, none] ∧ Same H H2 ∧ H2 r = some (.lst xs) ∧ Dens K H2 ((Ma.ptsN ns st y i).map Ma.pt) xs)
    ⟨none, none, [], rfl, same_new f0 _, upd_same, Dens.nil⟩ ?_ ?_⟩
  · rintro i σ H2 hi ⟨o1, o2, xs, rfl, hs2, hr2, hd2⟩
    have e0 : (0 : Int) + (i : Int) = (i : Int) := Int.zero_add _
    rw [e0]
    have hS2 := hs2.seq hS
    refine ⟨_, rfl, _, rfl, _, rfl, _, _, rfl, rfl, c_small (by decide), _, _, rfl, rfl, a, ns, _, rfl, hS2, by omega, ?_⟩
    refine ⟨_, rfl, _, rfl, _, rfl, _, _, rfl, rfl, c_small (by decide), _, _, rfl, rfl, _, _, rfl, rfl, a, ns, _, rfl, hS2, by omega, ?_⟩
    refine ⟨_, rfl, _, _, _, rfl, fun v H3 hs3 hv => ?_⟩
    have hd3 := Dens.same hs3 _ _ hd2
    have hr3 := hs3 _ _ hr2
    refine ⟨_, rfl, _, rfl, _, _, r, xs, rfl, .inl (SqL.of hr3), hd3, hv, Ma.shp_pt _, Ma.shp_pts _, _, rfl, ?_⟩
    have hlen : xs.length ≤ 1000 := by
      have h1 := Dens.length hd3
      have h2 := Ma.ptsN_len ns st y i
      rw [List.length_map] at h1
      omega
    refine ite2 (fun c => ?_) (fun c => ?_)
    · have c' : Ma.ptBy (Ma.cell ns (st + 2 * (i : Int))) (Ma.cell ns (st + 2 * (i : Int) + 1)) y ∉ Ma.ptsN ns st y i := by
        intro z
        rw [Ma.any_pt, decide_eq_true z] at c
        cases c
      refine ⟨_, rfl, .inl ⟨rfl, _, SqL.of hr3⟩, _, rfl, r, xs, _, rfl, rfl, hr3, Nat.lt_of_le_of_lt hlen (by decide), ?_⟩
      obtain ⟨g1, g2, g3⟩ := put_pt (hs2.trans hs3) f0 hr3 hd3 hv
      refine ⟨_, _, _, rfl, g1, g2, ?_⟩
      have e1 : Ma.ptsN ns st y (i + 1) = Ma.ptsN ns st y i ++ [Ma.ptBy (Ma.cell ns (st + 2 * (i : Int))) (Ma.cell ns (st + 2 * (i : Int) + 1)) y] := if_neg c'
      rw [e1]
      exact g3
    · have c' : Ma.ptBy (Ma.cell ns (st + 2 * (i : Int))) (Ma.cell ns (st + 2 * (i : Int) + 1)) y ∈ Ma.ptsN ns st y i := by
        refine Classical.byContradiction fun z => c ?_
        rw [Ma.any_pt, decide_eq_false z]
        rfl
      refine ⟨_, _, _, rfl, hs2.trans hs3, hr3, ?_⟩
      have e1 : Ma.ptsN ns st y (i + 1) = Ma.ptsN ns st y i := if_pos c'
      rw [e1]
      exact hd3
  · rintro σ H2 ⟨o1, o2, xs, rfl, hs2, hr2, hd2⟩
    -- the two spare points
    refine ⟨(by show 2 ≤ sizeLine; decide), fun t1 f1 => ⟨(by show 2 ≤ sizeLine; decide), fun t2 f2 => ⟨(by show 2 ≤ sizeLine; decide), fun l f3 => ?_⟩⟩⟩
    have g1 := (same_new f1 (.tup [.int 7, .int 11])).trans ((same_new f2 (.tup [.int 8, .int 11])).trans (same_new f3 (.lst [.ref t1, .ref t2])))
    generalize hH3 : upd (upd (upd H2 t1 (.tup [.int 7, .int 11])) t2 (.tup [.int 8, .int 11])) l (.lst [.ref t1, .ref t2]) = H3 at g1
    have e1 : H3 t1 = some (.tup [.int 7, .int 11]) := by rw [← hH3]; exact same_new f3 _ _ _ (same_new f2 _ _ _ upd_same)
    have e2 : H3 t2 = some (.tup [.int 8, .int 11]) := by rw [← hH3]; exact same_new f3 _ _ _ upd_same
    have e3 : H3 l = some (.lst [.ref t1, .ref t2]) := by rw [← hH3]; exact upd_same
    have hr3 := g1 _ _ hr2
    have nlr : l ≠ r := fun z => by
      have h1 := same_new f2 (.tup [.int 8, .int 11]) _ _ (same_new f1 (.tup [.int 7, .int 11]) _ _ hr2)
      rw [z, h1] at f3; cases f3
    refine ⟨l, rfl, ⟨_, SqL.of e3⟩, for_list (K := K) (a := l) (xs := [.ref t1, .ref t2]) (fun i σ H4 => ∃ (o1 o2 o3 : Option V) (ys : List V) (ps : List Ma.Pt), σ = [some (.ref a), some (.int st), some (.int n), some (.int y), some (.ref r), o1, o2, o3] ∧ Same H H4 ∧ (∀ b o, b ≠ r → H3 b = some o → H4 b = some o) ∧ H4 r = some (.lst ys) ∧ Dens K H4 (ps.map Ma.pt) ys ∧ ps.length ≤ 1000 + i ∧
        ps = Ma.stage (Ma.ptsN ns st y n.toNat) i)
      ⟨_, _, _, xs, Ma.ptsN ns st y n.toNat, rfl, hs2.trans g1, fun b o _ e => e, hr3, Dens.same g1 _ _ hd2, (by have := Ma.ptsN_len ns st y n.toNat; omega), rfl⟩ (fun i σ H4 _ z => ?_) ?_ ?_⟩
    · obtain ⟨_, _, _, _, _, _, _, z, _⟩ := z
      exact SqL.of (z l _ nlr e3)
    · rintro i x σ H4 hx ⟨o1, o2, o3, ys, ps, rfl, hs4, k4, hr4, hd4, hl4, ep⟩
      have hi : i = 0 ∨ i = 1 := by
        have := (List.getElem?_eq_some_iff.mp hx).1
        simp at this; omega
      have hp : ∃ p : Ma.Pt, Den K H4 (Ma.pt p) x ∧ Ma.stage (Ma.ptsN ns st y n.toNat) (i + 1) = Ma.fill ps p := by
        rcases hi with rfl | rfl
        · have e : x = .ref t1 := by simpa using hx.symm
          subst e
          have n1 : t1 ≠ r := ne_of e1 hr3 (by intro z; cases z)
          exact ⟨(7, 11), den_tup (SqT.of (k4 t1 _ n1 e1)) (Dens.cons den_int (Dens.cons den_int Dens.nil)), by rw [ep]; rfl⟩
        · have e : x = .ref t2 := by simpa using hx.symm
          subst e
          have n1 : t2 ≠ r := ne_of e2 hr3 (by intro z; cases z)
          exact ⟨(8, 11), den_tup (SqT.of (k4 t2 _ n1 e2)) (Dens.cons den_int (Dens.cons den_int Dens.nil)), by rw [ep]; rfl⟩
      obtain ⟨p, hpd, hpe⟩ := hp
      have hyl : ys.length = ps.length := by have := Dens.length hd4; rw [List.length_map] at this; exact this
      have stay : (¬ (ps.length < 2 ∧ p ∉ ps)) → ps = Ma.stage (Ma.ptsN ns st y n.toNat) (i + 1) := fun hc => by rw [hpe]; exact (if_neg hc).symm
      refine ⟨_, rfl, r, _, rfl, .inl (SqL.of hr4), _, _, rfl, rfl, _, rfl, ite2 (fun c => ?_) (fun c => ?_)⟩
      · have c1 : ((ys.length : Nat) : Int) < 2 := of_decide_eq_true c
        refine ⟨_, rfl, _, rfl, _, _, r, ys, rfl, .inl (SqL.of hr4), hd4, hpd, Ma.shp_pt _, Ma.shp_pts _, _, rfl, ?_⟩
        refine ite2 (fun c => ?_) (fun c => ?_)
        · have c2 : p ∉ ps := by
            intro z
            rw [Ma.any_pt, decide_eq_true z] at c
            cases c
          refine ⟨_, rfl, .inl ⟨rfl, _, SqL.of hr4⟩, _, rfl, r, ys, _, rfl, rfl, hr4, Nat.lt_of_le_of_lt (show ys.length ≤ 2000 by omega) (by decide), ?_⟩
          obtain ⟨q1, q2, q3⟩ := put_pt hs4 f0 hr4 hd4 hpd
          refine ⟨o1, o2, _, _, ps ++ [p], rfl, q1, fun b o nb e => by rw [upd_ne nb]; exact k4 b o nb e, q2, q3, by simp only [List.length_append, List.length_singleton]; omega, ?_⟩
          rw [hpe]
          exact (if_pos ⟨by omega, c2⟩).symm
        · have c2 : p ∈ ps := by
            refine Classical.byContradiction fun z => c ?_
            rw [Ma.any_pt, decide_eq_false z]
            rfl
          exact ⟨o1, o2, _, ys, ps, rfl, hs4, k4, hr4, hd4, by omega, stay fun z => z.2 c2⟩
      · have c1 : ¬ ((ys.length : Nat) : Int) < 2 := of_decide_eq_false (Bool.eq_false_iff.mpr c)
        refine iteF ?_
        exact ⟨o1, o2, _, ys, ps, rfl, hs4, k4, hr4, hd4, by omega, stay fun z => by omega⟩
    · rintro σ H4 ⟨o1, o2, o3, ys, ps, rfl, hs4, k4, hr4, hd4, hl4, ep⟩
      refine ⟨_, rfl, q r H4 hs4 ⟨ys, f0, hr4, ?_⟩⟩
      rw [ep] at hd4
      exact hd4
end
end Tw

namespace Ma
open PySem L2 L3
/-- a law's set of points -/
def setP (ns : List Int) : List Pt := ptsBy ns 2 (2 + cell ns 0 % 19).toNat (cell ns 0 / 19 % 6)
theorem setP_good (ns : List Int) : Good (setP ns) := ptsBy_good _ _ _ _
theorem setP_two (ns : List Int) : 2 ≤ (setP ns).length := ptsBy_two _ _ _ _
theorem setP_len (ns : List Int) : (setP ns).length ≤ 20 := by
  have := ptsBy_len ns 2 (2 + cell ns 0 % 19).toNat (cell ns 0 / 19 % 6)
  unfold setP
  omega
end Ma
namespace Tw
open PySem L2 L3
def spSet (K : PySem.W.Frag) : Sp := fun vs H Q _ => ∃ (a : Addr) (ns : List Int), vs = [.ref a] ∧ SqL K H a (ns.map V.int) ∧ ∀ r H', Same H H' → NewPts K H H' r (Ma.setP ns) → Q (.ref r) H'
section
variable {P : Program} {w : World} {K : PySem.W.Frag} {mg : Str → Option Value} {base : Heap}
theorem sc_l_set : FnScope ["script", "head"] ["script"] (defScope t_set) := ⟨rfl, rfl, rfl, by decide +kernel, rfl, by decide +kernel, by decide +kernel⟩
theorem c_set (S : Src K mg "_law_set" t_set) (k_cell_at : Cal P w K mg base 1 "_law_cell_at" ["script", "k"] (spCell K)) (k_points_by : Cal P w K mg base 2 "_law_points_by" ["script", "start", "count", "way"] (spPts K)) :
    Cal P w K mg base 3 "_law_set" ["script"] (spSet K) := by
  refine S.cal (fun f fd F => okN F sc_l_set (fun vs H Q E h => ?_) (fun cdv A outer s H vs Q E hr h => ?_)) (fun _ _ _ _ _ _ us hl => match us, hl with | [_], _ => rfl)
  · obtain ⟨a, ns, rfl, _⟩ := h
    rfl
  obtain ⟨a, ns, rfl, hS, q⟩ := h
  have nd := sc_l_set.nd
  have hr1 := hr.mono (show 1 ≤ 2 by decide)
  refine ⟨_, (pss_cons (sset 1 nd (pe_c k_cell_at hr1 (a2 (pv 0) pe_int)))
      (pss_one (ps_ret (pe_c k_points_by hr (pa_cons (pv 0) (pa_cons pe_int (pa_cons (pe_op op_add pe_int (pe_op op_mod (pv 1) pe_int)) (pa_cons (pe_op op_mod (pe_op op_fdiv (pv 1) pe_int) pe_int) pa_nil)))))))), ?_⟩
  refine ⟨_, rfl, a, ns, 0, rfl, hS, by decide, ?_⟩
  refine ⟨_, rfl, _, rfl, _, _, rfl, rfl, (by show (0 : Int) < 19; decide), _, _, rfl, rfl, _, rfl, _, _, rfl, rfl, ⟨by decide, by decide⟩, _, _, rfl, rfl, (by show (0 : Int) < 6; decide), a, ns, 2, _, _, rfl, hS, by decide, by decide, ?_, ?_, fun r H1 s1 hp => q r H1 s1 hp⟩
  · show 0 ≤ 2 + Ma.cell ns 0 % 19; omega
  · show 2 + Ma.cell ns 0 % 19 ≤ 1000; omega
end
end Tw

namespace Tw
open PySem L2 L3
def spLLines (K : PySem.W.Frag) : Sp := fun vs H Q _ => ∃ (r : Addr) (ps : List Ma.Pt), vs = [.ref r] ∧ PtsAt K H r ps ∧ PsOk ps ∧ ∀ L v as H', Ma.LinesIs ps L → Same H H' → NewD K H H' (Ma.rowsD ps L) v as → Q v H'
def spRightP (K : PySem.W.Frag) : Sp := fun vs H Q _ => ∃ (r : Addr) (ps : List Ma.Pt), vs = [.ref r] ∧ PtsAt K H r ps ∧ PsOk ps ∧ ∀ H', Same H H' → Q (.bl true) H'
theorem set_ok (ns : List Int) : PsOk (Ma.setP ns) := ⟨Ma.setP_good ns, Ma.setP_two ns, Ma.setP_len ns⟩
end Tw

namespace Tw
open PySem L2 L3
theorem Cal.imp {P : Program} {w : World} {K : PySem.W.Frag} {mg : Str → Option Value} {base : Heap} {k : Nat} {x : Str} {ps : List Str} {sp sp' : Sp} (c : Cal P w K mg base k x ps sp) (h : ∀ vs H Q E, sp' vs H Q E → sp vs H Q E) : Cal P w K mg base k x ps sp' := by
  obtain ⟨f, fd, F, r⟩ := c
  exact ⟨f, fd, F.imp h, r⟩
end Tw

namespace Ma
open PySem L2 L3
def ptl (p : Pt) : List Int := [p.1, p.2]
theorem pt_ptl (ps : List Pt) : (ps.map ptl).map itup = ps.map pt := by rw [List.map_map]; rfl
theorem ptl_nd {ps : List Pt} : (ps.map ptl).Nodup ↔ ps.Nodup := by
  constructor
  · intro h
    have h2 := List.pairwise_map.mp h
    exact h2.imp fun {a b} n e => n (by rw [e])
  · intro h
    refine List.pairwise_map.mpr (List.Pairwise.imp (fun {a b} n e => n ?_) h)
    have e1 : a.1 = b.1 := by injection e
    have e2 : a.2 = b.2 := by injection e with _ e; injection e
    exact Prod.ext e1 e2
theorem dd_ps (ps : List Pt) : (Tb.dd [] (ps.map ptl)).length = ps.length ↔ ps.Nodup := by
  have h := Tb.dd_all (ps.map ptl) [] List.nodup_nil
  rw [List.nil_append, List.length_map, List.length_nil, Nat.zero_add] at h
  rw [h, ptl_nd]
end Ma
namespace Tw
open PySem L2 L3
def spIsPt (K : PySem.W.Frag) : Sp := fun vs H Q _ => ∃ (v : V) (p : Ma.Pt), vs = [v] ∧ Den K H (Ma.pt p) v ∧ ∀ b, (b = true ↔ Ma.InB p) → Q (.bl b) H
def spArePts (K : PySem.W.Frag) : Sp := fun vs H Q _ => ∃ (r : Addr) (ps : List Ma.Pt), vs = [.ref r] ∧ PtsAt K H r ps ∧ ps.length ≤ 1000 ∧ ∀ b H', (b = true ↔ PsOk ps) → Same H H' → Q (.bl b) H'
section
variable {P : Program} {w : World} {K : PySem.W.Frag} {mg : Str → Option Value} {base : Heap}
theorem sc_is_point : FnScope ["point"] ["point"] (defScope s_is_point) := ⟨rfl, rfl, rfl, by decide +kernel, rfl, by decide +kernel, by decide +kernel⟩
theorem c_is_point (S : Src K mg "is_point" s_is_point) (m_abs : mg "abs" = none) (g_FARTHEST : GV mg "FARTHEST" (.int 1000000)) : Cal P w K mg base 1 "is_point" ["point"] (spIsPt K) := by
  refine S.cal (fun f fd F => okN F sc_is_point (fun vs H Q E h => ?_) (fun cdv A outer s H vs Q E hr h => ?_)) (fun _ _ _ _ _ _ us hl => match us, hl with | [_], _ => rfl)
  · obtain ⟨v, p, rfl, _⟩ := h
    rfl
  obtain ⟨v, p, rfl, hv, q⟩ := h
  obtain ⟨va, rfl, hva⟩ := pt_of hv
  refine ⟨_, (pss_one (ps_ret (pe_and (cmpE op_le (callB b_abs call_abs m_abs (a1 (ixT (pv 0) pe_int))) (pe_gv g_FARTHEST)) (pe_one (cmpE op_le (callB b_abs call_abs m_abs (a1 (ixT (pv 0) pe_int))) (pe_gv g_FARTHEST)))))), ?_⟩
  refine ⟨_, rfl, va, _, 0, _, rfl, rfl, hva, rfl, p.1, rfl, _, _, rfl, rfl, _, rfl, ite2 (fun c => ?_) (fun c => ?_)⟩
  · refine ⟨_, rfl, va, _, 1, _, rfl, rfl, hva, rfl, p.2, rfl, _, _, rfl, rfl, q _ ?_⟩
    have c1 : (if p.1 < 0 then -p.1 else p.1) ≤ 1000000 := of_decide_eq_true c
    rw [decide_eq_true_iff]
    unfold Ma.InB
    constructor
    · intro c2
      refine ⟨?_, ?_, ?_, ?_⟩ <;> (split at c1 <;> split at c2 <;> omega)
    · rintro ⟨_, _, _, _⟩
      split <;> omega
  · refine q _ ⟨fun z => (by cases z), fun z => (c ?_).elim⟩
    obtain ⟨z1, z2, _⟩ := z
    refine decide_eq_true ?_
    split <;> omega
theorem sc_are_points : FnScope ["points"] ["points"] (defScope s_are_points) := ⟨rfl, rfl, rfl, by decide +kernel, rfl, by decide +kernel, by decide +kernel⟩
theorem c_are_points (S : Src K mg "are_points" s_are_points) (m_len : mg "len" = none) (m_set : mg "set" = none) (m_all : mg "all" = none) (g_FEWEST : GV mg "FEWEST" (.int 2)) (g_MOST : GV mg "MOST" (.int 20)) (k_is_point : Cal P w K mg base 1 "is_point" ["point"] (spIsPt K)) :
    Cal P w K mg base 2 "are_points" ["points"] (spArePts K) := by
  refine S.cal (fun f fd F => okN F sc_are_points (fun vs H Q E h => ?_) (fun cdv A outer s H vs Q E hr h => ?_)) (fun _ _ _ _ _ _ us hl => match us, hl with | [_], _ => rfl)
  · obtain ⟨r, ps, rfl, _⟩ := h
    rfl
  obtain ⟨r, ps, rfl, hps, hl, q⟩ := h
  have nd := sc_are_points.nd
  have hu : (A.deeper (PyProof.Rows.envOfC "are_points" (defScope s_are_points) s.heap.objs.size f cdv)).units + 40 < cLine := by have := hr.units; omega
  refine ⟨_, (pss_cons (ps_if (PW.pt (pw_or (cmp op_lt (callB b_len call_len_seq m_len (a1 (pv 0))) (pe_gv g_FEWEST)) (pw_or1 (cmp op_gt (callB b_len call_len_seq m_len (a1 (pv 0))) (pe_gv g_MOST))))) (pss_one (ps_ret pe_bl)) pss_nil)
      (pss_cons (ps_if (cmp op_ne (callB b_len call_lenSet m_len (a1 (callT b_set (call_setT rfl hu) m_set (a1 (pv 0))))) (callB b_len call_len_seq m_len (a1 (pv 0)))) (pss_one (ps_ret pe_bl)) pss_nil)
      (pss_one (ps_ret (callB b_all (call_allB rfl) m_all (a1 (pe_lc (tc := tYes) rfl (compS_mk (tgs := ["point"]) (caps := []) rfl rfl rfl rfl trivial rfl rfl) (pi_list (pv 0)) (fun _ _ _ _ => (pg_name (i := 0) (show (["point"] : List Str).Nodup by decide +kernel) rfl (Or.inl rfl))) (Or.inl ⟨rfl, rfl⟩) (fun _ _ _ _ => (pe_c k_is_point hr (a1 (pv 0))))))))))), ?_⟩
  obtain ⟨px, hpx, hpl0, hpat⟩ := hps.get
  obtain ⟨px', hpx', hpd⟩ := id hps
  obtain rfl : px' = px := by rw [hpx] at hpx'; cases hpx'; rfl
  refine ⟨_, rfl, r, px', rfl, .inl (SqL.of hpx), _, _, rfl, rfl, _, rfl, ite2 (fun c => iteT ?_) (fun c => ?_)⟩
  · refine q _ _ ⟨fun z => (by cases z), fun z => ?_⟩ (Same.refl H)
    have := z.two
    have c1 : (px'.length : Int) < 2 := of_decide_eq_true c
    omega
  refine ⟨_, rfl, r, px', rfl, .inl (SqL.of hpx), _, _, rfl, rfl, _, rfl, ite2 (fun c2 => ?_) (fun c2 => ?_)⟩
  · refine q _ _ ⟨fun z => (by cases z), fun z => ?_⟩ (Same.refl H)
    have := z.len
    have c1 : (px'.length : Int) > 20 := of_decide_eq_true c2
    omega
  have l2 : ¬ ((px'.length : Int) < 2) := fun z => c (decide_eq_true z)
  have l20 : ¬ ((px'.length : Int) > 20) := fun z => c2 (decide_eq_true z)
  refine ⟨_, rfl, r, px', ps.map Ma.ptl, rfl, SqL.of hpx, by rw [Ma.pt_ptl]; exact hpd, by rw [List.length_map]; omega, fun a fa => ?_⟩
  have dl := Tb.dd_len (ps.map Ma.ptl) []
  rw [List.length_map, List.length_nil, Nat.zero_add] at dl
  have s1 := same_new fa (SetN a (Tb.dd [] (ps.map Ma.ptl)).length)
  have ha : (upd H a (SetN a (Tb.dd [] (ps.map Ma.ptl)).length)) a = some (SetN a (Tb.dd [] (ps.map Ma.ptl)).length) := upd_same
  generalize upd H a (SetN a (Tb.dd [] (ps.map Ma.ptl)).length) = H1 at s1 ha ⊢
  refine ⟨a, _, rfl, ha, by omega, _, rfl, r, px', rfl, .inl (SqL.of (s1 _ _ hpx)), rfl, _, rfl, ?_⟩
  by_cases cn : ps.Nodup
  · have e1 := (Ma.dd_ps ps).mpr cn
    refine iteNS (by rw [e1, hpl0]) ?_
    refine ⟨_, rfl, r, rfl, ⟨_, SqL.of (s1 _ _ hpx)⟩, comp_list (K := K) (a := r) (xs := px') (fun m ys σ' H8 => H8 = H1 ∧ (∃ o', σ' = [o']) ∧ ∃ bs : List Bool, ys = bs.map V.bl ∧ bs.length = m ∧ (bs.all id = true ↔ ∀ p ∈ ps.take m, Ma.InB p)) ⟨rfl, ⟨none, rfl⟩, [], rfl, rfl, by simp⟩ ?_ ?_ ?_ ?_⟩
    · rw [hpl0]; exact Nat.le_trans (show ps.length ≤ 1000 by omega) (by decide)
    · rintro m ys σ' H8 _ ⟨rfl, _, bs, rfl, h2, _⟩
      exact ⟨SqL.of (s1 _ _ hpx), by rw [List.length_map]; omega⟩
    · rintro m v ys σ' H8 hv ⟨rfl, ⟨o', rfl⟩, bs, rfl, h2, h3⟩
      refine yesT ?_
      have hm : m < ps.length := by rw [← hpl0]; exact (List.getElem?_eq_some_iff.mp hv).1
      obtain ⟨v', ev, dv⟩ := hpat m _ (List.getElem?_eq_getElem hm)
      rw [hv] at ev; cases ev
      refine ⟨_, rfl, v, ps[m], rfl, Den.same s1 _ _ dv, fun b hb => ⟨rfl, ⟨_, rfl⟩, bs ++ [b], by rw [List.map_append]; rfl, by rw [List.length_append, h2]; rfl, ?_⟩⟩
      rw [List.all_append, Bool.and_eq_true, h3, List.take_succ, List.getElem?_eq_getElem hm]
      simp only [List.all_cons, List.all_nil, Bool.and_true, id_eq, hb]
      constructor
      · rintro ⟨z1, z2⟩ p hp
        rcases List.mem_append.mp hp with y | y
        · exact z1 p y
        · rw [List.mem_singleton.mp y]; exact z2
      · intro z
        exact ⟨fun p hp => z p (List.mem_append_left _ hp), z _ (List.mem_append_right _ (by simp))⟩
    · rintro ys σ' H8 ⟨rfl, ⟨o', rfl⟩, bs, rfl, h2, h3⟩ p3 fp3
      rw [hpl0, List.take_length] at h3
      refine ⟨p3, bs, rfl, SqL.of upd_same, q _ _ (h3.trans ?_) (s1.trans (same_new fp3 _))⟩
      constructor
      · intro z
        exact ⟨⟨cn, z⟩, by omega, by omega⟩
      · intro z
        exact z.good.inb
  · have e1 : ¬ (Tb.dd [] (ps.map Ma.ptl)).length = ps.length := fun z => cn ((Ma.dd_ps ps).mp z)
    have e2 : decide (V.int ((Tb.dd [] (ps.map Ma.ptl)).length : Int) = V.int (px'.length : Int)) = false := decide_eq_false fun z => e1 (by have := V.int.inj z; omega)
    rw [e2]
    refine iteT (q _ _ ⟨fun z => (by cases z), fun z => (cn z.good.nd).elim⟩ s1)
end
end Tw

namespace Tw
open PySem L2 L3
def spWhole : Sp := fun vs H Q _ => ∃ i : Int, vs = [.int i] ∧ Q (.bl true) H
section
variable {P : Program} {w : World} {K : PySem.W.Frag} {mg : Str → Option Value} {base : Heap}
theorem sc_l_whole : FnScope ["found"] ["found"] (defScope t_whole) := ⟨rfl, rfl, rfl, by decide +kernel, rfl, by decide +kernel, by decide +kernel⟩
theorem c_whole (S : Src K mg "_law_whole" t_whole) (m_isi : mg "isinstance" = none) (m_int : mg "int" = none) (m_bool : mg "bool" = none) : Cal P w K mg base 1 "_law_whole" ["found"] spWhole := by
  refine S.cal (fun f fd F => okN F sc_l_whole (fun vs H Q E h => ?_) (fun cdv A outer s H vs Q E hr h => ?_)) (fun _ _ _ _ _ _ us hl => match us, hl with | [_], _ => rfl)
  · obtain ⟨i, rfl, _⟩ := h
    rfl
  obtain ⟨i, rfl, q⟩ := h
  refine ⟨_, (pss_one (ps_ret (pe_and (callB b_isi call_isiD m_isi (a2 (pv 0) (pe_ty b_int m_int))) (pe_one (pe_not (callB b_isi call_isiD m_isi (a2 (pv 0) (pe_ty b_bool m_bool)))))))), ?_⟩
  refine ⟨_, rfl, _, _, _, .int i, true, rfl, relv_ty, den_int, kit_ii K, true, rfl, iteT ?_⟩
  exact ⟨_, rfl, _, _, _, .int i, false, rfl, relv_ty, den_int, kit_ib K, false, rfl, q⟩
end
end Tw

namespace Tw
open PySem L2 L3
def spIsT (K : PySem.W.Frag) : Sp := fun vs H Q _ => ∃ (u v : V) (ms : List Int), vs = [u, v] ∧ Den K H (itup ms) u ∧ Den K H (itup ms) v ∧ Q (.bl true) H
section
variable {P : Program} {w : World} {K : PySem.W.Frag} {mg : Str → Option Value} {base : Heap}
theorem itup_of {H : Hp} {ms : List Int} {v : V} (h : Den K H (itup ms) v) : ∃ a, v = .ref a ∧ SqT K H a (ms.map V.int) := by
  obtain ⟨a, xs, rfl, h1, h2⟩ := h.tup_of
  rw [dens_ints_of h2] at h1
  exact ⟨a, rfl, h1⟩
theorem sc_l_is_tuple : FnScope ["found", "due", "number"] ["found", "due"] (defScope t_is_tuple) := ⟨rfl, rfl, rfl, by decide +kernel, rfl, by decide +kernel, by decide +kernel⟩
theorem c_is_tuple (S : Src K mg "_law_is_tuple" t_is_tuple) (m_isi : mg "isinstance" = none) (m_tuple : mg "tuple" = none) (m_len : mg "len" = none) (k_whole : Cal P w K mg base 1 "_law_whole" ["found"] spWhole) :
    Cal P w K mg base 2 "_law_is_tuple" ["found", "due"] (spIsT K) := by
  refine S.cal (fun f fd F => okN F sc_l_is_tuple (fun vs H Q E h => ?_) (fun cdv A outer s H vs Q E hr h => ?_)) (fun _ _ _ _ _ _ us hl => match us, hl with | [_, _], _ => rfl)
  · obtain ⟨u, v, ms, rfl, _⟩ := h
    rfl
  obtain ⟨u, v, ms, rfl, hu1, hv1, q⟩ := h
  have nd := sc_l_is_tuple.nd
  have hu : (A.deeper (PyProof.Rows.envOfC "_law_is_tuple" (defScope t_is_tuple) s.heap.objs.size f cdv)).units + 40 < cLine := by have := hr.units; omega
  obtain ⟨ua, rfl, hua⟩ := itup_of hu1
  obtain ⟨va, rfl, hva⟩ := itup_of hv1
  refine ⟨_, (pss_cons (ps_if (PW.pt (pw_or (pt_not (tval (callB b_isi call_isiD m_isi (a2 (pv 0) (pe_ty b_tuple m_tuple))))) (pw_or1 (cmp op_ne (callB b_len call_len_seq m_len (a1 (pv 0))) (callB b_len call_len_seq m_len (a1 (pv 1))))))) (pss_one (ps_ret pe_bl)) pss_nil)
      (pss_cons (ps_for PassesOwn.never rfl (pi_tup (pv 0)) (pg_name (i := 2) nd rfl (by first | exact Or.inl rfl | exact Or.inr rfl)) (pss_one (ps_if (pt_not (tval (pe_c k_whole hr (a1 (pv 2))))) (pss_one (ps_ret pe_bl)) pss_nil)))
      (pss_one (ps_ret (cmpE (op_eqD hu) (pv 0) (pv 1)))))), ?_⟩
  refine ⟨_, rfl, _, _, _, itup ms, true, rfl, relv_ty, hu1, kit_tt K, true, rfl, iteF ?_⟩
  refine ⟨_, rfl, ua, _, rfl, .inr hua, _, rfl, va, _, rfl, .inr hva, rfl, _, rfl, iteNS rfl ?_⟩
  refine ⟨_, rfl, ua, rfl, ⟨_, hua⟩, for_tup (K := K) (a := ua) (xs := ms.map V.int) (fun i σ H2 => H2 = H ∧ ∃ o : Option V, σ = [some (.ref ua), some (.ref va), o]) ⟨rfl, none, rfl⟩ (fun i σ H2 _ z => by rw [z.1]; exact hua) ?_ ?_⟩
  · rintro i x σ H2 hx ⟨rfl, o, rfl⟩
    obtain ⟨m, rfl⟩ : ∃ m, x = V.int m := by
      rw [List.getElem?_map] at hx
      cases e : ms[i]? with
      | none => rw [e] at hx; cases hx
      | some m => rw [e] at hx; exact ⟨m, (Option.some.inj hx).symm⟩
    exact ⟨_, rfl, m, rfl, true, rfl, iteF ⟨rfl, _, rfl⟩⟩
  · rintro σ H2 ⟨rfl, o, rfl⟩
    refine ⟨_, rfl, _, rfl, itup ms, itup ms, hu1, hv1, shp_ints ms, shp_ints ms, ?_⟩
    show Q (.bl (PyData.eqv (itup ms) (itup ms))) _
    rw [eqv_ints, decide_eq_true rfl]
    exact q
end
end Tw

namespace Tw
open PySem L2 L3
def spText (K : PySem.W.Frag) : Sp := fun vs H Q _ => ∃ (r : Addr) (ps : List Ma.Pt), vs = [.ref r] ∧ PtsAt K H r ps ∧ PsOk ps ∧ ∀ H', Same H H' → Q (.str (Ma.txt ps)) H'
section
variable {P : Program} {w : World} {K : PySem.W.Frag} {mg : Str → Option Value} {base : Heap}
theorem yesQ {σ : L2.St} {H : Hp} {Q : Bool → Hp → Prop} (h : Q true H) : tYes σ H Q := h
theorem sc_l_text : FnScope ["points"] ["points"] (defScope t_text) := ⟨rfl, rfl, rfl, by decide +kernel, rfl, by decide +kernel, by decide +kernel⟩
theorem c_text (S : Src K mg "_law_text" t_text) (m_str : mg "str" = none) : Cal P w K mg base 1 "_law_text" ["points"] (spText K) := by
  refine S.cal (fun f fd F => okN F sc_l_text (fun vs H Q E h => ?_) (fun cdv A outer s H vs Q E hr h => ?_)) (fun _ _ _ _ _ _ us hl => match us, hl with | [_], _ => rfl)
  · obtain ⟨r, ps, rfl, _⟩ := h
    rfl
  obtain ⟨r, ps, rfl, hps, ok, q⟩ := h
  refine ⟨_, (pss_one (ps_ret (pe_bm PySem.F.plainAttrs_str PySem.F.slot_str_join PySem.F.type_str_join mt_join pe_str (a1 (pe_lc (tc := tYes) rfl (compS_mk (tgs := ["x", "y"]) (caps := []) rfl rfl rfl rfl trivial rfl rfl) (pi_list (pv 0)) (fun _ _ _ _ => (pg_tupk (K := K) (n := 2) rfl (pgs_cons (pg_name (i := 0) (show (["x", "y"] : List Str).Nodup by decide +kernel) rfl (Or.inl rfl) (Or.inr rfl)) (pgs_cons (pg_name (i := 1) (show (["x", "y"] : List Str).Nodup by decide +kernel) rfl (Or.inl rfl) (Or.inr rfl)) pgs_nil)))) (Or.inl ⟨rfl, rfl⟩) (fun _ _ _ _ => (pe_op op_add_str (pe_op op_add_str (callT b_str call_str_int m_str (a1 (pv 0))) pe_str) (callT b_str call_str_int m_str (a1 (pv 1)))))))))), ?_⟩
  obtain ⟨px, hpx, hpl0, hpat⟩ := hps.get
  have z20 := ok.len
  refine ⟨rfl, _, rfl, r, rfl, ⟨_, SqL.of hpx⟩, comp_list (K := K) (a := r) (xs := px) (fun m zs σ' H8 => H8 = H ∧ (∃ o1 o2, σ' = [o1, o2]) ∧ zs = ((ps.take m).map Ma.ptT).map V.str) ⟨rfl, ⟨none, none, rfl⟩, rfl⟩ ?_ ?_ ?_ ?_⟩
  · rw [hpl0]; exact Nat.le_trans z20 (by decide)
  · rintro m zs σ' H8 _ ⟨rfl, _, rfl⟩
    refine ⟨SqL.of hpx, ?_⟩
    rw [List.length_map, List.length_map, List.length_take]; omega
  · rintro m v zs σ' H8 hv ⟨rfl, ⟨o1, o2, rfl⟩, rfl⟩
    have hm : m < ps.length := by rw [← hpl0]; exact (List.getElem?_eq_some_iff.mp hv).1
    obtain ⟨v', ev, dv⟩ := hpat m _ (List.getElem?_eq_getElem hm)
    rw [hv] at ev; cases ev
    obtain ⟨va, rfl, hva⟩ := pt_of dv
    have ib := ok.good.inb _ (List.getElem_mem hm)
    have l1 := Ma.numT_len ⟨ib.1, ib.2.1⟩
    have l2 := Ma.numT_len ⟨ib.2.2.1, ib.2.2.2⟩
    have lc : (Str.ofString ",").length = 1 := by decide +kernel
    have big : (100 : Nat) ≤ sizeLine := by decide
    refine ⟨va, _, rfl, hva, rfl, _, _, rfl, _, _, rfl, rfl, yesQ (ifT ?_)⟩
    refine ⟨_, rfl, ps[m].1, rfl, Ma.log_small ⟨ib.1, ib.2.1⟩, _, _, rfl, rfl, ?_, _, rfl, ps[m].2, rfl, Ma.log_small ⟨ib.2.2.1, ib.2.2.2⟩, _, _, rfl, rfl, ?_, rfl, ⟨_, _, rfl⟩, ?_⟩
    · show (Ma.numT ps[m].1).length + (Str.ofString ",").length ≤ sizeLine
      omega
    · show (Ma.numT ps[m].1 ++ Str.ofString ",").length + (Ma.numT ps[m].2).length ≤ sizeLine
      rw [Str.length_append]; omega
    · rw [List.take_succ, List.getElem?_eq_getElem hm, List.map_append, List.map_append]; rfl
  · rintro zs σ' H8 ⟨rfl, ⟨o1, o2, rfl⟩, rfl⟩ p fp
    rw [hpl0, List.take_length]
    have s1 := same_new fp (.lst ((ps.map Ma.ptT).map V.str))
    refine ⟨_, p, ps.map Ma.ptT, rfl, rfl, SqL.of upd_same, ?_, q _ s1⟩
    have a := Ma.sum_le (ts := ps.map Ma.ptT) fun t ht => by
      obtain ⟨x, hx, rfl⟩ := List.mem_map.mp ht
      exact Ma.ptT_len (ok.good.inb x hx)
    rw [List.length_map] at a ⊢
    have b : (Str.ofString " ").length = 1 := by decide +kernel
    rw [b]
    have big : (1000 : Nat) ≤ sizeLine := by decide
    omega
end
end Tw

namespace Tw
open PySem L2 L3
def spIsPts (K : PySem.W.Frag) : Sp := fun vs H Q _ => ∃ (r r2 : Addr) (ps : List Ma.Pt), vs = [.ref r, .ref r2] ∧ PtsAt K H r ps ∧ PtsAt K H r2 ps ∧ ps.length ≤ 1000 ∧ Q (.bl true) H
def spShown (K : PySem.W.Frag) : Sp := fun vs H Q _ => ∃ (r : Addr) (ps : List Ma.Pt), vs = [.ref r] ∧ PtsAt K H r ps ∧ PsOk ps ∧ ∀ H', Same H H' → Q (.str (Ma.txt ps)) H'
/-- a text that points write -/
def spReadOk (K : PySem.W.Frag) : Sp := fun vs H Q _ => ∃ ps, vs = [.str (Ma.txt ps)] ∧ PsOk ps ∧ ∀ r H', Same H H' → H r = none → PtsAt K H' r ps → Q (.ref r) H'
def spRead (K : PySem.W.Frag) (cT : Addr) : Sp := fun vs H Q E => ∃ x : Str, vs = [.str x] ∧ x.length ≤ 1000 ∧ ((∃ ps, PsOk ps ∧ x = Ma.txt ps ∧ ∀ r H', Same H H' → H r = none → PtsAt K H' r ps → Q (.ref r) H') ∨ ((¬ ∃ ps, PsOk ps ∧ x = Ma.txt ps) ∧ E (.ref cT) none H))
section
variable {P : Program} {w : World} {K : PySem.W.Frag} {mg : Str → Option Value} {base : Heap}
theorem sc_l_is_points : FnScope ["found", "due", "k"] ["found", "due"] (defScope t_is_points) := ⟨rfl, rfl, rfl, by decide +kernel, rfl, by decide +kernel, by decide +kernel⟩
theorem c_is_points (S : Src K mg "_law_is_points" t_is_points) (m_len : mg "len" = none) (m_range : mg "range" = none) (m_isi : mg "isinstance" = none) (m_list : mg "list" = none) (k_is_tuple : Cal P w K mg base 2 "_law_is_tuple" ["found", "due"] (spIsT K)) :
    Cal P w K mg base 3 "_law_is_points" ["found", "due"] (spIsPts K) := by
  refine S.cal (fun f fd F => okN F sc_l_is_points (fun vs H Q E h => ?_) (fun cdv A outer s H vs Q E hr h => ?_)) (fun _ _ _ _ _ _ us hl => match us, hl with | [_, _], _ => rfl)
  · obtain ⟨r, r2, ps, rfl, _⟩ := h
    rfl
  obtain ⟨r, r2, ps, rfl, h1, h2, z20, q⟩ := h
  have nd := sc_l_is_points.nd
  refine ⟨_, (pss_cons (ps_if (PW.pt (pw_or (pt_not (tval (callB b_isi call_isiD m_isi (a2 (pv 0) (pe_ty b_list m_list))))) (pw_or1 (cmp op_ne (callB b_len call_len_seq m_len (a1 (pv 0))) (callB b_len call_len_seq m_len (a1 (pv 1))))))) (pss_one (ps_ret pe_bl)) pss_nil)
      (pss_cons (ps_for PassesOwn.never rfl (pi_range1 rfl m_range (a1 (callB b_len call_len_seq m_len (a1 (pv 1))))) (pg_name (i := 2) nd rfl (by first | exact Or.inl rfl | exact Or.inr rfl)) (pss_one (ps_if (pt_not (tval (pe_c k_is_tuple hr (a2 (ixL (pv 0) (pv 2)) (ixL (pv 1) (pv 2)))))) (pss_one (ps_ret pe_bl)) pss_nil)))
      (pss_one (ps_ret pe_bl)))), ?_⟩
  obtain ⟨px, hpx, hpl, hpat⟩ := h1.get
  obtain ⟨qx, hqx, hql, hqat⟩ := h2.get
  obtain ⟨px', hpx', hpd⟩ := h1
  obtain rfl : px' = px := by rw [hpx] at hpx'; cases hpx'; rfl
  refine ⟨_, rfl, _, _, _, Ma.plst ps, true, rfl, relv_ty, den_lst (SqL.of hpx) hpd, kit_ll K, true, rfl, iteF ?_⟩
  refine ⟨_, rfl, r, px', rfl, .inl (SqL.of hpx), _, rfl, r2, qx, rfl, .inl (SqL.of hqx), rfl, _, rfl, iteNS (by rw [hpl, hql]) ?_⟩
  refine ⟨_, rfl, r2, qx, rfl, .inl (SqL.of hqx), _, rfl, by omega, by omega, for_range (n := (qx.length : Int).toNat) (fun i σ H2 => H2 = H ∧ ∃ o : Option V, σ = [some (.ref r), some (.ref r2), o]) ⟨rfl, none, rfl⟩ ?_ ?_⟩
  · rintro i σ H2 hi ⟨rfl, o, rfl⟩
    have hi' : i < ps.length := by omega
    have ep : ps[i]? = some ps[i] := List.getElem?_eq_getElem hi'
    obtain ⟨x, ex, dx⟩ := hpat i _ ep
    obtain ⟨y, ey, dy⟩ := hqat i _ ep
    have e0 : (0 : Int) + (i : Int) = (i : Int) := Int.zero_add _
    rw [e0]
    exact ⟨_, rfl, _, rfl, r, px', _, x, rfl, rfl, SqL.of hpx, atI_nat ex, _, rfl, _, rfl, r2, qx, _, y, rfl, rfl, SqL.of hqx, atI_nat ey, x, y, [ps[i].1, ps[i].2], rfl, dx, dy, true, rfl, iteF ⟨rfl, _, rfl⟩⟩
  · rintro σ H2 ⟨rfl, o, rfl⟩
    exact q
end
end Tw

namespace Tw
open PySem L2 L3 PySem.NumText
def spIsNum : Sp := fun vs H Q _ => ∃ w : Str, vs = [.str w] ∧ w.length ≤ 1000 ∧ ∀ b H', (b = true ↔ ∃ n, Ma.NumA w n) → Same H H' → Q (.bl b) H'
section
variable {P : Program} {w : World} {K : PySem.W.Frag} {mg : Str → Option Value} {base : Heap}
theorem sc_is_number : FnScope ["word", "figures"] ["word"] (defScope s_is_number) := ⟨rfl, rfl, rfl, by decide +kernel, rfl, by decide +kernel, by decide +kernel⟩
theorem c_is_number (S : Src K mg "is_number" s_is_number) (m_len : mg "len" = none) (m_all : mg "all" = none) (g_FIGURES : GV mg "FIGURES" (.str "0123456789")) (g_MOST_FIGURES : GV mg "MOST_FIGURES" (.int 7)) : Cal P w K mg base 1 "is_number" ["word"] spIsNum := by
  refine S.cal (fun f fd F => okN F sc_is_number (fun vs H Q E h => ?_) (fun cdv A outer s H vs Q E hr h => ?_)) (fun _ _ _ _ _ _ us hl => match us, hl with | [_], _ => rfl)
  · obtain ⟨x, rfl, _⟩ := h
    rfl
  obtain ⟨x, rfl, xl, q⟩ := h
  have nd := sc_is_number.nd
  have e0 : Str.ofString "0" = ⟨#[48]⟩ := by decide +kernel
  have em : Str.ofString "-" = ⟨#[45]⟩ := by decide +kernel
  have ee : Str.ofString "" = ⟨#[]⟩ := by decide +kernel
  have tail : ∃ t, PSs (cxOf (CXE P w) P w K mg base ["word", "figures"] "is_number" (defScope s_is_number) f cdv A outer s H E).nox ((defBody s_is_number).drop 2) t ∧
      ∀ (g : Str), ((∃ n, Ma.NumA x n) ↔ (AllDigits g.cps.toList ∧ g.cps.toList ≠ [] ∧ g.cps.toList.head? ≠ some 48 ∧ g.cps.toList.length ≤ 7)) → g.length ≤ 1000 →
        t { nx := fun _ H' => Q .non H', rt := Q } [some (.str x), some (.str g)] H := by
    refine ⟨_, (pss_cons (ps_if (PW.pt (pw_or (cmp op_eq (pv 1) pe_str) (pw_or1 (cmp op_gt (callB b_len call_len m_len (a1 (pv 1))) (pe_gv g_MOST_FIGURES))))) (pss_one (ps_ret pe_bl)) pss_nil)
      (pss_cons (ps_if (tval (pe_bm PySem.F.plainAttrs_str PySem.F.slot_str_startswith PySem.F.type_str_startswith mt_starts (pv 1) (a1 pe_str))) (pss_one (ps_ret pe_bl)) pss_nil)
      (pss_one (ps_ret (callB b_all (call_allB rfl) m_all (a1 (pe_lc (tc := tYes) rfl (compS_mk (tgs := ["sign"]) (caps := []) rfl rfl rfl rfl trivial rfl rfl) (pi_str (pv 1)) (fun _ _ _ _ => (pg_name (i := 0) (show (["sign"] : List Str).Nodup by decide +kernel) rfl (Or.inl rfl))) (Or.inl ⟨rfl, rfl⟩) (fun _ _ _ _ => (cmpE op_in_str (pv 0) (pe_gv g_FIGURES)))))))))), ?_⟩
    intro g hiff gl
    have glz : g.length ≤ sizeLine := Nat.le_trans gl (by decide)
    have hgl : g.cps.toList.length = g.length := by show g.cps.toList.length = g.cps.size; simp
    have no : ¬ (AllDigits g.cps.toList ∧ g.cps.toList ≠ [] ∧ g.cps.toList.head? ≠ some 48 ∧ g.cps.toList.length ≤ 7) → Q (.bl false) H := fun z => q _ _ ⟨fun y => (by cases y), fun y => (z (hiff.mp y)).elim⟩ (Same.refl H)
    refine ⟨_, rfl, rfl, _, rfl, ite2 (fun c => iteT (no fun z => ?_)) (fun c => ?_)⟩
    · have c1 := V.str.inj (of_decide_eq_true c)
      exact z.2.1 (by rw [c1, ee])
    have ne : g.cps.toList ≠ [] := fun z => c (decide_eq_true (by rw [ee]; congr 1; exact str_ext z))
    refine ⟨_, rfl, _, g.length, rfl, ⟨glz, rfl⟩, _, _, rfl, rfl, _, rfl, ite2 (fun c2 => no fun z => ?_) (fun c2 => ?_)⟩
    · have c3 := of_decide_eq_true c2
      have := z.2.2.2
      omega
    have l7 : g.cps.toList.length ≤ 7 := by
      have : ¬ (7 : Int) < ((g.length : Nat) : Int) := fun z => c2 (decide_eq_true z)
      omega
    refine ⟨_, rfl, rfl, g, _, rfl, rfl, _, rfl, ?_⟩
    rw [e0, starts_one]
    refine ite2 (fun c3 => no fun z => z.2.2.1 (of_decide_eq_true c3)) (fun c3 => ?_)
    have h48 : g.cps.toList.head? ≠ some 48 := fun z => c3 (decide_eq_true z)
    refine ⟨_, rfl, g, rfl, comp_str (x := g) (fun m ys σ' H8 => H8 = H ∧ (∃ o', σ' = [o']) ∧ ∃ bs : List Bool, ys = bs.map V.bl ∧ bs.length = m ∧ (bs.all id = true ↔ ∀ c ∈ g.cps.toList.take m, 48 ≤ c ∧ c ≤ 57)) ⟨rfl, ⟨none, rfl⟩, [], rfl, rfl, by simp⟩ glz ?_ ?_ ?_⟩
    · rintro m ys σ' H8 _ ⟨rfl, _, bs, rfl, h2, _⟩
      rw [List.length_map]; omega
    · rintro m c ys σ' H8 hc ⟨rfl, ⟨o', rfl⟩, bs, rfl, h2, h3⟩
      refine yesT ?_
      have fo := StrLaws.found_one (Str.ofString "0123456789") c
      have el : (Str.ofString "0123456789").cps.toList = [48, 49, 50, 51, 52, 53, 54, 55, 56, 57] := by decide +kernel
      rw [el] at fo
      refine ⟨_, rfl, _, _, rfl, rfl, rfl, ⟨_, rfl⟩, bs ++ [!(Builtin.Str.occurrences (Str.ofString "0123456789") ⟨#[c]⟩ 0 (Str.ofString "0123456789").length 1).isEmpty], by rw [List.map_append]; rfl, by rw [List.length_append, h2]; rfl, ?_⟩
      rw [fo]
      have hc' : g.cps.toList[m]? = some c := by rw [Array.getElem?_toList]; exact hc
      rw [List.all_append, Bool.and_eq_true, h3, List.take_succ, hc']
      simp only [List.all_cons, List.all_nil, Bool.and_true, id_eq, decide_eq_true_iff]
      have m10 : c ∈ [48, 49, 50, 51, 52, 53, 54, 55, 56, 57] ↔ 48 ≤ c ∧ c ≤ 57 := by
        simp only [List.mem_cons, List.not_mem_nil, or_false]; omega
      rw [m10]
      constructor
      · rintro ⟨z1, z2⟩ p hp
        rcases List.mem_append.mp hp with y | y
        · exact z1 p y
        · rw [List.mem_singleton.mp y]; exact z2
      · intro z
        exact ⟨fun p hp => z p (List.mem_append_left _ hp), z _ (List.mem_append_right _ (by simp))⟩
    · rintro ys σ' H8 ⟨rfl, ⟨o', rfl⟩, bs, rfl, h2, h3⟩ p3 fp3
      rw [List.take_of_length_le (by simp)] at h3
      refine ⟨p3, bs, rfl, SqL.of upd_same, q _ _ (h3.trans ?_) (same_new fp3 _)⟩
      rw [hiff]
      exact ⟨fun z => ⟨z, ne, h48, l7⟩, fun z => z.1⟩
  obtain ⟨tT, hT, rT⟩ := tail
  refine ⟨_, (pss_cons (ps_if (cmp op_eq (pv 0) pe_str) (pss_one (ps_ret pe_bl)) pss_nil)
      (pss_cons (sset 1 nd (pe_ifExp (tval (pe_bm PySem.F.plainAttrs_str PySem.F.slot_str_startswith PySem.F.type_str_startswith mt_starts (pv 0) (a1 pe_str))) (pe_slice sl_str (pv 0) (po_some pe_int) po_none) (pv 0))) hT)), ?_⟩
  have xlz : x.length ≤ sizeLine := Nat.le_trans xl (by decide)
  have hxl : x.cps.toList.length = x.length := by show x.cps.toList.length = x.cps.size; simp
  refine ⟨_, rfl, rfl, _, rfl, ite2 (fun c => ?_) (fun c => ?_)⟩
  · have c1 := V.str.inj (of_decide_eq_true c)
    exact q _ _ ⟨fun _ => ⟨0, by rw [c1, e0]; exact Ma.numA_zero⟩, fun _ => rfl⟩ (Same.refl H)
  have x0 : x ≠ ⟨#[48]⟩ := fun z => c (decide_eq_true (by rw [e0, z]))
  refine ⟨_, rfl, rfl, x, _, rfl, rfl, _, rfl, ?_⟩
  rw [em, starts_one]
  rcases Ma.sgn x with ⟨cs, ex, e1, e2⟩ | ⟨h1, h2⟩
  · refine iteDT (by rw [ex]; rfl) ?_
    refine ⟨_, rfl, 1, rfl, x, min 1 x.length, x.length, rfl, xlz, slAb_from 1 _, ?_⟩
    have xl2 : x.length = cs.length + 1 := by rw [← hxl, ex]; rfl
    have gl2 : (cutS x (min 1 x.length) x.length).length = cs.length := by
      rw [← e2]; show (cutS x (min 1 x.length) x.length).cps.size = _; simp
    refine rT (cutS x (min 1 x.length) x.length) ?_ (by omega)
    rw [e2]
    constructor
    · rintro ⟨n, hn⟩
      obtain ⟨⟨f, f7, f0⟩, _⟩ := (Ma.numA_neg ex n).mp hn
      refine ⟨f.1, f.2.1, ?_, f7⟩
      rcases f.2.2 with y | y
      · exact absurd y f0
      · exact y
    · rintro ⟨z1, z2, z3, z4⟩
      exact ⟨_, (Ma.numA_neg ex _).mpr ⟨⟨⟨z1, z2, .inr z3⟩, z4, fun z => z3 (by rw [z]; rfl)⟩, rfl⟩⟩
  · refine iteD h1 ⟨_, rfl, rT x ?_ xl⟩
    constructor
    · rintro ⟨n, hn⟩
      obtain ⟨⟨f, f7⟩, _⟩ := (Ma.numA_pos h1 n).mp hn
      refine ⟨f.1, f.2.1, ?_, f7⟩
      rcases f.2.2 with y | y
      · exact absurd (str_ext (b := ⟨#[48]⟩) (by rw [y])) x0
      · exact y
    · rintro ⟨z1, z2, z3, z4⟩
      exact ⟨_, (Ma.numA_pos h1 _).mpr ⟨⟨⟨z1, z2, .inr z3⟩, z4⟩, rfl⟩⟩
end
end Tw

namespace Ma
open PySem L2 L3 PySem.NumText
theorem numA_int {w : Str} {n : Int} (h : NumA w n) : PySem.intText? w = some n ∧ w.length ≤ 8 := by
  have hl : w.cps.toList.length = w.length := by show w.cps.toList.length = w.cps.size; simp
  by_cases c : w.cps.toList.head? = some 45
  · cases e : w.cps.toList with
    | nil => rw [e] at c; cases c
    | cons d cs =>
      rw [e] at c
      obtain rfl : d = 45 := Option.some.inj c
      obtain ⟨⟨f, f7, _⟩, rfl⟩ := (numA_neg e n).mp h
      rw [e, List.length_cons] at hl
      exact ⟨intText_neg e f.1 f.2.1 (by omega), by omega⟩
  · obtain ⟨⟨f, f7⟩, rfl⟩ := (numA_pos c n).mp h
    exact ⟨intText_digits f.1 f.2.1 (by omega), by omega⟩
theorem numA_inj {w : Str} {m n : Int} (h1 : NumA w m) (h2 : NumA w n) : m = n := by
  have a := (numA_int h1).1
  have b := (numA_int h2).1
  rw [a] at b
  exact Option.some.inj b
/-- a word that writes a point, of numbers of at most seven figures -/
def PtW (w : Str) (p : Pt) : Prop := w = ptT p ∧ (-9999999 ≤ p.1 ∧ p.1 ≤ 9999999) ∧ -9999999 ≤ p.2 ∧ p.2 ≤ 9999999
theorem ptW_parts {w a b : Str} (h : Txt.split w ⟨#[44]⟩ = [a, b]) (p : Pt) : PtW w p ↔ NumA a p.1 ∧ NumA b p.2 := by
  constructor
  · rintro ⟨rfl, h1, h2⟩
    rw [ptT_split] at h
    injection h with e1 h
    injection h with e2 _
    exact ⟨⟨e1.symm, h1⟩, ⟨e2.symm, h2⟩⟩
  · rintro ⟨⟨e1, h1⟩, ⟨e2, h2⟩⟩
    refine ⟨?_, h1, h2⟩
    have := StrLaws.join_split w ⟨#[44]⟩
    rw [h, e1, e2] at this
    rw [← this, ptT_join]
theorem ptW_two {w : Str} {p : Pt} (h : PtW w p) : (Txt.split w ⟨#[44]⟩).length = 2 := by
  rw [h.1, ptT_split]; rfl
end Ma
namespace Tw
open PySem L2 L3 PySem.NumText
def spReadNum (cT : Addr) : Sp := fun vs H Q E => ∃ w : Str, vs = [.str w] ∧ w.length ≤ 1000 ∧ (∀ n, Ma.NumA w n → ∀ H', Same H H' → Q (.int n) H') ∧ ((¬ ∃ n, Ma.NumA w n) → ∀ H', Same H H' → E (.ref cT) none H')
def spReadPt (K : PySem.W.Frag) (cT : Addr) : Sp := fun vs H Q E => ∃ w : Str, vs = [.str w] ∧ w.length ≤ 1000 ∧ (∀ p, Ma.PtW w p → ∀ v H', Same H H' → Den K H' (Ma.pt p) v → Q v H') ∧ ((¬ ∃ p, Ma.PtW w p) → ∀ H', Same H H' → E (.ref cT) none H')
section
variable {P : Program} {w : World} {K : PySem.W.Frag} {mg : Str → Option Value} {base : Heap}
theorem sc_read_number : FnScope ["word"] ["word"] (defScope s_read_number) := ⟨rfl, rfl, rfl, by decide +kernel, rfl, by decide +kernel, by decide +kernel⟩
theorem c_read_number {cT : Addr} (S : Src K mg "read_number" s_read_number) (Z : ExcC K mg "BadText" cT) (m_int : mg "int" = none) (k_is_number : Cal P w K mg base 1 "is_number" ["word"] spIsNum) : Cal P w K mg base 2 "read_number" ["word"] (spReadNum cT) := by
  refine S.cal (fun f fd F => okX F sc_read_number (fun vs H Q E h => ?_) (fun cdv A outer s H vs Q E hr h => ?_)) (fun _ _ _ _ _ _ us hl => match us, hl with | [_], _ => rfl)
  · obtain ⟨x, rfl, _⟩ := h
    rfl
  obtain ⟨x, rfl, xl, q, qE⟩ := h
  have nd := sc_read_number.nd
  have hh : A.handled = none := hr.hd
  refine ⟨_, (pss_cons (ps_if (pt_not (tval (pe_c k_is_number hr (a1 (pv 0))))) (pss_one (ps_raise Z (a1 pe_str) rfl rfl hh)) pss_nil)
      (pss_one (ps_ret (callT b_int call_intS m_int (a1 (pv 0)))))), ?_⟩
  refine ⟨_, rfl, x, rfl, xl, fun b H1 hb s1 => ⟨b, rfl, ?_⟩⟩
  cases b with
  | true =>
    obtain ⟨n, hn⟩ := hb.mp rfl
    obtain ⟨i1, i2⟩ := Ma.numA_int hn
    exact iteF ⟨_, rfl, x, n, rfl, i1, by omega, q n hn H1 s1⟩
  | false => exact iteT ⟨(by show 1 ≤ sizeLine; decide), qE (fun z => by have := hb.mpr z; cases this) H1 s1⟩
theorem sc_read_point : FnScope ["word", "parts"] ["word"] (defScope s_read_point) := ⟨rfl, rfl, rfl, by decide +kernel, rfl, by decide +kernel, by decide +kernel⟩
theorem c_read_point {cT : Addr} (S : Src K mg "read_point" s_read_point) (Z : ExcC K mg "BadText" cT) (m_len : mg "len" = none) (k_read_number : Cal P w K mg base 2 "read_number" ["word"] (spReadNum cT)) : Cal P w K mg base 3 "read_point" ["word"] (spReadPt K cT) := by
  refine S.cal (fun f fd F => okX F sc_read_point (fun vs H Q E h => ?_) (fun cdv A outer s H vs Q E hr h => ?_)) (fun _ _ _ _ _ _ us hl => match us, hl with | [_], _ => rfl)
  · obtain ⟨x, rfl, _⟩ := h
    rfl
  obtain ⟨x, rfl, xl, q, qE⟩ := h
  have nd := sc_read_point.nd
  have hh : A.handled = none := hr.hd
  have ec : Str.ofString "," = ⟨#[44]⟩ := by decide +kernel
  refine ⟨_, (pss_cons (sset 1 nd (pe_bm PySem.F.plainAttrs_str PySem.F.slot_str_split PySem.F.type_str_split mt_split (pv 0) (a1 pe_str)))
      (pss_cons (ps_if (cmp op_ne (callB b_len call_len_seq m_len (a1 (pv 1))) pe_int) (pss_one (ps_raise Z (a1 pe_str) rfl rfl hh)) pss_nil)
      (pss_one (ps_ret (pe_tup (a2 (pe_cX k_read_number hr passX (a1 (ixL (pv 1) pe_int))) (pe_cX k_read_number hr passX (a1 (ixL (pv 1) pe_int))))))))), ?_⟩
  refine ⟨_, rfl, rfl, x, 44, rfl, by rw [ec], xl, fun l fl => ?_⟩
  have s1 := same_new fl (.lst ((Txt.split x ⟨#[44]⟩).map V.str))
  have hl1 : (upd H l (.lst ((Txt.split x ⟨#[44]⟩).map V.str))) l = some (.lst ((Txt.split x ⟨#[44]⟩).map V.str)) := upd_same
  generalize upd H l (.lst ((Txt.split x ⟨#[44]⟩).map V.str)) = H1 at s1 hl1 ⊢
  refine ⟨_, rfl, l, _, rfl, .inl (SqL.of hl1), rfl, _, rfl, ?_⟩
  rw [List.length_map]
  by_cases c : (Txt.split x ⟨#[44]⟩).length = 2
  · refine iteNS (by rw [c]; rfl) ?_
    obtain ⟨a, b, eab⟩ : ∃ a b, Txt.split x ⟨#[44]⟩ = [a, b] := by
      match e : Txt.split x ⟨#[44]⟩, c with
      | [a, b], _ => exact ⟨a, b, rfl⟩
    rw [eab] at hl1
    have jl : a.length + b.length ≤ x.length := by
      have := StrLaws.join_split x ⟨#[44]⟩
      rw [eab] at this
      have h2 := congrArg (fun s : Str => s.cps.toList.length) this
      rw [join_two] at h2
      have h3 : (Str.join ⟨#[44]⟩ [b]).cps.toList = b.cps.toList := rfl
      rw [h3, List.length_append, List.length_cons] at h2
      have g : ∀ s : Str, s.cps.toList.length = s.length := fun s => by show s.cps.toList.length = s.cps.size; simp
      rw [g, g, g] at h2
      omega
    have none_of : (¬ ∃ n, Ma.NumA a n) ∨ (¬ ∃ n, Ma.NumA b n) → ¬ ∃ p, Ma.PtW x p := fun z ⟨p, hp⟩ => by
      obtain ⟨y1, y2⟩ := (Ma.ptW_parts eab p).mp hp
      rcases z with z | z
      · exact z ⟨_, y1⟩
      · exact z ⟨_, y2⟩
    refine ⟨_, rfl, l, _, 0, _, rfl, rfl, SqL.of hl1, rfl, a, rfl, by omega, fun n hn H2 s2 => ?_, fun z H2 s2 => qE (none_of (.inl z)) H2 (s1.trans s2)⟩
    refine ⟨_, rfl, l, _, 1, _, rfl, rfl, SqL.of (s2 _ _ hl1), rfl, b, rfl, by omega, fun m hm H3 s3 => ?_, fun z H3 s3 => qE (none_of (.inr z)) H3 (s1.trans (s2.trans s3))⟩
    refine ⟨(by show 2 ≤ sizeLine; decide), fun tp ftp => ?_⟩
    refine q (n, m) ((Ma.ptW_parts eab (n, m)).mpr ⟨hn, hm⟩) _ _ (s1.trans (s2.trans (s3.trans (same_new ftp _)))) ?_
    exact den_tup (SqT.of upd_same) (Dens.cons den_int (Dens.cons den_int Dens.nil))
  · have e2 : decide (V.int ((Txt.split x ⟨#[44]⟩).length : Int) = V.int 2) = false := decide_eq_false fun z => c (by have := V.int.inj z; omega)
    rw [e2]
    exact iteT ⟨(by show 1 ≤ sizeLine; decide), qE (fun ⟨p, hp⟩ => c (Ma.ptW_two hp)) H1 s1⟩
end
end Tw

namespace Ma
open PySem L2 L3
/-- the points that a text writes -/
def Writes (x : Str) (ps : List Pt) : Prop := Tw.PsOk ps ∧ x = txt ps
theorem inB_seven {p : Pt} (h : InB p) : PtW (ptT p) p := ⟨rfl, ⟨by have := h.1; omega, by have := h.2.1; omega⟩, by have := h.2.2.1; omega, by have := h.2.2.2; omega⟩
theorem ptW_inj {w : Str} {p q : Pt} (h1 : PtW w p) (h2 : PtW w q) : p = q := by
  have e := h1.1
  subst e
  have a := (ptW_parts (ptT_split p) p).mp h1
  have b := (ptW_parts (ptT_split p) q).mp h2
  exact Prod.ext (numA_inj a.1 b.1) (numA_inj a.2 b.2)
theorem ptT_inj7 : ∀ {ps qs : List Pt}, (∀ p ∈ ps, PtW (ptT p) p) → (∀ p ∈ qs, PtW (ptT p) p) → ps.map ptT = qs.map ptT → ps = qs
  | [], [], _, _, _ => rfl
  | [], _ :: _, _, _, h => by simp at h
  | _ :: _, [], _, _, h => by simp at h
  | p :: ps, q :: qs, h1, h2, h => by
    rw [List.map_cons, List.map_cons] at h
    injection h with e1 e2
    have : p = q := ptW_inj (h1 p (by simp)) (by rw [e1]; exact h2 q (by simp))
    rw [this, ptT_inj7 (fun x hx => h1 x (List.mem_cons_of_mem _ hx)) (fun x hx => h2 x (List.mem_cons_of_mem _ hx)) e2]
theorem writes_words {x : Str} {ps : List Pt} (h : Writes x ps) : Txt.split x ⟨#[32]⟩ = ps.map ptT := by
  rw [h.2]
  exact txt_split (by intro z; have := h.1.two; rw [z] at this; simp at this)
theorem join_words (x : Str) : Str.join ⟨#[32]⟩ (Txt.split x ⟨#[32]⟩) = x := StrLaws.join_split x ⟨#[32]⟩
theorem le_sum {ts : List Str} {t : Str} (h : t ∈ ts) : t.length ≤ (ts.map (·.length)).sum := by
  induction ts with
  | nil => cases h
  | cons u ts ih =>
    rw [List.map_cons, List.sum_cons]
    rcases List.mem_cons.mp h with rfl | h
    · omega
    · have := ih h
      omega
theorem sum_ge {ts : List Str} (h : ∀ t ∈ ts, 1 ≤ t.length) : ts.length ≤ (ts.map (·.length)).sum := by
  induction ts with
  | nil => simp
  | cons t ts ih =>
    have a := h t (by simp)
    have b := ih fun u hu => h u (List.mem_cons_of_mem _ hu)
    rw [List.map_cons, List.sum_cons, List.length_cons]
    omega
theorem txt_ge (ps : List Pt) : ps.length ≤ (txt ps).length := by
  have a := sum_ge (ts := ps.map ptT) fun t ht => by
    obtain ⟨p, _, rfl⟩ := List.mem_map.mp ht
    have lc : (Str.ofString ",").length = 1 := by decide +kernel
    unfold ptT
    rw [Str.length_append, Str.length_append]
    omega
  rw [List.length_map] at a
  unfold txt
  rw [← StrLaws.glued_eq_join, size_glued]
  omega
end Ma
namespace Tw
open PySem L2 L3
def spReadX (K : PySem.W.Frag) (cT : Addr) : Sp := fun vs H Q E => ∃ x : Str, vs = [.str x] ∧ x.length ≤ 1000 ∧ (∀ ps, Ma.Writes x ps → ∀ r H', Same H H' → H r = none → PtsAt K H' r ps → Q (.ref r) H') ∧ ((¬ ∃ ps, Ma.Writes x ps) → ∀ H', Same H H' → E (.ref cT) none H')
section
variable {P : Program} {w : World} {K : PySem.W.Frag} {mg : Str → Option Value} {base : Heap}
theorem split_len (x : Str) (h : x.length ≤ 1000) : (Txt.split x ⟨#[32]⟩).length ≤ 1002 := by
  have := PyProof.Rows.split_le x ⟨#[32]⟩
  omega
theorem sc_read : FnScope ["text", "points"] ["text"] (defScope s_read) := ⟨rfl, rfl, rfl, by decide +kernel, rfl, by decide +kernel, by decide +kernel⟩
theorem c_read {cT : Addr} (S : Src K mg "read" s_read) (Z : ExcC K mg "BadText" cT) (k_are_points : Cal P w K mg base 2 "are_points" ["points"] (spArePts K)) (k_read_point : Cal P w K mg base 3 "read_point" ["word"] (spReadPt K cT)) : Cal P w K mg base 4 "read" ["text"] (spReadX K cT) := by
  refine S.cal (fun f fd F => okX F sc_read (fun vs H Q E h => ?_) (fun cdv A outer s H vs Q E hr h => ?_)) (fun _ _ _ _ _ _ us hl => match us, hl with | [_], _ => rfl)
  · obtain ⟨x, rfl, _⟩ := h
    rfl
  obtain ⟨x, rfl, xl, q, qE⟩ := h
  have nd := sc_read.nd
  have hh : A.handled = none := hr.hd
  have hr2 := hr.mono (show 2 ≤ 3 by decide)
  have ec : Str.ofString " " = ⟨#[32]⟩ := by decide +kernel
  refine ⟨_, (pss_cons (ps_lcX (tc := tYes) rfl (i := 1) rfl (compS_mk (tgs := ["word"]) (caps := []) rfl rfl rfl rfl trivial rfl rfl) nd rfl rfl (pi_list (pe_bm PySem.F.plainAttrs_str PySem.F.slot_str_split PySem.F.type_str_split mt_split (pv 0) (a1 pe_str))) (fun _ _ _ _ => (pg_name (i := 0) (show (["word"] : List Str).Nodup by decide +kernel) rfl (Or.inl rfl))) (Or.inl ⟨rfl, rfl⟩) (fun _ _ _ _ => (pe_cX k_read_point hr passI (a1 (pv 0)))))
      (pss_cons (ps_if (pt_not (tval (pe_c k_are_points hr2 (a1 (pv 1))))) (pss_one (ps_raise Z (a1 pe_str) rfl rfl hh)) pss_nil)
      (pss_one (ps_ret (pv 1))))), ?_⟩
  refine ⟨_, rfl, rfl, _, 32, rfl, by rw [ec], xl, fun l fl => ?_⟩
  have wl := split_len x xl
  have wfree := StrLaws.split_free x 32
  have wj := Ma.join_words x
  have ww : ∀ {ps}, Ma.Writes x ps → Txt.split x ⟨#[32]⟩ = ps.map Ma.ptT := fun h => Ma.writes_words h
  generalize Txt.split x ⟨#[32]⟩ = ws at wl wfree wj ww ⊢
  have s1 := same_new fl (.lst (ws.map V.str))
  have hl1 : (upd H l (.lst (ws.map V.str))) l = some (.lst (ws.map V.str)) := upd_same
  generalize upd H l (.lst (ws.map V.str)) = H1 at s1 hl1 ⊢
  have xlw : (ws.map V.str).length = ws.length := by rw [List.length_map]
  have wle : ∀ t ∈ ws, t.length ≤ 1000 := fun t ht => by
    have e : x.length = (ws.map (·.length)).sum + (ws.length - 1) * (⟨#[32]⟩ : Str).length := by
      rw [← wj, ← StrLaws.glued_eq_join, size_glued]
    have : t.length ≤ (ws.map (·.length)).sum := Ma.le_sum ht
    omega
  refine ⟨l, rfl, ⟨_, SqL.of hl1⟩, comp_list (K := K) (a := l) (xs := ws.map V.str) (fun m ys σ' H8 => Same H1 H8 ∧ (∃ o', σ' = [o']) ∧ ∃ ps : List Ma.Pt, Dens K H8 (ps.map Ma.pt) ys ∧ ws.take m = ps.map Ma.ptT ∧ (∀ p ∈ ps, Ma.PtW (Ma.ptT p) p) ∧ ys.length ≤ m) ⟨Same.refl _, ⟨none, rfl⟩, [], Dens.nil, rfl, (fun _ z => (nomatch z)), Nat.le_refl _⟩ ?_ ?_ ?_ ?_⟩
  · rw [xlw]; exact Nat.le_trans wl (by decide)
  · rintro m ys σ' H8 _ ⟨s8, _, ps, _, _, _, hl⟩
    exact ⟨SqL.of (s8 _ _ hl1), hl⟩
  · rintro m v ys σ' H8 hv ⟨s8, ⟨o', rfl⟩, ps, hd8, hw, h7, hl⟩
    refine yesT ?_
    have hm : m < ws.length := by rw [← xlw]; exact (List.getElem?_eq_some_iff.mp hv).1
    have ep : ws[m]? = some ws[m] := List.getElem?_eq_getElem hm
    rw [List.getElem?_map, ep] at hv
    obtain rfl : V.str ws[m] = v := Option.some.inj hv
    refine ⟨_, rfl, _, rfl, wle _ (List.getElem_mem hm), fun p hp v H9 s9 hd => ?_, fun z H9 s9 => qE (fun ⟨qs, hq⟩ => z ?_) H9 (s1.trans (s8.trans s9))⟩
    · refine ⟨s8.trans s9, ⟨_, rfl⟩, ps ++ [p], ?_, ?_, fun p' hp' => ?_, by rw [List.length_append]; exact Nat.succ_le_succ hl⟩
      · rw [List.map_append]
        exact Dens.append (Dens.same s9 _ _ hd8) (Dens.cons hd Dens.nil)
      · rw [List.take_succ, ep, hw, List.map_append, hp.1]; rfl
      · rcases List.mem_append.mp hp' with y | y
        · exact h7 p' y
        · rw [List.mem_singleton.mp y, ← hp.1]; exact hp
    · have e := ww hq
      have hm2 : m < qs.length := by rw [e, List.length_map] at hm; exact hm
      have : ws[m] = Ma.ptT qs[m] := by
        have e2 : ws[m]? = some (Ma.ptT qs[m]) := by rw [e, List.getElem?_map, List.getElem?_eq_getElem hm2]; rfl
        rw [ep] at e2
        exact Option.some.inj e2
      rw [this]
      exact ⟨_, Ma.inB_seven (hq.1.good.inb _ (List.getElem_mem hm2))⟩
  · rintro ys σ' H8 ⟨s8, ⟨o', rfl⟩, ps, hd8, hw, h7, hl⟩ p fp
    rw [xlw, List.take_length] at hw
    have xt : x = Ma.txt ps := by
      rw [← wj, hw]
      unfold Ma.txt
      rw [ec]
    have pl : ps.length ≤ 1000 := by
      have := Ma.txt_ge ps
      rw [← xt] at this
      omega
    have s9 := same_new fp (.lst ys)
    have hp9 : (upd H8 p (.lst ys)) p = some (.lst ys) := upd_same
    generalize upd H8 p (.lst ys) = H9 at s9 hp9 ⊢
    have hps : PtsAt K H9 p ps := ⟨ys, hp9, Dens.same s9 _ _ hd8⟩
    refine ⟨_, rfl, p, ps, rfl, hps, pl, fun b H10 hb s10 => ⟨b, rfl, ?_⟩⟩
    have s19 := s1.trans (s8.trans (s9.trans s10))
    cases b with
    | true => exact iteF ⟨_, rfl, q ps ⟨hb.mp rfl, xt⟩ p H10 s19 ((s1.trans s8).free fp) (hps.same s10)⟩
    | false =>
      refine iteT ⟨(by show 1 ≤ sizeLine; decide), qE (fun ⟨qs, hq⟩ => ?_) H10 s19⟩
      have e := ww hq
      rw [hw] at e
      have : ps = qs := Ma.ptT_inj7 h7 (fun p hp => Ma.inB_seven (hq.1.good.inb p hp)) e
      subst this
      have := hb.mpr hq.1
      cases this
end
end Tw

namespace Tw
open PySem L2 L3 PySem.NumText
def spNumber : Sp := fun vs H Q _ => ∃ w : Str, vs = [.str w] ∧ w.length ≤ 1000 ∧ (∀ n, Ma.NumW w n → Q (.int n) H) ∧ ((∀ n, ¬ Ma.NumW w n) → Q .non H)
section
variable {P : Program} {w : World} {K : PySem.W.Frag} {mg : Str → Option Value} {base : Heap}
theorem ixS {X : Cx} {a b : Expr} {ta tb : TE} {pos : Pos} (ha : PE X a ta) (hb : PE X b tb) (hs : PlainIx b := by intro _ _; rfl) : PE X (.Subscript a b pos) (tOp rIxS ta tb) := pe_ix ix_str ha hb hs
theorem iteNT {c A B : Prop} [Decidable c] (hc : ¬ c) (h : A) : if (!decide c) = true then A else B := by rw [decide_eq_false hc]; exact iteT h
theorem sc_l_number : FnScope ["word", "figures", "sign"] ["word"] (defScope t_number) := ⟨rfl, rfl, rfl, by decide +kernel, rfl, by decide +kernel, by decide +kernel⟩
theorem c_number (S : Src K mg "_law_number" t_number) (m_len : mg "len" = none) (m_abs : mg "abs" = none) (m_int : mg "int" = none) : Cal P w K mg base 1 "_law_number" ["word"] spNumber := by
  refine S.cal (fun f fd F => okN F sc_l_number (fun vs H Q E h => ?_) (fun cdv A outer s H vs Q E hr h => ?_)) (fun _ _ _ _ _ _ us hl => match us, hl with | [_], _ => rfl)
  · obtain ⟨x, rfl, _⟩ := h
    rfl
  obtain ⟨x, rfl, xl, qi, qn⟩ := h
  have nd := sc_l_number.nd
  have tail : ∃ t, PSs (cxOf (CXE P w) P w K mg base ["word", "figures", "sign"] "_law_number" (defScope t_number) f cdv A outer s H E).nox ((defBody t_number).drop 2) t ∧
      ∀ (g : Str) (v : Int), (∀ n, Ma.NumW x n ↔ (Ma.Okf g.cps.toList ∧ (g.cps.toList.head? = some 48 → x = ⟨#[48]⟩)) ∧ n = v) → (AllDigits g.cps.toList → g.cps.toList ≠ [] → PySem.intText? x = some v) → g.length ≤ 1000 → x.length ≤ g.length + 1 → (x = ⟨#[48]⟩ → g.cps.toList = [48]) →
        t { nx := fun _ H' => Q .non H', rt := Q } [some (.str x), some (.str g), none] H := by
    refine ⟨_, (pss_cons (ps_if (PW.pt (pw_or (cmp op_lt (callB b_len call_len m_len (a1 (pv 1))) pe_int) (pw_or1 (cmp op_gt (callB b_len call_len m_len (a1 (pv 1))) pe_int)))) (pss_one (ps_ret pe_non)) pss_nil)
      (pss_cons (ps_for PassesOwn.never rfl (pi_str (pv 1)) (pg_name (i := 2) nd rfl (by first | exact Or.inl rfl | exact Or.inr rfl)) (pss_one (ps_if (cmp op_notIn_str (pv 2) pe_str) (pss_one (ps_ret pe_non)) pss_nil)))
      (pss_cons (ps_if (PW.pt (pw_or (PW.pt (pw_and (cmp op_eq (ixS (pv 1) pe_int) pe_str) (pw_and1 (cmp op_ne (pv 0) pe_str)))) (pw_or1 (cmp op_gt (callB b_abs call_abs m_abs (a1 (callT b_int call_intS m_int (a1 (pv 1))))) pe_mil)))) (pss_one (ps_ret pe_non)) pss_nil)
      (pss_one (ps_ret (callT b_int call_intS m_int (a1 (pv 0)))))))), ?_⟩
    intro g v hiff hint gl xg x0
    have glz : g.length ≤ sizeLine := Nat.le_trans gl (by decide)
    have hgl : g.cps.toList.length = g.length := by show g.cps.toList.length = g.cps.size; simp
    have e0 : Str.ofString "0" = ⟨#[48]⟩ := by decide +kernel
    have none_of : ¬ (Ma.Okf g.cps.toList ∧ (g.cps.toList.head? = some 48 → x = ⟨#[48]⟩)) → Q .non H := fun z => qn fun n hn => z ((hiff n).mp hn).1
    refine ⟨_, rfl, _, g.length, rfl, ⟨glz, rfl⟩, _, _, rfl, rfl, _, rfl, ite2 (fun c => iteT (none_of fun z => ?_)) (fun c1 => ?_)⟩
    · have c' := of_decide_eq_true c
      have := List.length_pos_iff.mpr z.1.figs.2.1
      omega
    refine ⟨_, rfl, _, g.length, rfl, ⟨glz, rfl⟩, _, _, rfl, rfl, _, rfl, ite2 (fun c => none_of fun z => ?_) (fun c2 => ?_)⟩
    · have c' := of_decide_eq_true c
      have := z.1.len
      omega
    have l1 : 1 ≤ g.length := by
      have : ¬ ((g.length : Nat) : Int) < 1 := fun z => c1 (decide_eq_true z)
      omega
    have l7 : g.length ≤ 7 := by
      have : ¬ (7 : Int) < ((g.length : Nat) : Int) := fun z => c2 (decide_eq_true z)
      omega
    refine ⟨_, rfl, g, rfl, for_str (x := g) (fun i σ H2 => H2 = H ∧ (∃ o : Option V, σ = [some (.str x), some (.str g), o]) ∧ ∀ (j : Nat) c, j < i → g.cps[j]? = some c → 48 ≤ c ∧ c ≤ 57) ⟨rfl, ⟨none, rfl⟩, fun j c hj => absurd hj (Nat.not_lt_zero j)⟩ ?_ ?_⟩
    · rintro i c σ H2 hc ⟨rfl, ⟨o, rfl⟩, hd⟩
      have fo := StrLaws.found_one (Str.ofString "0123456789") c
      have el : (Str.ofString "0123456789").cps.toList = [48, 49, 50, 51, 52, 53, 54, 55, 56, 57] := by decide +kernel
      rw [el] at fo
      refine ⟨_, rfl, _, _, rfl, rfl, _, rfl, ?_⟩
      rw [fo]
      by_cases cd : 48 ≤ c ∧ c ≤ 57
      · have m : c ∈ [48, 49, 50, 51, 52, 53, 54, 55, 56, 57] := by simp only [List.mem_cons, List.not_mem_nil, or_false]; omega
        refine iteNS m ⟨rfl, ⟨_, rfl⟩, fun j d hj ed => ?_⟩
        by_cases e : j = i
        · subst e; rw [hc] at ed; cases ed; exact cd
        · exact hd j d (by omega) ed
      · have m : c ∉ [48, 49, 50, 51, 52, 53, 54, 55, 56, 57] := fun z => cd (by simp only [List.mem_cons, List.not_mem_nil, or_false] at z; omega)
        rw [decide_eq_false m]
        refine iteT (none_of fun z => cd (z.1.figs.1 c ?_))
        rw [← Array.getElem?_toList] at hc
        exact List.mem_of_getElem? hc
    rintro σ H2 ⟨rfl, ⟨o, rfl⟩, hd⟩
    have all : AllDigits g.cps.toList := fun c hc => by
      obtain ⟨j, hj, e⟩ := List.getElem_of_mem hc
      have hj' : j < g.cps.size := by simpa using hj
      refine hd j c hj' ?_
      rw [← Array.getElem?_toList, List.getElem?_eq_getElem hj, e]
    obtain ⟨d, r, eg⟩ : ∃ d r, g.cps.toList = d :: r := by
      cases hh : g.cps.toList with
      | nil => rw [hh] at hgl; simp at hgl; omega
      | cons d r => exact ⟨d, r, rfl⟩
    have ne : g.cps.toList ≠ [] := by rw [eg]; simp
    -- the last test and the end
    have figs : (g.cps.toList.head? = some 48 → x = ⟨#[48]⟩) → Ma.Figs g.cps.toList := fun h => ⟨all, ne, by
      by_cases c : g.cps.toList.head? = some 48
      · exact .inl (x0 (h c))
      · exact .inr c⟩
    have it : PySem.intText? g = some ((digitsVal g.cps.toList : Nat) : Int) := intText_digits all ne (by omega)
    have dn : ¬ (((digitsVal g.cps.toList : Nat) : Int) < 0) := by omega
    refine ⟨_, rfl, g, 0, d, rfl, rfl, glz, atI_nat (j := 0) (by rw [eg]; rfl), rfl, _, rfl, ite2 (fun c => ?_) (fun c => ?_)⟩
    · have cd : d = 48 := by
        have := of_decide_eq_true c
        rw [e0] at this
        have := V.str.inj this
        injection this with this
        have := congrArg Array.toList this
        simpa using this
      refine ⟨_, rfl, rfl, _, rfl, ?_⟩
      by_cases cx : x = ⟨#[48]⟩
      · refine iteNS (by rw [e0, cx]) ?_
        have imp : g.cps.toList.head? = some 48 → x = ⟨#[48]⟩ := fun _ => cx
        refine ⟨_, rfl, g, _, rfl, it, by omega, _, rfl, _, _, rfl, rfl, _, rfl, ite2 (fun c3 => none_of fun z => ?_) (fun c3 => ?_)⟩
        · have c4 := of_decide_eq_true c3
          rw [if_neg dn] at c4
          have := z.1.val
          omega
        · refine ⟨_, rfl, x, v, rfl, hint all ne, by omega, qi v ((hiff v).mpr ⟨⟨⟨figs imp, by omega, ?_⟩, imp⟩, rfl⟩)⟩
          have c4 : ¬ (1000000 : Int) < (if ((digitsVal g.cps.toList : Nat) : Int) < 0 then -((digitsVal g.cps.toList : Nat) : Int) else ((digitsVal g.cps.toList : Nat) : Int)) := fun z => c3 (decide_eq_true z)
          rw [if_neg dn] at c4
          omega
      · refine iteNT (fun z => cx (by rw [e0] at z; exact V.str.inj z)) (iteT (none_of fun z => cx (z.2 (by rw [eg, cd]; rfl))))
    · have cd : d ≠ 48 := fun z => c (decide_eq_true (by rw [e0, z]))
      have imp : g.cps.toList.head? = some 48 → x = ⟨#[48]⟩ := fun z => by
        rw [eg] at z
        exact absurd (Option.some.inj z) cd
      refine iteF ?_
      refine ⟨_, rfl, g, _, rfl, it, by omega, _, rfl, _, _, rfl, rfl, _, rfl, ite2 (fun c3 => none_of fun z => ?_) (fun c3 => ?_)⟩
      · have c4 := of_decide_eq_true c3
        rw [if_neg dn] at c4
        have := z.1.val
        omega
      · refine ⟨_, rfl, x, v, rfl, hint all ne, by omega, qi v ((hiff v).mpr ⟨⟨⟨figs imp, by omega, ?_⟩, imp⟩, rfl⟩)⟩
        have c4 : ¬ (1000000 : Int) < (if ((digitsVal g.cps.toList : Nat) : Int) < 0 then -((digitsVal g.cps.toList : Nat) : Int) else ((digitsVal g.cps.toList : Nat) : Int)) := fun z => c3 (decide_eq_true z)
        rw [if_neg dn] at c4
        omega
  obtain ⟨tT, hT, rT⟩ := tail
  refine ⟨_, (pss_cons (sset 1 nd (pv 0))
      (pss_cons (ps_if (cmp op_eq (pe_slice sl_str (pv 0) po_none (po_some pe_int)) pe_str) (pss_one (sset 1 nd (pe_slice sl_str (pv 0) (po_some pe_int) po_none))) pss_nil) hT)), ?_⟩
  have xlz : x.length ≤ sizeLine := Nat.le_trans xl (by decide)
  have hxl : x.cps.toList.length = x.length := by show x.cps.toList.length = x.cps.size; simp
  have em : Str.ofString "-" = ⟨#[45]⟩ := by decide +kernel
  refine ⟨_, rfl, ?_⟩
  refine ⟨_, rfl, 1, rfl, x, 0, min 1 x.length, rfl, xlz, slAb_to 1 _, rfl, _, rfl, ?_⟩
  rcases Ma.sgn x with ⟨cs, ex, e1, e2⟩ | ⟨h1, h2⟩
  · refine iteDT (by rw [e1, em]) ?_
    refine ⟨_, rfl, 1, rfl, x, min 1 x.length, x.length, rfl, xlz, slAb_from 1 _, ?_⟩
    have nx : x ≠ ⟨#[48]⟩ := fun z => by rw [z] at ex; injection ex with ex; cases ex
    have xl2 : x.length = cs.length + 1 := by rw [← hxl, ex]; rfl
    have gl2 : (cutS x (min 1 x.length) x.length).length = cs.length := by
      rw [← e2]; show (cutS x (min 1 x.length) x.length).cps.size = _; simp
    refine rT (cutS x (min 1 x.length) x.length) (-((digitsVal cs : Nat) : Int)) (fun n => ?_) (fun a b => ?_) (by omega) (by omega) (fun z => absurd z nx)
    · rw [Ma.num_neg ex n, e2]
      refine and_congr_left fun _ => ⟨fun ⟨o, h0⟩ => ⟨o, fun z => ?_⟩, fun ⟨o, h0⟩ => ⟨o, fun z => nx (h0 (by rw [z]; rfl))⟩⟩
      rcases o.figs.2.2 with f | f
      · exact absurd f h0
      · exact absurd z f
    · rw [e2] at a b
      exact intText_neg ex a b (by omega)
  · refine iteD (fun z => h2 (by rw [em] at z; exact V.str.inj z)) ?_
    refine rT x ((digitsVal x.cps.toList : Nat) : Int) (fun n => ?_) (fun a b => intText_digits a b (by omega)) xl (by omega) (fun z => by rw [z])
    rw [Ma.num_pos h1 n]
    refine and_congr_left fun _ => ⟨fun o => ⟨o, fun z => ?_⟩, fun h => h.1⟩
    rcases o.figs.2.2 with f | f
    · exact str_ext (by rw [f])
    · exact absurd z f
end
end Tw

namespace Tw
open PySem L2 L3
/-- the four error classes of the text -/
structure Errs (K : PySem.W.Frag) (mg : Str → Option Value) (cL cS cP cT : Addr) : Prop where
  tk : Takes K mg "LineError" cL
  zS : ExcC K mg "SamePoint" cS
  zP : ExcC K mg "BadPoints" cP
  zT : ExcC K mg "BadText" cT
  sS : PySem.W.mroIn K cS (.ref cL) = some true
  sP : PySem.W.mroIn K cP (.ref cL) = some true
  sT : PySem.W.mroIn K cT (.ref cL) = some true
  fS : ExcK K cS
  fP : ExcK K cP
  fT : ExcK K cT
  kSP : PySem.W.kitOne K (.ref cS) (.ref cP) = some false
  kST : PySem.W.kitOne K (.ref cS) (.ref cT) = some false
  kPS : PySem.W.kitOne K (.ref cP) (.ref cS) = some false
  kPT : PySem.W.kitOne K (.ref cP) (.ref cT) = some false
  kTS : PySem.W.kitOne K (.ref cT) (.ref cS) = some false
  kTP : PySem.W.kitOne K (.ref cT) (.ref cP) = some false
  vS : PySem.W.kitOne K (.ref cS) (.type "ValueError") = some true
  vP : PySem.W.kitOne K (.ref cP) (.type "ValueError") = some true
  vT : PySem.W.kitOne K (.ref cT) (.type "ValueError") = some true
theorem kit_self (K : PySem.W.Frag) (C : Addr) : PySem.W.kitOne K (.ref C) (.ref C) = some true := by
  unfold PySem.W.kitOne
  rw [if_pos (beq_self_eq_true _)]
/-- what isinstance says of an error of the class C -/
structure MarkOf (K : PySem.W.Frag) (cS cP cT C : Addr) (b1 b2 b3 : Bool) : Prop where
  f : ExcK K C
  k1 : PySem.W.kitOne K (.ref C) (.ref cS) = some b1
  k2 : PySem.W.kitOne K (.ref C) (.ref cP) = some b2
  k3 : PySem.W.kitOne K (.ref C) (.ref cT) = some b3
  kv : PySem.W.kitOne K (.ref C) (.type "ValueError") = some true
section
variable {P : Program} {w : World} {K : PySem.W.Frag} {mg : Str → Option Value} {base : Heap} {cL cS cP cT : Addr}
theorem Errs.mT (e : Errs K mg cL cS cP cT) : MarkOf K cS cP cT cT false false true := ⟨e.fT, e.kTS, e.kTP, kit_self K cT, e.vT⟩
def marks (b1 b2 b3 : Bool) : PyData := .list [.bool b1, .bool b2, .bool b3, .bool false]
def spMarks (K : PySem.W.Frag) (cS cP cT : Addr) : Sp := fun vs H Q _ => ∃ (a C : Addr) (b1 b2 b3 : Bool), vs = [.ref a] ∧ H a = some (excO a C) ∧ MarkOf K cS cP cT C b1 b2 b3 ∧ ∀ r H', Same H H' → Den K H' (marks b1 b2 b3) (.ref r) → Q (.ref r) H'
theorem sc_l_marks_of : FnScope ["e", "marks"] ["e"] (defScope t_marks_of) := ⟨rfl, rfl, rfl, by decide +kernel, rfl, by decide +kernel, by decide +kernel⟩
theorem c_marks_of (S : Src K mg "_law_marks_of" t_marks_of) (e : Errs K mg cL cS cP cT) (m_isi : mg "isinstance" = none) (m_verr : mg "ValueError" = none) : CalC P w K mg base 1 "_law_marks_of" ["e"] (spMarks K cS cP cT) := by
  refine S.calC (fun f fd F => okC F sc_l_marks_of (fun vs H Q E h => ?_) (fun cdv A outer s H vs Q E hr h => ?_)) (fun _ _ _ _ _ _ us hl => match us, hl with | [_], _ => rfl)
  · obtain ⟨a, C, b1, b2, b3, rfl, _⟩ := h
    rfl
  obtain ⟨a, C, b1, b2, b3, rfl, ha, M, q⟩ := h
  have nd := sc_l_marks_of.nd
  have hS := e.zS.nm
  have hP := e.zP.nm
  have hT := e.zT.nm
  refine ⟨_, (pss_cons (sset 1 nd (pe_lst (a3 (callB b_isi call_isiE m_isi (a2 (pv 0) (pe_cls hS))) (callB b_isi call_isiE m_isi (a2 (pv 0) (pe_cls hP))) (callB b_isi call_isiE m_isi (a2 (pv 0) (pe_cls hT))))))
      (pss_one (ps_ret (pe_op op_cat (pv 1) (pe_lst (a1 (pe_not (callB b_isi call_isiE m_isi (a2 (pv 0) (pe_ty b_verr m_verr)))))))))), ?_⟩
  refine ⟨_, rfl, a, C, _, _, b1, rfl, relv_ref, ha, M.f, M.k1, ?_⟩
  refine ⟨_, rfl, a, C, _, _, b2, rfl, relv_ref, ha, M.f, M.k2, ?_⟩
  refine ⟨_, rfl, a, C, _, _, b3, rfl, relv_ref, ha, M.f, M.k3, (by show 3 ≤ sizeLine; decide), fun l1 f1 => ?_⟩
  have ha1 := same_new f1 (.lst [.bl b1, .bl b2, .bl b3]) _ _ ha
  refine ⟨_, rfl, _, rfl, a, C, _, _, true, rfl, relv_ty, ha1, M.f, M.kv, true, rfl, (by show 1 ≤ sizeLine; decide), fun l2 f2 => ?_⟩
  have n12 : l1 ≠ l2 := fun z => by rw [← z, upd_same] at f2; cases f2
  refine ⟨l1, l2, _, _, rfl, rfl, (by rw [upd_ne n12]; exact upd_same), upd_same, (by show 4 ≤ sizeLine; decide), fun r f3 => ?_⟩
  exact q r _ ((same_new f1 _).trans ((same_new f2 _).trans (same_new f3 _))) (den_lst (SqL.of upd_same) (Dens.cons den_bl (Dens.cons den_bl (Dens.cons den_bl (Dens.cons den_bl Dens.nil)))))
end
end Tw

namespace Ma
open PySem L2 L3
/-- what a part of a word is read as -/
def NumV (w : Str) (v : V) : Prop := (∃ n, NumW w n ∧ v = .int n) ∨ ((∀ n, ¬ NumW w n) ∧ v = .non)
theorem numT_W {n : Int} (h : -1000000 ≤ n ∧ n ≤ 1000000) : NumW (numT n) n := ⟨rfl, h.1, h.2⟩
/-- a word of a text that points write -/
theorem good_word {x : Str} {qs : List Pt} (h : Writes x qs) {ws : List Str} (e : ws = qs.map ptT) {i : Nat} {w : Str} (ew : ws[i]? = some w) : ∃ p, w = ptT p ∧ InB p := by
  rw [e, List.getElem?_map] at ew
  cases eq : qs[i]? with
  | none => rw [eq] at ew; cases ew
  | some p =>
    rw [eq] at ew
    exact ⟨p, (Option.some.inj ew).symm, h.1.good.inb p (List.mem_of_getElem? eq)⟩
end Ma
namespace Tw
open PySem L2 L3
def spDue (K : PySem.W.Frag) : Sp := fun vs H Q _ => ∃ x : Str, vs = [.str x] ∧ x.length ≤ 1000 ∧ (∀ ps, Ma.Writes x ps → ∀ r H', Same H H' → PtsAt K H' r ps → Q (.ref r) H') ∧ ((¬ ∃ ps, Ma.Writes x ps) → ∀ H', Same H H' → Q .non H')
section
variable {P : Program} {w : World} {K : PySem.W.Frag} {mg : Str → Option Value} {base : Heap}
theorem sc_l_due : FnScope ["text", "points", "word", "numbers"] ["text"] (defScope t_due) := ⟨rfl, rfl, rfl, by decide +kernel, rfl, by decide +kernel, by decide +kernel⟩
theorem c_due (S : Src K mg "_law_due" t_due) (m_len : mg "len" = none) (m_set : mg "set" = none) (k_number : Cal P w K mg base 1 "_law_number" ["word"] spNumber) : Cal P w K mg base 2 "_law_due" ["text"] (spDue K) := by
  refine S.cal (fun f fd F => okN F sc_l_due (fun vs H Q E h => ?_) (fun cdv A outer s H vs Q E hr h => ?_)) (fun _ _ _ _ _ _ us hl => match us, hl with | [_], _ => rfl)
  · obtain ⟨x, rfl, _⟩ := h
    rfl
  obtain ⟨x, rfl, xl, q, qn⟩ := h
  have nd := sc_l_due.nd
  have hu : (A.deeper (PyProof.Rows.envOfC "_law_due" (defScope t_due) s.heap.objs.size f cdv)).units + 40 < cLine := by have := hr.units; omega
  have ec : Str.ofString " " = ⟨#[32]⟩ := by decide +kernel
  have ek : Str.ofString "," = ⟨#[44]⟩ := by decide +kernel
  refine ⟨_, (pss_cons (sset 1 nd (pe_lst pa_nil))
      (pss_cons (ps_for PassesOwn.never rfl (pi_list (pe_bm PySem.F.plainAttrs_str PySem.F.slot_str_split PySem.F.type_str_split mt_split (pv 0) (a1 pe_str))) (pg_name (i := 2) nd rfl (by first | exact Or.inl rfl | exact Or.inr rfl)) (pss_cons (ps_lc (tc := tYes) (i := 3) rfl (compS_mk (tgs := ["part"]) (caps := []) rfl rfl rfl rfl trivial rfl rfl) nd rfl rfl (pi_list (pe_bm PySem.F.plainAttrs_str PySem.F.slot_str_split PySem.F.type_str_split mt_split (pv 2) (a1 pe_str))) (fun _ _ _ _ => (pg_name (i := 0) (show (["part"] : List Str).Nodup by decide +kernel) rfl (Or.inl rfl))) (Or.inl ⟨rfl, rfl⟩) (fun _ _ _ _ => (pe_c k_number hr (a1 (pv 0)))))
      (pss_cons (ps_if (PW.pt (pw_or (cmp op_ne (callB b_len call_len_seq m_len (a1 (pv 3))) pe_int) (pw_or (cmp op_isN (ixL (pv 3) pe_int) pe_non) (pw_or1 (cmp op_isN (ixL (pv 3) pe_int) pe_non))))) (pss_one (ps_ret pe_non)) pss_nil)
      (pss_one (ps_expr (pe_bm PySem.F.plainAttrs_list PySem.F.slot_list_append PySem.F.type_list_append mt_append (pv 1) (a1 (pe_tup (a2 (ixL (pv 3) pe_int) (ixL (pv 3) pe_int))))))))))
      (pss_cons (ps_if (PW.pt (pw_or (cmp op_lt (callB b_len call_len_seq m_len (a1 (pv 1))) pe_int) (pw_or (cmp op_gt (callB b_len call_len_seq m_len (a1 (pv 1))) pe_int) (pw_or1 (cmp op_lt (callB b_len call_lenSet m_len (a1 (callT b_set (call_setT rfl hu) m_set (a1 (pv 1))))) (callB b_len call_len_seq m_len (a1 (pv 1)))))))) (pss_one (ps_ret pe_non)) pss_nil)
      (pss_one (ps_ret (pv 1)))))), ?_⟩
  refine ⟨(by show 0 ≤ sizeLine; decide), fun pl fpl => ?_⟩
  have s0 := same_new fpl (.lst [])
  have hpl0 : (upd H pl (.lst [])) pl = some (.lst []) := upd_same
  generalize upd H pl (.lst []) = H0 at s0 hpl0 ⊢
  have wl := split_len x xl
  have wj := Ma.join_words x
  have ww : ∀ {ps}, Ma.Writes x ps → Txt.split x ⟨#[32]⟩ = ps.map Ma.ptT := fun h => Ma.writes_words h
  refine ⟨_, rfl, rfl, x, 32, rfl, by rw [ec], xl, fun l fl => ?_⟩
  generalize Txt.split x ⟨#[32]⟩ = ws at wl wj ww ⊢
  have s1 := same_new fl (.lst (ws.map V.str))
  have hl1 : (upd H0 l (.lst (ws.map V.str))) l = some (.lst (ws.map V.str)) := upd_same
  have hpl1 := s1 _ _ hpl0
  have nl : l ≠ pl := (ne_of_none hpl0 fl).symm
  generalize upd H0 l (.lst (ws.map V.str)) = H1 at s1 hl1 hpl1 ⊢
  have xlw : (ws.map V.str).length = ws.length := by rw [List.length_map]
  have wle : ∀ t ∈ ws, t.length ≤ 1000 := fun t ht => by
    have e : x.length = (ws.map (·.length)).sum + (ws.length - 1) * (⟨#[32]⟩ : Str).length := by
      rw [← wj, ← StrLaws.glued_eq_join, size_glued]
    have : t.length ≤ (ws.map (·.length)).sum := Ma.le_sum ht
    omega
  refine ⟨l, rfl, ⟨_, SqL.of hl1⟩, for_list (K := K) (a := l) (xs := ws.map V.str) (fun i σ H2 => ∃ (o2 o3 : Option V) (ps : List Ma.Pt) (ys : List V), σ = [some (.str x), some (.ref pl), o2, o3] ∧ (∀ b ob, b ≠ pl → H1 b = some ob → H2 b = some ob) ∧ H2 pl = some (.lst ys) ∧ Dens K H2 (ps.map Ma.pt) ys ∧ ws.take i = ps.map Ma.ptT ∧ (∀ p ∈ ps, Ma.InB p) ∧ ys.length ≤ i)
    ⟨none, none, [], [], rfl, fun b ob _ e => e, hpl1, Dens.nil, rfl, (fun _ z => (nomatch z)), Nat.le_refl _⟩ ?_ ?_ ?_⟩
  · rintro i σ H2 _ ⟨o2, o3, ps, ys, _, kp, _⟩
    exact SqL.of (kp l _ nl hl1)
  · rintro i v σ H2 hv ⟨o2, o3, ps, ys, rfl, kp, hpl2, hd2, hw, hib, hy⟩
    have hi : i < ws.length := by rw [← xlw]; exact (List.getElem?_eq_some_iff.mp hv).1
    have ep : ws[i]? = some ws[i] := List.getElem?_eq_getElem hi
    rw [List.getElem?_map, ep] at hv
    obtain rfl : V.str ws[i] = v := Option.some.inj hv
    have wi := wle _ (List.getElem_mem hi)
    have gw : ∀ {qs}, Ma.Writes x qs → ∃ p, ws[i] = Ma.ptT p ∧ Ma.InB p := fun {qs} h => Ma.good_word h (ww h) ep
    generalize ws[i] = wd at ep wi gw ⊢
    have sH2 : Same H H2 := fun b ob e => kp b ob (ne_of_none e fpl) (s1 _ _ (s0 _ _ e))
    refine ⟨_, rfl, rfl, wd, 44, rfl, by rw [ek], wi, fun l2 fl2 => ?_⟩
    have sp2 : ∀ {p}, wd = Ma.ptT p → Txt.split wd ⟨#[44]⟩ = [Ma.numT p.1, Ma.numT p.2] := fun e => by rw [e, Ma.ptT_split]
    have jp2 := StrLaws.join_split wd ⟨#[44]⟩
    have pl2 : (Txt.split wd ⟨#[44]⟩).length ≤ 1002 := by
      have := PyProof.Rows.split_le wd ⟨#[44]⟩
      omega
    generalize Txt.split wd ⟨#[44]⟩ = pts at sp2 jp2 pl2 ⊢
    have s3 := same_new fl2 (.lst (pts.map V.str))
    have hl3 : (upd H2 l2 (.lst (pts.map V.str))) l2 = some (.lst (pts.map V.str)) := upd_same
    have hpl3 := s3 _ _ hpl2
    generalize upd H2 l2 (.lst (pts.map V.str)) = H3 at s3 hl3 hpl3 ⊢
    have ptl : ∀ t ∈ pts, t.length ≤ 1000 := fun t ht => by
      have e : wd.length = (pts.map (·.length)).sum + (pts.length - 1) * (⟨#[44]⟩ : Str).length := by
        rw [← jp2, ← StrLaws.glued_eq_join, size_glued]
      have : t.length ≤ (pts.map (·.length)).sum := Ma.le_sum ht
      omega
    have xlp : (pts.map V.str).length = pts.length := by rw [List.length_map]
    refine ⟨l2, rfl, ⟨_, SqL.of hl3⟩, comp_list (K := K) (a := l2) (xs := pts.map V.str) (fun m zs σ' H8 => H8 = H3 ∧ (∃ o', σ' = [o']) ∧ zs.length = m ∧ ∀ (j : Nat) v, zs[j]? = some v → ∃ t, pts[j]? = some t ∧ Ma.NumV t v) ⟨rfl, ⟨none, rfl⟩, rfl, fun j v e => by simp at e⟩ ?_ ?_ ?_ ?_⟩
    · rw [xlp]; exact Nat.le_trans pl2 (by decide)
    · rintro m zs σ' H8 _ ⟨rfl, _, hz, _⟩
      exact ⟨SqL.of hl3, by omega⟩
    · rintro m v zs σ' H8 hv ⟨rfl, ⟨o', rfl⟩, hz, hN⟩
      refine yesT ?_
      have hm : m < pts.length := by rw [← xlp]; exact (List.getElem?_eq_some_iff.mp hv).1
      have em : pts[m]? = some pts[m] := List.getElem?_eq_getElem hm
      rw [List.getElem?_map, em] at hv
      obtain rfl : V.str pts[m] = v := Option.some.inj hv
      have nx : ∀ v, Ma.NumV pts[m] v → (zs ++ [v]).length = m + 1 ∧ ∀ (j : Nat) u, (zs ++ [v])[j]? = some u → ∃ t, pts[j]? = some t ∧ Ma.NumV t u := fun v hnv => by
        refine ⟨by rw [List.length_append, hz]; rfl, fun j u e => ?_⟩
        by_cases c : j < zs.length
        · rw [List.getElem?_append_left c] at e
          exact hN j u e
        · rw [List.getElem?_append_right (by omega)] at e
          have : j - zs.length = 0 := by
            have := (List.getElem?_eq_some_iff.mp e).1
            simp at this; omega
          rw [this] at e
          obtain rfl : v = u := Option.some.inj e
          have : j = m := by omega
          subst this
          exact ⟨_, em, hnv⟩
      refine ⟨_, rfl, _, rfl, ptl _ (List.getElem_mem hm), fun n hn => ?_, fun hn => ?_⟩
      · exact ⟨rfl, ⟨_, rfl⟩, nx _ (.inl ⟨n, hn, rfl⟩)⟩
      · exact ⟨rfl, ⟨_, rfl⟩, nx _ (.inr ⟨hn, rfl⟩)⟩
    · rintro zs σ' H8 ⟨rfl, ⟨o', rfl⟩, hz, hN⟩ nlA fnl
      rw [xlp] at hz
      have s4 := same_new fnl (.lst zs)
      have hnl : (upd H8 nlA (.lst zs)) nlA = some (.lst zs) := upd_same
      have hpl4 := s4 _ _ hpl3
      generalize upd H8 nlA (.lst zs) = H4 at s4 hnl hpl4 ⊢
      have s24 := s3.trans s4
      have sH4 : Same H H4 := sH2.trans s24
      refine ⟨_, rfl, nlA, zs, rfl, .inl (SqL.of hnl), rfl, _, rfl, ?_⟩
      by_cases c : pts.length = 2
      · obtain ⟨t0, t1, rfl⟩ : ∃ t0 t1, pts = [t0, t1] := by
          match pts, c with
          | [a, b], _ => exact ⟨a, b, rfl⟩
        obtain ⟨v0, v1, rfl⟩ : ∃ v0 v1, zs = [v0, v1] := by
          match zs, hz with
          | [a, b], _ => exact ⟨a, b, rfl⟩
        obtain ⟨_, e0, n0⟩ := hN 0 v0 rfl
        cases e0
        obtain ⟨_, e1, n1⟩ := hN 1 v1 rfl
        cases e1
        have bad : (∀ n, ¬ Ma.NumW t0 n) ∨ (∀ n, ¬ Ma.NumW t1 n) → ¬ ∃ ps, Ma.Writes x ps := fun z ⟨qs, hq⟩ => by
          obtain ⟨p, e, ib⟩ := gw hq
          have := sp2 e
          injection this with a1 this
          injection this with a2 _
          rcases z with z | z
          · exact z p.1 (a1 ▸ Ma.numT_W ⟨ib.1, ib.2.1⟩)
          · exact z p.2 (a2 ▸ Ma.numT_W ⟨ib.2.2.1, ib.2.2.2⟩)
        refine iteNS rfl ?_
        refine ⟨_, rfl, nlA, _, 0, v0, rfl, rfl, SqL.of hnl, rfl, rfl, _, rfl, ?_⟩
        rcases n0 with ⟨n, hn, rfl⟩ | ⟨hn, rfl⟩
        · refine iteD (fun z => by cases z) ?_
          refine ⟨_, rfl, nlA, _, 1, v1, rfl, rfl, SqL.of hnl, rfl, rfl, _, rfl, ?_⟩
          rcases n1 with ⟨m, hm, rfl⟩ | ⟨hm, rfl⟩
          · refine iteD (fun z => by cases z) ?_
            refine ⟨_, rfl, .inl ⟨rfl, _, SqL.of hpl4⟩, _, rfl, nlA, _, 0, _, rfl, rfl, SqL.of hnl, rfl, _, rfl, nlA, _, 1, _, rfl, rfl, SqL.of hnl, rfl, (by show 2 ≤ sizeLine; decide), fun tp ftp => ?_⟩
            have s5 := same_new ftp (.tup [.int n, .int m])
            have htp : (upd H4 tp (.tup [.int n, .int m])) tp = some (.tup [.int n, .int m]) := upd_same
            have hpl5 := s5 _ _ hpl4
            generalize upd H4 tp (.tup [.int n, .int m]) = H5 at s5 htp hpl5 ⊢
            have s25 := s24.trans s5
            refine ⟨pl, ys, _, rfl, rfl, hpl5, Nat.lt_of_le_of_lt (show ys.length ≤ 1002 by omega) (by decide), ?_⟩
            refine ⟨_, _, ps ++ [(n, m)], ys ++ [.ref tp], rfl, fun b ob nb e => ?_, upd_same, ?_, ?_, fun p hp => ?_, by rw [List.length_append]; exact Nat.succ_le_succ hy⟩
            · rw [upd_ne nb]; exact s25 b ob (kp b ob nb e)
            · rw [List.map_append]
              refine Dens.append (Dens.upd hpl5 _ _ (Ma.nols_pts ps) (Dens.same s25 _ _ hd2)) (Dens.cons (Den.upd hpl5 _ _ (Ma.nol_pt _) ?_) Dens.nil)
              exact den_tup (SqT.of htp) (Dens.cons den_int (Dens.cons den_int Dens.nil))
            · rw [List.take_succ, ep, hw, List.map_append]
              have : wd = Ma.ptT (n, m) := by
                rw [← jp2, hn.1, hm.1, Ma.ptT_join]
              rw [this]; rfl
            · rcases List.mem_append.mp hp with y | y
              · exact hib p y
              · rw [List.mem_singleton.mp y]
                exact ⟨hn.2.1, hn.2.2, hm.2.1, hm.2.2⟩
          · exact iteDT rfl (qn (bad (.inr hm)) H4 sH4)
        · exact iteDT rfl (iteT (qn (bad (.inl hn)) H4 sH4))
      · have e2 : decide (V.int (zs.length : Int) = V.int 2) = false := decide_eq_false fun z => c (by have := V.int.inj z; omega)
        rw [e2]
        refine iteT (iteT (qn (fun ⟨qs, hq⟩ => c ?_) H4 sH4))
        obtain ⟨p, e, ib⟩ := gw hq
        rw [sp2 e]; rfl
  · rintro σ H2 ⟨o2, o3, ps, ys, rfl, kp, hpl2, hd2, hw, hib, hy⟩
    rw [xlw, List.take_length] at hw
    have sH2 : Same H H2 := fun b ob e => kp b ob (ne_of_none e fpl) (s1 _ _ (s0 _ _ e))
    have xt : x = Ma.txt ps := by
      rw [← wj, hw]
      unfold Ma.txt
      rw [ec]
    have yl : ys.length = ps.length := by have := Dens.length hd2; rw [List.length_map] at this; exact this
    have same : ∀ {qs}, Ma.Writes x qs → PsOk ps := fun {qs} h => by
      have e := ww h
      rw [hw] at e
      have : ps = qs := Ma.ptT_inj7 (fun p hp => Ma.inB_seven (hib p hp)) (fun p hp => Ma.inB_seven (h.1.good.inb p hp)) e
      rw [this]; exact h.1
    refine ⟨_, rfl, pl, ys, rfl, .inl (SqL.of hpl2), _, _, rfl, rfl, _, rfl, ite2 (fun c => iteT (qn (fun ⟨qs, hq⟩ => ?_) H2 sH2)) (fun c1 => ?_)⟩
    · have := (same hq).two
      have c' : (ys.length : Int) < 2 := of_decide_eq_true c
      omega
    refine ⟨_, rfl, pl, ys, rfl, .inl (SqL.of hpl2), _, _, rfl, rfl, _, rfl, ite2 (fun c => iteT (qn (fun ⟨qs, hq⟩ => ?_) H2 sH2)) (fun c2 => ?_)⟩
    · have := (same hq).len
      have c' : (ys.length : Int) > 20 := of_decide_eq_true c
      omega
    have l2 : ¬ ((ys.length : Int) < 2) := fun z => c1 (decide_eq_true z)
    have l20 : ¬ ((ys.length : Int) > 20) := fun z => c2 (decide_eq_true z)
    refine ⟨_, rfl, pl, ys, ps.map Ma.ptl, rfl, SqL.of hpl2, by rw [Ma.pt_ptl]; exact hd2, by rw [List.length_map]; omega, fun a fa => ?_⟩
    have dl := Tb.dd_len (ps.map Ma.ptl) []
    rw [List.length_map, List.length_nil, Nat.zero_add] at dl
    have s5 := same_new fa (SetN a (Tb.dd [] (ps.map Ma.ptl)).length)
    have ha : (upd H2 a (SetN a (Tb.dd [] (ps.map Ma.ptl)).length)) a = some (SetN a (Tb.dd [] (ps.map Ma.ptl)).length) := upd_same
    generalize upd H2 a (SetN a (Tb.dd [] (ps.map Ma.ptl)).length) = H5 at s5 ha ⊢
    refine ⟨a, _, rfl, ha, by omega, _, rfl, pl, ys, rfl, .inl (SqL.of (s5 _ _ hpl2)), _, _, rfl, rfl, _, rfl, ite2 (fun c => qn (fun ⟨qs, hq⟩ => ?_) H5 (sH2.trans s5)) (fun c3 => ?_)⟩
    · have c' := of_decide_eq_true c
      have := (Ma.dd_ps ps).mpr (same hq).good.nd
      omega
    · have c' : ¬ (((Tb.dd [] (ps.map Ma.ptl)).length : Int) < (ys.length : Int)) := fun z => c3 (decide_eq_true z)
      have nd2 : ps.Nodup := (Ma.dd_ps ps).mp (by omega)
      exact ⟨_, rfl, q ps ⟨⟨⟨nd2, hib⟩, by omega, by omega⟩, xt⟩ pl H5 (sH2.trans s5) ⟨ys, s5 _ _ hpl2, Dens.same s5 _ _ hd2⟩⟩
end
end Tw

namespace Tw
open PySem L2 L3
def spSign : Sp := fun vs H Q _ => ∃ c : Int, vs = [.int c] ∧ ∀ ch : Nat, Q (.str ⟨#[ch]⟩) H
theorem atI_getD {l : List Nat} {i : Int} (h0 : 0 ≤ i) (h1 : i.toNat < l.length) : atI l i = some (l.getD i.toNat 0) := by
  obtain ⟨j, rfl⟩ : ∃ j : Nat, i = (j : Int) := ⟨i.toNat, by omega⟩
  refine atI_nat ?_
  have e : ((j : Int)).toNat = j := by omega
  rw [e] at h1 ⊢
  rw [List.getD_eq_getElem?_getD, List.getElem?_eq_getElem h1]; rfl
section
variable {P : Program} {w : World} {K : PySem.W.Frag} {mg : Str → Option Value} {base : Heap}
theorem sc_l_sign_by : FnScope ["cell", "some"] ["cell"] (defScope t_sign_by) := ⟨rfl, rfl, rfl, by decide +kernel, rfl, by decide +kernel, by decide +kernel⟩
theorem c_sign_by (S : Src K mg "_law_sign_by" t_sign_by) : Cal P w K mg base 1 "_law_sign_by" ["cell"] spSign := by
  refine S.cal (fun f fd F => okN F sc_l_sign_by (fun vs H Q E h => ?_) (fun cdv A outer s H vs Q E hr h => ?_)) (fun _ _ _ _ _ _ us hl => match us, hl with | [_], _ => rfl)
  · obtain ⟨c, rfl, _⟩ := h
    rfl
  obtain ⟨c, rfl, q⟩ := h
  have nd := sc_l_sign_by.nd
  refine ⟨_, (pss_cons (sset 1 nd pe_str)
      (pss_cons (sset 1 nd (pe_op op_add_str (pv 1) pe_str))
      (pss_one (ps_ret (ixS (pv 1) (pe_op op_mod (pv 0) pe_int)))))), ?_⟩
  have c0 : 0 ≤ c % 94 := Int.emod_nonneg c (by decide)
  have c1 : (c % 94).toNat < 94 := by
    have := Int.emod_lt_of_pos c (show (0 : Int) < 94 by decide)
    omega
  refine ⟨_, rfl, _, _, rfl, rfl, ?_, ?_⟩
  · exact Nat.le_trans (show _ ≤ 94 by decide +kernel) (by decide)
  refine ⟨_, rfl, _, rfl, _, _, rfl, rfl, (by show (0 : Int) < 94; decide), _, _, _, rfl, rfl, ?_, atI_getD c0 (Nat.lt_of_lt_of_eq c1 (by decide +kernel)), q _⟩
  exact Nat.le_trans (show _ ≤ 94 by decide +kernel) (by decide)
end
end Tw

namespace Tw
open PySem L2 L3
/-- a written text is spoiled: some text comes -/
def spSpoilT : Sp := fun vs H Q _ => ∃ (ps : List Ma.Pt) (c : Int), vs = [.str (Ma.txt ps), .int c] ∧ PsOk ps ∧ 0 ≤ c ∧ ∀ z H', z.length ≤ 1000 → Same H H' → Q (.str z) H'
def Short (v : V) : Prop := ∃ t : Str, v = .str t ∧ t.length ≤ 20
theorem short_at {xs : List V} (h : ∀ v ∈ xs, Short v) {i : Int} (h0 : 0 ≤ i) (h1 : i < xs.length) : ∃ t : Str, atI xs i = some (.str t) ∧ t.length ≤ 20 := by
  obtain ⟨j, rfl⟩ : ∃ j : Nat, i = (j : Int) := ⟨i.toNat, by omega⟩
  have hj : j < xs.length := by omega
  obtain ⟨t, e, l⟩ := h _ (List.getElem_mem hj)
  exact ⟨t, atI_nat (by rw [List.getElem?_eq_getElem hj, e]), l⟩
theorem txt_len3 {ps : List Ma.Pt} (ok : PsOk ps) : (Ma.txt ps).length ≤ 400 := by
  have a := Ma.sum_le (ts := ps.map Ma.ptT) fun t ht => by
    obtain ⟨x, hx, rfl⟩ := List.mem_map.mp ht
    exact Ma.ptT_len (ok.good.inb x hx)
  rw [List.length_map] at a
  have z := ok.len
  unfold Ma.txt
  rw [← StrLaws.glued_eq_join, size_glued, List.length_map]
  have b : (Str.ofString " ").length = 1 := by decide +kernel
  rw [b]
  omega
theorem join_len {ts : List Str} (h : ∀ t ∈ ts, t.length ≤ 20) (n : ts.length ≤ 21) : (Str.join (Str.ofString " ") ts).length ≤ 1000 ∧ (ts.map (·.length)).sum + ts.length * (Str.ofString " ").length ≤ sizeLine := by
  have b : (Str.ofString " ").length = 1 := by decide +kernel
  have a : (ts.map (·.length)).sum ≤ 20 * ts.length := by
    clear n
    induction ts with
    | nil => simp
    | cons t ts ih =>
      have a1 := h t (by simp)
      have a2 := ih fun u hu => h u (List.mem_cons_of_mem _ hu)
      rw [List.map_cons, List.sum_cons, List.length_cons]
      omega
  have big : (1000 : Nat) ≤ sizeLine := by decide
  refine ⟨?_, by rw [b]; omega⟩
  rw [← StrLaws.glued_eq_join, size_glued, b]
  omega
theorem map_erase : ∀ (ts : List Str) (i : Nat), (ts.eraseIdx i).map V.str = (ts.map V.str).eraseIdx i
  | [], i => rfl
  | t :: ts, 0 => rfl
  | t :: ts, i + 1 => by
    show V.str t :: (ts.eraseIdx i).map V.str = V.str t :: (ts.map V.str).eraseIdx i
    rw [map_erase ts i]
theorem seqIndex_nat {i n : Nat} (h : i < n) : seqIndex? (i : Int) n = some i := by
  unfold seqIndex?
  simp only []
  split <;> simp_all <;> omega
theorem star_str {x : Str} {j : Nat} {p : Pos} {es : List Expr} {env : Env} : starEach (.Constant (.str x) j p :: es) env = (false, eval (.Constant (.str x) j p) env) :: starEach es env := rfl
/-- kept shut: what is not to be unfolded -/
structure PEo (X : Cx) (e : Expr) (t : TE) : Prop where
  h : PE X e t
structure PAo (X : Cx) (es : List Expr) (t : TA) : Prop where
  h : PA X es t
theorem nilO {X : Cx} : PAo X [] tNil := ⟨pa_nil⟩
theorem consO {X : Cx} {x : Str} {j : Nat} {p : Pos} {es : List Expr} {t : TA} (r : PAo X es t) : PAo X (.Constant (.str x) j p :: es) (tCons (tC (.str x)) t) := ⟨pa_cons pe_str r.h star_str⟩
theorem lstO {X : Cx} {es : List Expr} {t : TA} {pos : Pos} (r : PAo X es t) : PEo X (.List es pos) (tLst t) := ⟨pe_lst r.h⟩
theorem ssetO (i : Nat) {X : Cx} {x : Str} {e : Expr} {te : TE} {pos pos' : Pos} (hN : X.N.Nodup) (he : PEo X e te) (hi : X.N[i]? = some x := by rfl) (hx : Loc X.env.scope x := by first | exact Or.inl rfl | exact Or.inr rfl)
    (hs : swapsWith e (some (.Name x pos')) pos.line X.env = pure false := by rfl) (hf : X.fn x = true ∨ X.env.scope.names.lookup x = some .local := by first | exact .inl rfl | exact .inr rfl) : PS X (.Assign [.Name x pos'] e pos) (tAsg te (gName i)) := sset i hN he.h hi hx hs hf
theorem retO {X : Cx} {a b : Expr} {ta tb : TE} {p2 pos : Pos} (ha : PEo X a ta) (hb : PE X b tb) (hs : PlainIx b := by intro _ _; rfl) : PS X (.Return (some (.Subscript a b p2)) pos) (fun D σ H => tOp (rIxL X.K) ta tb σ H D.rt) := ps_ret (ixL ha.h hb hs)
theorem chr_len (c : Nat) : (⟨#[c]⟩ : Str).length = 1 := rfl
theorem pe_tri {X : Cx} {j1 j2 : Nat} {p1 p2 pos : Pos} : PE X (.BinOp (.Constant (.int 10) j1 p1) .Pow (.Constant (.int 12) j2 p2) pos) (tC (.int 1000000000000)) := by
  intro pins s σ H Q I h
  refine pe_op op_pow pe_int pe_int pins s σ H Q I ⟨10, 12, rfl, rfl, ⟨by decide, by decide, by decide⟩, ?_⟩
  exact h
section
variable {P : Program} {w : World} {K : PySem.W.Frag} {mg : Str → Option Value} {base : Heap}
theorem sc_l_spoiled : FnScope ["text", "cell", "place", "rest", "ahead", "way", "words", "at", "some"] ["text", "cell"] (defScope t_spoiled) := ⟨rfl, rfl, rfl, by decide +kernel, rfl, by decide +kernel, by decide +kernel⟩
theorem c_spoilt (S : Src K mg "_law_spoiled" t_spoiled) (m_len : mg "len" = none) (k_sign_by : Cal P w K mg base 1 "_law_sign_by" ["cell"] spSign) : Cal P w K mg base 2 "_law_spoiled" ["text", "cell"] spSpoilT := by
  refine S.cal (fun f fd F => okN F sc_l_spoiled (fun vs H Q E h => ?_) (fun cdv A outer s H vs Q E hr h => ?_)) (fun _ _ _ _ _ _ us hl => match us, hl with | [_, _], _ => rfl)
  · obtain ⟨ps, c, rfl, _⟩ := h
    rfl
  obtain ⟨ps, c, rfl, ok, hc, q⟩ := h
  have nd := sc_l_spoiled.nd
  have ec : Str.ofString " " = ⟨#[32]⟩ := by decide +kernel
  have z2 := ok.two
  have z20 := ok.len
  have tl := txt_len3 ok
  have ws : Txt.split (Ma.txt ps) ⟨#[32]⟩ = ps.map Ma.ptT := Ma.txt_split (by intro z; rw [z] at z2; simp at z2)
  generalize Ma.txt ps = x at tl ws ⊢
  have wsl : ∀ t ∈ ps.map Ma.ptT, t.length ≤ 20 := fun t ht => by
    obtain ⟨p, hp, rfl⟩ := List.mem_map.mp ht
    have := Ma.ptT_len (ok.good.inb p hp)
    omega
  have wn : (ps.map Ma.ptT).length = ps.length := List.length_map _
  generalize ps.map Ma.ptT = ts at ws wsl wn
  have xlz : x.length ≤ sizeLine := Nat.le_trans tl (by decide)
  have big : (1000 : Nat) ≤ sizeLine := by decide
  have cut : ∀ a b : Nat, a ≤ b → b ≤ x.length → (cutS x a b).length ≤ 400 := fun a b h1 h2 => by
    rw [cutS_len x h1 h2]; omega
  have L0 : ∀ {j0 j1 j2 j3 j4 j5 j6 j7 j8 j9 : Nat} {p0 p1 p2 p3 p4 p5 p6 p7 p8 p9 pos : Pos}, PEo ((cxOf (CXE P w) P w K mg base ["text", "cell", "place", "rest", "ahead", "way", "words", "at", "some"] "_law_spoiled" (defScope t_spoiled) f cdv A outer s H E).nox) (.List [.Constant (.str (Str.ofString "1000000,0")) j0 p0, .Constant (.str (Str.ofString "1000001,0")) j1 p1, .Constant (.str (Str.ofString "0,-1000000")) j2 p2, .Constant (.str (Str.ofString "0,-1000001")) j3 p3, .Constant (.str (Str.ofString "00,1")) j4 p4, .Constant (.str (Str.ofString "1,01")) j5 p5, .Constant (.str (Str.ofString "-0,1")) j6 p6, .Constant (.str (Str.ofString "1_0,2")) j7 p7, .Constant (.str (Str.ofString "+1,2")) j8 p8, .Constant (.str (Str.ofString "1,2,3")) j9 p9] pos) (tLst (tCons (tC (.str (Str.ofString "1000000,0"))) (tCons (tC (.str (Str.ofString "1000001,0"))) (tCons (tC (.str (Str.ofString "0,-1000000"))) (tCons (tC (.str (Str.ofString "0,-1000001"))) (tCons (tC (.str (Str.ofString "00,1"))) (tCons (tC (.str (Str.ofString "1,01"))) (tCons (tC (.str (Str.ofString "-0,1"))) (tCons (tC (.str (Str.ofString "1_0,2"))) (tCons (tC (.str (Str.ofString "+1,2"))) (tCons (tC (.str (Str.ofString "1,2,3"))) tNil))))))))))) := by
    intros
    refine lstO ?_
    repeat' (first | exact nilO | refine consO ?_)
  have L1 : ∀ {j0 j1 j2 j3 : Nat} {p0 p1 p2 p3 pos : Pos}, PE ((cxOf (CXE P w) P w K mg base ["text", "cell", "place", "rest", "ahead", "way", "words", "at", "some"] "_law_spoiled" (defScope t_spoiled) f cdv A outer s H E).nox) (.List [.Constant (.str (Str.ofString "")) j0 p0, .Constant (.str (Str.ofString "5")) j1 p1, .Constant (.str (Str.ofString "5,")) j2 p2, .Constant (.str (Str.ofString "88,-99")) j3 p3] pos) (tLst (tCons (tC (.str (Str.ofString ""))) (tCons (tC (.str (Str.ofString "5"))) (tCons (tC (.str (Str.ofString "5,"))) (tCons (tC (.str (Str.ofString "88,-99"))) tNil))))) := by
    intros
    refine pe_lst ?_
    repeat' (first | exact pa_nil | refine pa_cons pe_str ?_ star_str)
  have L2 : ∀ {j0 j1 j2 j3 j4 j5 j6 : Nat} {p0 p1 p2 p3 p4 p5 p6 pos : Pos}, PEo ((cxOf (CXE P w) P w K mg base ["text", "cell", "place", "rest", "ahead", "way", "words", "at", "some"] "_law_spoiled" (defScope t_spoiled) f cdv A outer s H E).nox) (.List [.Constant (.str (Str.ofString "")) j0 p0, .Constant (.str (Str.ofString " ")) j1 p1, .Constant (.str (Str.ofString "1,2")) j2 p2, .Constant (.str (Str.ofString "1,2 1,2")) j3 p3, .Constant (.str (Str.ofString "0,0 1,1")) j4 p4, .Constant (.str (Str.ofString "0,0  1,1")) j5 p5, .Constant (.str (Str.ofString ",, 1,1")) j6 p6] pos) (tLst (tCons (tC (.str (Str.ofString ""))) (tCons (tC (.str (Str.ofString " "))) (tCons (tC (.str (Str.ofString "1,2"))) (tCons (tC (.str (Str.ofString "1,2 1,2"))) (tCons (tC (.str (Str.ofString "0,0 1,1"))) (tCons (tC (.str (Str.ofString "0,0  1,1"))) (tCons (tC (.str (Str.ofString ",, 1,1"))) tNil)))))))) := by
    intros
    refine lstO ?_
    repeat' (first | exact nilO | refine consO ?_)
  -- what is behind the names
  have tail : ∃ t, PSs (cxOf (CXE P w) P w K mg base ["text", "cell", "place", "rest", "ahead", "way", "words", "at", "some"] "_law_spoiled" (defScope t_spoiled) f cdv A outer s H E).nox ((defBody t_spoiled).drop 8) t ∧
      ∀ (k : Nat) (rs way : Int) (ah : Str) (l l3 : Addr) (at_ : Nat) (cs : List V) (H6 : Hp), 0 ≤ rs → ah.length ≤ 400 → at_ < ts.length → Same H H6 → H l = none → H6 l = some (.lst (ts.map V.str)) → H6 l3 = some (.lst cs) → cs.length = 14 → (∀ v ∈ cs, Short v) →
        t { nx := fun _ H' => Q .non H', rt := Q } [some (.str x), some (.int c), some (.int (k : Int)), some (.int rs), some (.str ah), some (.int way), some (.ref l), some (.int (at_ : Int)), some (.ref l3)] H6 := by
    apply Exists.intro
    apply And.intro
    · exact (pss_cons (ps_if (cmp op_eq (pv 5) pe_int) (pss_one (ps_ret (pe_op op_add_str (pe_op op_add_str (pv 4) (pe_c k_sign_by hr (a1 (pv 3)))) (pe_slice sl_str (pv 0) (po_some (pv 2)) po_none)))) pss_nil)
      (pss_cons (ps_if (cmp op_eq (pv 5) pe_int) (pss_one (ps_ret (pe_op op_add_str (pe_op op_add_str (pv 4) (pe_c k_sign_by hr (a1 (pv 3)))) (pe_slice sl_str (pv 0) (po_some (pe_op op_add (pv 2) pe_int)) po_none)))) pss_nil)
      (pss_cons (ps_if (cmp op_eq (pv 5) pe_int) (pss_one (ps_ret (pe_op op_add_str (pe_op op_add_str (pv 4) pe_str) (pe_slice sl_str (pv 0) (po_some (pe_op op_add (pv 2) (pe_op op_mod (pv 3) pe_int))) po_none)))) pss_nil)
      (pss_cons (ps_if (cmp op_eq (pv 5) pe_int) (pss_one (ps_ret (pe_op op_add_str (pv 4) (pe_slice sl_str (pv 0) (po_some (pe_op op_add (pv 2) pe_int)) po_none)))) pss_nil)
      (pss_cons (ps_if (cmp op_eq (pv 5) pe_int) (pss_cons (ps_expr (pe_bm PySem.F.plainAttrs_list PySem.F.slot_list_insert PySem.F.type_list_insert mt_insert (pv 6) (a2 (pe_op op_mod (pe_op op_fdiv (pv 3) pe_int) (pe_op op_add (callB b_len call_len_seq m_len (a1 (pv 6))) pe_int)) (ixL (pv 8) (pe_op op_mod (pv 3) pe_int)))))
      (pss_one (ps_ret (pe_bm PySem.F.plainAttrs_str PySem.F.slot_str_join PySem.F.type_str_join mt_join pe_str (a1 (pv 6)))))) pss_nil)
      (pss_cons (ps_if (cmp op_eq (pv 5) pe_int) (pss_cons (ps_expr (pe_bm PySem.F.plainAttrs_list PySem.F.slot_list_insert PySem.F.type_list_insert mt_insert (pv 6) (a2 (pe_op op_mod (pe_op op_fdiv (pv 3) pe_int) (pe_op op_add (callB b_len call_len_seq m_len (a1 (pv 6))) pe_int)) (ixL (pv 6) (pv 7)))))
      (pss_one (ps_ret (pe_bm PySem.F.plainAttrs_str PySem.F.slot_str_join PySem.F.type_str_join mt_join pe_str (a1 (pv 6)))))) pss_nil)
      (pss_cons (ps_if (cmp op_eq (pv 5) pe_int) (pss_cons (ps_expr (pe_bm PySem.F.plainAttrs_list PySem.F.slot_list_pop PySem.F.type_list_pop mt_popAt (pv 6) (a1 (pv 7))))
      (pss_one (ps_ret (pe_bm PySem.F.plainAttrs_str PySem.F.slot_str_join PySem.F.type_str_join mt_join pe_str (a1 (pv 6)))))) pss_nil)
      (pss_cons (ps_if (cmp op_eq (pv 5) pe_int) (pss_one (ps_ret (pe_op op_add_str (pe_op op_add_str (pv 4) (ixS pe_str (pe_op op_mod (pv 3) pe_int))) (pe_slice sl_str (pv 0) (po_some (pv 2)) po_none)))) pss_nil)
      (pss_one (retO L2 (pe_op op_mod (pv 3) pe_int)))))))))))
    intro k rs way ah l l3 at_ cs H6 hrs hah hat s6 fl hl hl3 hcs hsh
    have mn : min k x.length ≤ x.length := Nat.min_le_right _ _
    have mn1 : min (k + 1) x.length ≤ x.length := Nat.min_le_right _ _
    have e0 := cut (min k x.length) x.length mn (Nat.le_refl _)
    have e1 := cut (min (k + 1) x.length) x.length mn1 (Nat.le_refl _)
    have jn : ∀ (us : List Str) (H7 : Hp), (∀ t ∈ us, t.length ≤ 20) → us.length ≤ 21 → Same H H7 → (Str.join (Str.ofString " ") us).length ≤ 1000 ∧ (us.map (·.length)).sum + us.length * (Str.ofString " ").length ≤ sizeLine ∧ Q (.str (Str.join (Str.ofString " ") us)) H7 := fun us H7 h1 h2 h3 => by
      obtain ⟨a, b⟩ := join_len h1 h2
      exact ⟨a, b, q _ _ a h3⟩
    have keep : ∀ (ys : List V), Same H (upd H6 l (.lst ys)) := fun ys b ob e => by
      rw [upd_ne (ne_of_none e fl)]; exact s6 b ob e
    -- 0
    refine ⟨_, rfl, rfl, _, rfl, ite2 (fun _ => ?_) (fun _ => ?_)⟩
    · refine ⟨_, rfl, _, rfl, rs, rfl, fun ch => ?_⟩
      refine ⟨_, _, rfl, rfl, (by rw [chr_len]; omega), _, rfl, _, rfl, _, rfl, x, min k x.length, x.length, rfl, xlz, slAb_from k _, _, _, rfl, rfl, ?_, q _ _ ?_ s6⟩
      · rw [Str.length_append, chr_len]; omega
      · rw [Str.length_append, Str.length_append, chr_len]; omega
    -- 1
    refine ⟨_, rfl, rfl, _, rfl, ite2 (fun _ => ?_) (fun _ => ?_)⟩
    · refine ⟨_, rfl, _, rfl, rs, rfl, fun ch => ?_⟩
      refine ⟨_, _, rfl, rfl, (by rw [chr_len]; omega), _, rfl, _, rfl, _, _, rfl, rfl, _, rfl, x, min (k + 1) x.length, x.length, rfl, xlz, slAb_from (k + 1) _, _, _, rfl, rfl, ?_, q _ _ ?_ s6⟩
      · rw [Str.length_append, chr_len]; omega
      · rw [Str.length_append, Str.length_append, chr_len]; omega
    -- 2
    have nl : (Str.ofString "\n").length = 1 := by decide +kernel
    obtain ⟨r2, er2, hr2⟩ : ∃ r2 : Nat, rs % 2 = (r2 : Int) ∧ r2 ≤ 1 := ⟨(rs % 2).toNat, by omega, by omega⟩
    have mn2 : min (k + r2) x.length ≤ x.length := Nat.min_le_right _ _
    have e2 := cut (min (k + r2) x.length) x.length mn2 (Nat.le_refl _)
    refine ⟨_, rfl, rfl, _, rfl, ite2 (fun _ => ?_) (fun _ => ?_)⟩
    · refine ⟨_, rfl, _, _, rfl, rfl, (by rw [nl]; omega), _, rfl, _, rfl, _, rfl, _, _, rfl, rfl, (by show (0 : Int) < 2; decide), _, _, rfl, rfl, _, rfl, x, min (k + r2) x.length, x.length, rfl, xlz, ?_, _, _, rfl, rfl, ?_, q _ _ ?_ s6⟩
      · rw [er2]; exact slAb_from (k + r2) _
      · rw [Str.length_append, nl]; omega
      · rw [Str.length_append, Str.length_append, nl]; omega
    -- 3
    refine ⟨_, rfl, rfl, _, rfl, ite2 (fun _ => ?_) (fun _ => ?_)⟩
    · refine ⟨_, rfl, _, rfl, _, rfl, _, _, rfl, rfl, _, rfl, x, min (k + 1) x.length, x.length, rfl, xlz, slAb_from (k + 1) _, _, _, rfl, rfl, by omega, q _ _ ?_ s6⟩
      rw [Str.length_append]; omega
    -- 4
    have ins : ∀ {i : Nat} {t : Str}, (ts.take i ++ [t] ++ ts.drop i).map V.str = (ts.map V.str).take i ++ [V.str t] ++ (ts.map V.str).drop i := fun {i t} => by
      rw [List.map_append, List.map_append, List.map_take, List.map_drop]; rfl
    have tlen : (ts.map V.str).length = ts.length := List.length_map _
    refine ⟨_, rfl, rfl, _, rfl, ite2 (fun _ => ?_) (fun _ => ?_)⟩
    · have w1 : (0 : Int) < ((ts.map V.str).length : Int) + 1 := by omega
      have i0 := Int.emod_nonneg (rs / 14) (show ((ts.map V.str).length : Int) + 1 ≠ 0 by omega)
      have i1 := Int.emod_lt_of_pos (rs / 14) w1
      obtain ⟨t, et, lt⟩ := short_at hsh (i := rs % 14) (Int.emod_nonneg rs (by decide)) (by rw [hcs]; exact Int.emod_lt_of_pos rs (by decide))
      refine ⟨_, rfl, .inl ⟨rfl, _, SqL.of hl⟩, _, rfl, _, _, rfl, rfl, ⟨by decide, by decide⟩, _, rfl, l, _, rfl, .inl (SqL.of hl), _, _, rfl, rfl, _, _, rfl, rfl, w1, _, rfl, _, rfl, _, _, rfl, rfl, (by show (0 : Int) < 14; decide), l3, cs, _, _, rfl, rfl, SqL.of hl3, et, ?_⟩
      refine ⟨l, _, _, _, rfl, rfl, hl, i0, by omega, by omega, ?_⟩
      obtain ⟨a, b, qq⟩ := jn (ts.take (rs / 14 % (((ts.map V.str).length : Int) + 1)).toNat ++ [t] ++ ts.drop (rs / 14 % (((ts.map V.str).length : Int) + 1)).toNat) _ (fun u hu => by
        rcases List.mem_append.mp hu with hu | hu
        · rcases List.mem_append.mp hu with hu | hu
          · exact wsl u (List.mem_of_mem_take hu)
          · rw [List.mem_singleton.mp hu]; exact lt
        · exact wsl u (List.mem_of_mem_drop hu)) (by rw [List.length_append, List.length_append, List.length_take, List.length_drop]; simp only [List.length_cons, List.length_nil]; omega) (keep _)
      exact ⟨rfl, _, rfl, _, l, _, rfl, rfl, by rw [ins]; exact SqL.of upd_same, b, qq⟩
    -- 5
    have eat : ts[at_]? = some ts[at_] := List.getElem?_eq_getElem hat
    have eatV : (ts.map V.str)[at_]? = some (.str ts[at_]) := by rw [List.getElem?_map, eat]; rfl
    refine ⟨_, rfl, rfl, _, rfl, ite2 (fun _ => ?_) (fun _ => ?_)⟩
    · have w1 : (0 : Int) < ((ts.map V.str).length : Int) + 1 := by omega
      have i0 := Int.emod_nonneg (rs / 20) (show ((ts.map V.str).length : Int) + 1 ≠ 0 by omega)
      have i1 := Int.emod_lt_of_pos (rs / 20) w1
      refine ⟨_, rfl, .inl ⟨rfl, _, SqL.of hl⟩, _, rfl, _, _, rfl, rfl, ⟨by decide, by decide⟩, _, rfl, l, _, rfl, .inl (SqL.of hl), _, _, rfl, rfl, _, _, rfl, rfl, w1, _, rfl, _, rfl, l, _, _, _, rfl, rfl, SqL.of hl, atI_nat eatV, ?_⟩
      refine ⟨l, _, _, _, rfl, rfl, hl, i0, by omega, by omega, ?_⟩
      obtain ⟨a, b, qq⟩ := jn (ts.take (rs / 20 % (((ts.map V.str).length : Int) + 1)).toNat ++ [ts[at_]] ++ ts.drop (rs / 20 % (((ts.map V.str).length : Int) + 1)).toNat) _ (fun u hu => by
        rcases List.mem_append.mp hu with hu | hu
        · rcases List.mem_append.mp hu with hu | hu
          · exact wsl u (List.mem_of_mem_take hu)
          · rw [List.mem_singleton.mp hu]; exact wsl _ (List.getElem_mem hat)
        · exact wsl u (List.mem_of_mem_drop hu)) (by rw [List.length_append, List.length_append, List.length_take, List.length_drop]; simp only [List.length_cons, List.length_nil]; omega) (keep _)
      exact ⟨rfl, _, rfl, _, l, _, rfl, rfl, by rw [ins]; exact SqL.of upd_same, b, qq⟩
    -- 6
    refine ⟨_, rfl, rfl, _, rfl, ite2 (fun _ => ?_) (fun _ => ?_)⟩
    · have si : seqIndex? (at_ : Int) (ts.map V.str).length = some at_ := by
        rw [tlen]
        exact seqIndex_nat hat
      refine ⟨_, rfl, .inl ⟨rfl, _, SqL.of hl⟩, _, rfl, ?_⟩
      refine ⟨l, _, _, at_, _, rfl, rfl, hl, by omega, by omega, si, eatV, ?_⟩
      obtain ⟨a, b, qq⟩ := jn (ts.eraseIdx at_) _ (fun u hu => wsl u (List.mem_of_mem_eraseIdx hu)) (by
        have := List.length_eraseIdx_le ts at_
        omega) (keep _)
      have er : (ts.eraseIdx at_).map V.str = (ts.map V.str).eraseIdx at_ := map_erase ts at_
      exact ⟨rfl, _, rfl, _, l, _, rfl, rfl, by rw [er]; exact SqL.of upd_same, b, qq⟩
    -- 7
    refine ⟨_, rfl, rfl, _, rfl, ite2 (fun _ => ?_) (fun _ => ?_)⟩
    · have r5 : (rs % 5).toNat < 5 := by
        have := Int.emod_lt_of_pos rs (show (0 : Int) < 5 by decide)
        have := Int.emod_nonneg rs (show (5 : Int) ≠ 0 by decide)
        omega
      refine ⟨_, rfl, _, rfl, _, _, rfl, rfl, (by show (0 : Int) < 5; decide), _, _, _, rfl, rfl, ?_, atI_getD (Int.emod_nonneg rs (by decide)) (Nat.lt_of_lt_of_eq r5 (by decide +kernel)), ?_⟩
      · exact Nat.le_trans (show _ ≤ 5 by decide +kernel) (by decide)
      refine ⟨_, _, rfl, rfl, (by rw [chr_len]; omega), _, rfl, _, rfl, _, rfl, x, min k x.length, x.length, rfl, xlz, slAb_from k _, _, _, rfl, rfl, ?_, q _ _ ?_ s6⟩
      · rw [Str.length_append, chr_len]; omega
      · rw [Str.length_append, Str.length_append, chr_len]; omega
    -- 8
    refine ⟨(by show 7 ≤ sizeLine; decide), fun l7 f7 => ?_⟩
    obtain ⟨t, et, lt⟩ := short_at (xs := [V.str (Str.ofString ""), V.str (Str.ofString " "), V.str (Str.ofString "1,2"), V.str (Str.ofString "1,2 1,2"), V.str (Str.ofString "0,0 1,1"), V.str (Str.ofString "0,0  1,1"), V.str (Str.ofString ",, 1,1")]) (fun v hv => by
      simp only [List.mem_cons, List.not_mem_nil, or_false] at hv
      rcases hv with rfl | rfl | rfl | rfl | rfl | rfl | rfl <;> exact ⟨_, rfl, by decide +kernel⟩) (i := rs % 7) (Int.emod_nonneg rs (by decide)) (Int.emod_lt_of_pos rs (by decide))
    refine ⟨_, rfl, _, _, rfl, rfl, (by show (0 : Int) < 7; decide), l7, _, _, _, rfl, rfl, SqL.of upd_same, et, q _ _ (by omega) (s6.trans (same_new f7 _))⟩
  obtain ⟨tT, hT, rT⟩ := tail
  apply Exists.intro
  apply And.intro
  · exact (pss_cons (sset 2 nd (pe_op op_mod (pe_op op_fdiv (pv 1) pe_int) (pe_op op_add (callB b_len call_len m_len (a1 (pv 0))) pe_int)))
      (pss_cons (sset 3 nd (pe_op op_fdiv (pe_op op_fdiv (pv 1) pe_int) (pe_op op_add (callB b_len call_len m_len (a1 (pv 0))) pe_int)))
      (pss_cons (sset 4 nd (pe_slice sl_str (pv 0) po_none (po_some (pv 2))))
      (pss_cons (sset 5 nd (pe_op op_mod (pv 1) pe_int))
      (pss_cons (sset 6 nd (pe_bm PySem.F.plainAttrs_str PySem.F.slot_str_split PySem.F.type_str_split mt_split (pv 0) (a1 pe_str)))
      (pss_cons (sset 7 nd (pe_op op_mod (pv 3) (callB b_len call_len_seq m_len (a1 (pv 6)))))
      (pss_cons (ssetO 8 nd L0)
      (pss_cons (sset 8 nd (pe_op op_cat (pv 8) L1)) hT))))))))
  have lp : (0 : Int) < (x.length : Int) + 1 := by omega
  have p0 := Int.emod_nonneg (c / 9) (show (x.length : Int) + 1 ≠ 0 by omega)
  have p1 := Int.emod_lt_of_pos (c / 9) lp
  have r0 : 0 ≤ c / 9 / ((x.length : Int) + 1) := Int.ediv_nonneg (Int.ediv_nonneg hc (by decide)) (by omega)
  refine ⟨_, rfl, _, _, rfl, rfl, ⟨by decide, by decide⟩, _, rfl, _, x.length, rfl, ⟨xlz, rfl⟩, _, _, rfl, rfl, _, _, rfl, rfl, lp, ?_⟩
  refine ⟨_, rfl, _, _, rfl, rfl, ⟨by decide, by decide⟩, _, rfl, _, x.length, rfl, ⟨xlz, rfl⟩, _, _, rfl, rfl, _, _, rfl, rfl, ⟨lp, by omega⟩, ?_⟩
  dsimp only
  generalize c / 9 % ((x.length : Int) + 1) = pk at p0 p1 ⊢
  generalize c / 9 / ((x.length : Int) + 1) = rs at r0 ⊢
  obtain ⟨k, rfl⟩ : ∃ k : Nat, pk = (k : Int) := ⟨pk.toNat, by omega⟩
  refine ⟨_, rfl, _, rfl, _, rfl, x, 0, min k x.length, rfl, xlz, slAb_to k _, ?_⟩
  have ahl := cut 0 (min k x.length) (Nat.zero_le _) (Nat.min_le_right _ _)
  refine ⟨_, rfl, _, _, rfl, rfl, (by show (0 : Int) < 9; decide), ?_⟩
  refine ⟨_, rfl, rfl, x, 32, rfl, by rw [ec], by omega, fun l fl => ?_⟩
  rw [ws]
  have s1 := same_new fl (.lst (ts.map V.str))
  have hl1 : (upd H l (.lst (ts.map V.str))) l = some (.lst (ts.map V.str)) := upd_same
  generalize upd H l (.lst (ts.map V.str)) = H1 at s1 hl1 ⊢
  have tpos : (0 : Int) < ((ts.map V.str).length : Int) := by rw [List.length_map]; omega
  have a0 := Int.emod_nonneg rs (show ((ts.map V.str).length : Int) ≠ 0 by omega)
  have a1 := Int.emod_lt_of_pos rs tpos
  refine ⟨_, rfl, _, rfl, l, _, rfl, .inl (SqL.of hl1), _, _, rfl, rfl, tpos, ?_⟩
  dsimp only
  generalize rs % ((ts.map V.str).length : Int) = ak at a0 a1 ⊢
  obtain ⟨at_, rfl⟩ : ∃ at_ : Nat, ak = (at_ : Int) := ⟨ak.toNat, by omega⟩
  refine ⟨(by show 10 ≤ sizeLine; decide), fun l1 f1 => ?_⟩
  have s2 := same_new f1 (.lst [V.str (Str.ofString "1000000,0"), V.str (Str.ofString "1000001,0"), V.str (Str.ofString "0,-1000000"), V.str (Str.ofString "0,-1000001"), V.str (Str.ofString "00,1"), V.str (Str.ofString "1,01"), V.str (Str.ofString "-0,1"), V.str (Str.ofString "1_0,2"), V.str (Str.ofString "+1,2"), V.str (Str.ofString "1,2,3")])
  have h1 : (upd H1 l1 (.lst [V.str (Str.ofString "1000000,0"), V.str (Str.ofString "1000001,0"), V.str (Str.ofString "0,-1000000"), V.str (Str.ofString "0,-1000001"), V.str (Str.ofString "00,1"), V.str (Str.ofString "1,01"), V.str (Str.ofString "-0,1"), V.str (Str.ofString "1_0,2"), V.str (Str.ofString "+1,2"), V.str (Str.ofString "1,2,3")])) l1 = some (.lst [V.str (Str.ofString "1000000,0"), V.str (Str.ofString "1000001,0"), V.str (Str.ofString "0,-1000000"), V.str (Str.ofString "0,-1000001"), V.str (Str.ofString "00,1"), V.str (Str.ofString "1,01"), V.str (Str.ofString "-0,1"), V.str (Str.ofString "1_0,2"), V.str (Str.ofString "+1,2"), V.str (Str.ofString "1,2,3")]) := upd_same
  have sh1 : ∀ v ∈ [V.str (Str.ofString "1000000,0"), V.str (Str.ofString "1000001,0"), V.str (Str.ofString "0,-1000000"), V.str (Str.ofString "0,-1000001"), V.str (Str.ofString "00,1"), V.str (Str.ofString "1,01"), V.str (Str.ofString "-0,1"), V.str (Str.ofString "1_0,2"), V.str (Str.ofString "+1,2"), V.str (Str.ofString "1,2,3")], Short v := fun v hv => by
    simp only [List.mem_cons, List.not_mem_nil, or_false] at hv
    rcases hv with rfl | rfl | rfl | rfl | rfl | rfl | rfl | rfl | rfl | rfl <;> exact ⟨_, rfl, by decide +kernel⟩
  have sh2 : ∀ v ∈ [V.str (Str.ofString ""), V.str (Str.ofString "5"), V.str (Str.ofString "5,"), V.str (Str.ofString "88,-99")], Short v := fun v hv => by
    simp only [List.mem_cons, List.not_mem_nil, or_false] at hv
    rcases hv with rfl | rfl | rfl | rfl <;> exact ⟨_, rfl, by decide +kernel⟩
  have c1 : ([V.str (Str.ofString "1000000,0"), V.str (Str.ofString "1000001,0"), V.str (Str.ofString "0,-1000000"), V.str (Str.ofString "0,-1000001"), V.str (Str.ofString "00,1"), V.str (Str.ofString "1,01"), V.str (Str.ofString "-0,1"), V.str (Str.ofString "1_0,2"), V.str (Str.ofString "+1,2"), V.str (Str.ofString "1,2,3")] : List V).length = 10 := rfl
  have c2 : ([V.str (Str.ofString ""), V.str (Str.ofString "5"), V.str (Str.ofString "5,"), V.str (Str.ofString "88,-99")] : List V).length = 4 := rfl
  generalize [V.str (Str.ofString "1000000,0"), V.str (Str.ofString "1000001,0"), V.str (Str.ofString "0,-1000000"), V.str (Str.ofString "0,-1000001"), V.str (Str.ofString "00,1"), V.str (Str.ofString "1,01"), V.str (Str.ofString "-0,1"), V.str (Str.ofString "1_0,2"), V.str (Str.ofString "+1,2"), V.str (Str.ofString "1,2,3")] = cs1 at s2 h1 sh1 c1 ⊢
  generalize upd H1 l1 (.lst cs1) = H2 at s2 h1 ⊢
  refine ⟨_, rfl, (by show 4 ≤ sizeLine; decide), fun l2 f2 => ?_⟩
  generalize [V.str (Str.ofString ""), V.str (Str.ofString "5"), V.str (Str.ofString "5,"), V.str (Str.ofString "88,-99")] = cs2 at sh2 c2 ⊢
  have s3 := same_new f2 (.lst cs2)
  have h2 : (upd H2 l2 (.lst cs2)) l2 = some (.lst cs2) := upd_same
  generalize upd H2 l2 (.lst cs2) = H3 at s3 h2 ⊢
  refine ⟨l1, l2, cs1, cs2, rfl, rfl, s3 _ _ h1, h2, Nat.le_trans (show cs1.length + cs2.length ≤ 1000 by omega) (by decide), fun l3 f3 => ?_⟩
  have s4 := same_new f3 (.lst (cs1 ++ cs2))
  have s24 := s2.trans (s3.trans s4)
  refine rT k rs _ _ l l3 at_ (cs1 ++ cs2) _ r0 ahl (by rw [List.length_map] at a1; omega) (s1.trans s24) fl (s24 _ _ hl1) upd_same (by rw [List.length_append]; omega) fun v hv => ?_
  rcases List.mem_append.mp hv with y | y
  · exact sh1 v y
  · exact sh2 v y
end
end Tw

namespace Tw
open PySem L2 L3
section
variable {P : Program} {w : World} {K : PySem.W.Frag} {mg : Str → Option Value} {base : Heap} {cL cS cP cT : Addr}
theorem sc_law : FnScope ["script", "text", "due", "found", "marks", "e"] ["script"] (defScope t_law) := ⟨rfl, rfl, rfl, by decide +kernel, rfl, by decide +kernel, by decide +kernel⟩
theorem ok_law {f : Addr} {fd : FuncData} (F : Fun K "law" "law" t_law f fd) (er : Errs K mg cL cS cP cT) (k_cell_at : Cal P w K mg base 1 "_law_cell_at" ["script", "k"] (spCell K)) (k_set : Cal P w K mg base 3 "_law_set" ["script"] (spSet K)) (k_text : Cal P w K mg base 1 "_law_text" ["points"] (spText K))
    (k_spoiled : Cal P w K mg base 2 "_law_spoiled" ["text", "cell"] spSpoilT) (k_due : Cal P w K mg base 2 "_law_due" ["text"] (spDue K)) (k_read : Cal P w K mg base 4 "read" ["text"] (spReadX K cT)) (k_marks_of : CalC P w K mg base 1 "_law_marks_of" ["e"] (spMarks K cS cP cT)) (k_is_points : Cal P w K mg base 3 "_law_is_points" ["found", "due"] (spIsPts K)) :
    FnOk P w K mg base (CXE P w) 5 f fd ["script"] (spLaw K) := by
  refine okN F sc_law (fun vs H Q E h => ?_) (fun cdv A outer s H vs Q E hr h => ?_)
  · obtain ⟨a, ns, rfl, _⟩ := h
    rfl
  obtain ⟨a, ns, rfl, hS, h63, q⟩ := h
  have nd := sc_law.nd
  have hr1 := hr.mono (show 1 ≤ 4 by decide)
  have hr2 := hr.mono (show 2 ≤ 4 by decide)
  have hr3 := hr.mono (show 3 ≤ 4 by decide)
  have tk := er.tk
  have hu : (A.deeper (PyProof.Rows.envOfC "law" (defScope t_law) s.heap.objs.size f cdv)).units + 40 < cLine := by have := hr.units; omega
  have tail : ∃ t, PSs (cxOf (CXE P w) P w K mg base ["script", "text", "due", "found", "marks", "e"] "law" (defScope t_law) f cdv A outer s H E).nox ((defBody t_law).drop 2) t ∧
      ∀ (x : Str) (H3 : Hp), x.length ≤ 1000 → t { nx := fun _ H' => Q .non H', rt := Q } [some (.ref a), some (.str x), none, none, none, none] H3 := by
    refine ⟨_, (pss_cons (sset 2 nd (pe_c k_due hr2 (a1 (pv 1))))
      (pss_cons (sset 3 nd pe_non)
      (pss_cons (sset 4 nd (pe_lst pa_nil))
      (pss_cons (ps_try tk rfl rfl nd (i := 5) rfl rfl rfl (fun E' pn' Eh hx => (pss_one (sset 3 nd (pe_cT k_read hr hx (a1 (pv 1)))))) (fun e => (pss_one (sset 4 nd (pe_cC k_marks_of (RoomC.of hr1 _) (a1 (pv 5)))))))
      (pss_cons (ps_if (cmp op_isN (pv 2) pe_non) (pss_one (ps_ret (cmpE (op_eqD hu) (pv 4) (pe_lst (pa_cons pe_bl (pa_cons pe_bl (pa_cons pe_bl (pa_cons pe_bl pa_nil)))))))) pss_nil)
      (pss_one (ps_ret (pe_and (cmpE (op_eqD hu) (pv 4) (pe_lst pa_nil)) (pe_one (pe_c k_is_points hr3 (a2 (pv 3) (pv 2)))))))))))), ?_⟩
    intro x H3 xl
    have fin : ∀ (due : V) (found : V) (mk : V) (o5 : Option V) (H7 : Hp), True := fun _ _ _ _ _ => trivial
    by_cases cw : ∃ ps, Ma.Writes x ps
    · obtain ⟨ps, hw⟩ := cw
      refine ⟨_, rfl, x, rfl, xl, fun ps' hw' dr H4 s4 hd4 => ?_, fun z => (z ⟨ps, hw⟩).elim⟩
      refine ⟨(by show 0 ≤ sizeLine; decide), fun ml f5 => ?_⟩
      have s5 := same_new f5 (.lst [])
      have hml : (upd H4 ml (.lst [])) ml = some (.lst []) := upd_same
      generalize upd H4 ml (.lst []) = H5 at s5 hml ⊢
      refine ⟨_, rfl, x, rfl, xl, fun ps'' hw'' fr H6 s6 ffr hf6 => ?_, fun z => (z ⟨ps, hw⟩).elim⟩
      have e1 : ps'' = ps' := by
        have a1 := Ma.writes_words hw''
        rw [Ma.writes_words hw'] at a1
        exact Ma.ptT_inj7 (fun p hp => Ma.inB_seven (hw''.1.good.inb p hp)) (fun p hp => Ma.inB_seven (hw'.1.good.inb p hp)) a1.symm
      subst e1
      have s46 := s5.trans s6
      refine ⟨_, rfl, rfl, _, rfl, iteD (fun z => by cases z) ?_⟩
      refine ⟨_, rfl, (by show 0 ≤ sizeLine; decide), fun m2 f7 => ?_⟩
      have s7 := same_new f7 (.lst [])
      refine ⟨.list [], .list [], den_lst (SqL.of (s7 _ _ (s6 _ _ hml))) Dens.nil, den_lst (SqL.of upd_same) Dens.nil, rfl, rfl, _, rfl, ?_⟩
      generalize upd H6 m2 (.lst []) = H7 at s7 ⊢
      refine iteT ?_
      exact ⟨_, rfl, _, rfl, fr, dr, ps'', rfl, hf6.same s7, (hd4.same s46).same s7, Nat.le_trans hw''.1.len (by decide), q _⟩
    · refine ⟨_, rfl, x, rfl, xl, fun ps hw => absurd ⟨ps, hw⟩ cw, fun _ H4 s4 => ?_⟩
      refine ⟨(by show 0 ≤ sizeLine; decide), fun ml f5 => ?_⟩
      have s5 := same_new f5 (.lst [])
      generalize upd H4 ml (.lst []) = H5 at s5 ⊢
      refine ⟨_, rfl, x, rfl, xl, fun ps hw => absurd ⟨ps, hw⟩ cw, fun _ H6 s6 => ?_⟩
      refine ⟨cT, rfl, er.sT, fun e he => ?_⟩
      refine ⟨_, rfl, e, cT, false, false, true, rfl, upd_same, er.mT, fun r7 H7 s7 hm => ?_⟩
      refine ⟨_, rfl, rfl, _, rfl, iteDT rfl ?_⟩
      refine ⟨_, rfl, (by show 4 ≤ sizeLine; decide), fun m2 f8 => ?_⟩
      refine ⟨marks false false true, marks false false true, Den.same (same_new f8 _) _ _ hm, den_lst (SqL.of upd_same) (Dens.cons den_bl (Dens.cons den_bl (Dens.cons den_bl (Dens.cons den_bl Dens.nil)))), rfl, rfl, ?_⟩
      exact q _
  obtain ⟨tT, hT, rT⟩ := tail
  refine ⟨_, (pss_cons (sset 1 nd (pe_c k_text hr1 (a1 (pe_c k_set hr3 (a1 (pv 0))))))
      (pss_cons (ps_if (cmp op_gt (pe_op op_mod (pe_c k_cell_at hr1 (a2 (pv 0) pe_int)) pe_int) pe_int) (pss_one (sset 1 nd (pe_c k_spoiled hr2 (a2 (pv 1) (pe_op op_mod (pe_op op_fdiv (pe_c k_cell_at hr1 (a2 (pv 0) pe_int)) pe_int) pe_tri))))) pss_nil) hT)), ?_⟩
  refine ⟨_, rfl, a, ns, rfl, hS, fun r H1 s1 hp => ?_⟩
  obtain ⟨px, r0, hr', hpd⟩ := hp
  have ok := set_ok ns
  generalize Ma.setP ns = ps at ok hpd
  refine ⟨r, ps, rfl, ⟨px, hr', hpd⟩, ok, fun H2 s2 => ?_⟩
  have hS2 : SqL K H2 a (ns.map V.int) := (s1.trans s2).seq hS
  have tl := txt_len3 ok
  refine ⟨_, rfl, a, ns, 1, rfl, hS2, by decide, _, _, rfl, rfl, (by show (0 : Int) < 4; decide), _, _, rfl, rfl, _, rfl, ite2 (fun _ => ?_) (fun _ => ?_)⟩
  · refine ⟨_, rfl, _, rfl, a, ns, 1, rfl, hS2, by decide, _, _, rfl, rfl, ⟨by decide, by decide⟩, _, _, rfl, rfl, (by show (0 : Int) < 1000000000000; decide), ps, _, rfl, ok, Int.emod_nonneg _ (by decide), fun z H3 zl s3 => ?_⟩
    exact rT z H3 zl
  · exact rT _ H2 (by omega)
end
end Tw

open PySem PySem.W PyProof.Rows
set_option maxRecDepth 100000 in
set_option maxHeartbeats 0 in
theorem PySem.Challenge.cw_twoline_k12_points_read_or_refused_holds : PySem.Challenge.rw_twoline_k12_points_read_or_refused.Holds := by
  w_on; o_law; k_head; (case hw => w_witness2)
  k_fill
  refine Tw.walk (l := PySem.Challenge.rw_twoline_k12_points_read_or_refused) (k := 5) rfl rfl ⟨rfl, by decide, by decide⟩ (fun w h Y => PySem.W.kIn_of Y) ?F
  case F =>
    intro w mg fa h KX G hmg
    have S_s_is_point : L3.Src (L2.KOf KX) mg "is_point" Tw.s_is_point := by
      dsimp only [L2.KOf]
      refine' L3.src_mk KX G ?a ?l ?c ?k
      (case a => k_is); (case l => k_is); (case c => k_is); (case k => k_is)
    have S_s_are_points : L3.Src (L2.KOf KX) mg "are_points" Tw.s_are_points := by
      dsimp only [L2.KOf]
      refine' L3.src_mk KX G ?a ?l ?c ?k
      (case a => k_is); (case l => k_is); (case c => k_is); (case k => k_is)
    have S_s_is_number : L3.Src (L2.KOf KX) mg "is_number" Tw.s_is_number := by
      dsimp only [L2.KOf]
      refine' L3.src_mk KX G ?a ?l ?c ?k
      (case a => k_is); (case l => k_is); (case c => k_is); (case k => k_is)
    have S_s_read_number : L3.Src (L2.KOf KX) mg "read_number" Tw.s_read_number := by
      dsimp only [L2.KOf]
      refine' L3.src_mk KX G ?a ?l ?c ?k
      (case a => k_is); (case l => k_is); (case c => k_is); (case k => k_is)
    have S_s_read_point : L3.Src (L2.KOf KX) mg "read_point" Tw.s_read_point := by
      dsimp only [L2.KOf]
      refine' L3.src_mk KX G ?a ?l ?c ?k
      (case a => k_is); (case l => k_is); (case c => k_is); (case k => k_is)
    have S_s_read : L3.Src (L2.KOf KX) mg "read" Tw.s_read := by
      dsimp only [L2.KOf]
      refine' L3.src_mk KX G ?a ?l ?c ?k
      (case a => k_is); (case l => k_is); (case c => k_is); (case k => k_is)
    have S_t_cell_at : L3.Src (L2.KOf KX) mg "_law_cell_at" Tw.t_cell_at := by
      dsimp only [L2.KOf]
      refine' L3.src_mk KX G ?a ?l ?c ?k
      (case a => k_is); (case l => k_is); (case c => k_is); (case k => k_is)
    have S_t_point_by : L3.Src (L2.KOf KX) mg "_law_point_by" Tw.t_point_by := by
      dsimp only [L2.KOf]
      refine' L3.src_mk KX G ?a ?l ?c ?k
      (case a => k_is); (case l => k_is); (case c => k_is); (case k => k_is)
    have S_t_points_by : L3.Src (L2.KOf KX) mg "_law_points_by" Tw.t_points_by := by
      dsimp only [L2.KOf]
      refine' L3.src_mk KX G ?a ?l ?c ?k
      (case a => k_is); (case l => k_is); (case c => k_is); (case k => k_is)
    have S_t_set : L3.Src (L2.KOf KX) mg "_law_set" Tw.t_set := by
      dsimp only [L2.KOf]
      refine' L3.src_mk KX G ?a ?l ?c ?k
      (case a => k_is); (case l => k_is); (case c => k_is); (case k => k_is)
    have S_t_whole : L3.Src (L2.KOf KX) mg "_law_whole" Tw.t_whole := by
      dsimp only [L2.KOf]
      refine' L3.src_mk KX G ?a ?l ?c ?k
      (case a => k_is); (case l => k_is); (case c => k_is); (case k => k_is)
    have S_t_is_tuple : L3.Src (L2.KOf KX) mg "_law_is_tuple" Tw.t_is_tuple := by
      dsimp only [L2.KOf]
      refine' L3.src_mk KX G ?a ?l ?c ?k
      (case a => k_is); (case l => k_is); (case c => k_is); (case k => k_is)
    have S_t_text : L3.Src (L2.KOf KX) mg "_law_text" Tw.t_text := by
      dsimp only [L2.KOf]
      refine' L3.src_mk KX G ?a ?l ?c ?k
      (case a => k_is); (case l => k_is); (case c => k_is); (case k => k_is)
    have S_t_is_points : L3.Src (L2.KOf KX) mg "_law_is_points" Tw.t_is_points := by
      dsimp only [L2.KOf]
      refine' L3.src_mk KX G ?a ?l ?c ?k
      (case a => k_is); (case l => k_is); (case c => k_is); (case k => k_is)
    have S_t_sign_by : L3.Src (L2.KOf KX) mg "_law_sign_by" Tw.t_sign_by := by
      dsimp only [L2.KOf]
      refine' L3.src_mk KX G ?a ?l ?c ?k
      (case a => k_is); (case l => k_is); (case c => k_is); (case k => k_is)
    have S_t_marks_of : L3.Src (L2.KOf KX) mg "_law_marks_of" Tw.t_marks_of := by
      dsimp only [L2.KOf]
      refine' L3.src_mk KX G ?a ?l ?c ?k
      (case a => k_is); (case l => k_is); (case c => k_is); (case k => k_is)
    have S_t_spoiled : L3.Src (L2.KOf KX) mg "_law_spoiled" Tw.t_spoiled := by
      dsimp only [L2.KOf]
      refine' L3.src_mk KX G ?a ?l ?c ?k
      (case a => k_is); (case l => k_is); (case c => k_is); (case k => k_is)
    have S_t_number : L3.Src (L2.KOf KX) mg "_law_number" Tw.t_number := by
      dsimp only [L2.KOf]
      refine' L3.src_mk KX G ?a ?l ?c ?k
      (case a => k_is); (case l => k_is); (case c => k_is); (case k => k_is)
    have S_t_due : L3.Src (L2.KOf KX) mg "_law_due" Tw.t_due := by
      dsimp only [L2.KOf]
      refine' L3.src_mk KX G ?a ?l ?c ?k
      (case a => k_is); (case l => k_is); (case c => k_is); (case k => k_is)
    have S_t_law : L3.Src (L2.KOf KX) mg "law" Tw.t_law := by
      dsimp only [L2.KOf]
      refine' L3.src_mk KX G ?a ?l ?c ?k
      (case a => k_is); (case l => k_is); (case c => k_is); (case k => k_is)
    have m_abs : mg "abs" = none := by
      refine' PySem.W.mg_none_of KX G ?a
      (case a => k_is)
    have m_len : mg "len" = none := by
      refine' PySem.W.mg_none_of KX G ?a
      (case a => k_is)
    have m_range : mg "range" = none := by
      refine' PySem.W.mg_none_of KX G ?a
      (case a => k_is)
    have m_set : mg "set" = none := by
      refine' PySem.W.mg_none_of KX G ?a
      (case a => k_is)
    have m_all : mg "all" = none := by
      refine' PySem.W.mg_none_of KX G ?a
      (case a => k_is)
    have m_str : mg "str" = none := by
      refine' PySem.W.mg_none_of KX G ?a
      (case a => k_is)
    have m_int : mg "int" = none := by
      refine' PySem.W.mg_none_of KX G ?a
      (case a => k_is)
    have m_list : mg "list" = none := by
      refine' PySem.W.mg_none_of KX G ?a
      (case a => k_is)
    have m_isi : mg "isinstance" = none := by
      refine' PySem.W.mg_none_of KX G ?a
      (case a => k_is)
    have m_bool : mg "bool" = none := by
      refine' PySem.W.mg_none_of KX G ?a
      (case a => k_is)
    have m_tuple : mg "tuple" = none := by
      refine' PySem.W.mg_none_of KX G ?a
      (case a => k_is)
    have m_verr : mg "ValueError" = none := by
      refine' PySem.W.mg_none_of KX G ?a
      (case a => k_is)
    have g_FARTHEST : L3.GV mg "FARTHEST" (.int 1000000) := by
      refine' ⟨_, PySem.W.mg_of KX G ?a, ?b⟩
      (case a => k_is)
      (case b => exact ⟨_, rfl⟩)
    have g_FEWEST : L3.GV mg "FEWEST" (.int 2) := by
      refine' ⟨_, PySem.W.mg_of KX G ?a, ?b⟩
      (case a => k_is)
      (case b => exact ⟨_, rfl⟩)
    have g_MOST : L3.GV mg "MOST" (.int 20) := by
      refine' ⟨_, PySem.W.mg_of KX G ?a, ?b⟩
      (case a => k_is)
      (case b => exact ⟨_, rfl⟩)
    have g_FIGURES : L3.GV mg "FIGURES" (.str "0123456789") := by
      refine' ⟨_, PySem.W.mg_of KX G ?a, ?b⟩
      (case a => k_is)
      (case b => exact ⟨_, rfl⟩)
    have g_MOST_FIGURES : L3.GV mg "MOST_FIGURES" (.int 7) := by
      refine' ⟨_, PySem.W.mg_of KX G ?a, ?b⟩
      (case a => k_is)
      (case b => exact ⟨_, rfl⟩)
    have er : ∃ cL cS cP cT, Tw.Errs (L2.KOf KX) mg cL cS cP cT := by
      dsimp only [L2.KOf]
      refine' ⟨_, _, _, _, L3.takes_mk KX G ?l1 ?l2 ?l3 ?l4, L3.excC_mk KX G ?s1 ?s2, L3.excC_mk KX G ?p1 ?p2, L3.excC_mk KX G ?t1 ?t2, ?r1, ?r2, ?r3, L3.excK_mk ?g1 ?g2 ?g3 ?g4 ?g5 ?g6, L3.excK_mk ?h1 ?h2 ?h3 ?h4 ?h5 ?h6, L3.excK_mk ?i1 ?i2 ?i3 ?i4 ?i5 ?i6,
        L3.kit_mk ?j1 ?h6 ?j2 ?j3, L3.kit_mk ?j4 ?i6 ?j5 ?j6, L3.kit_mk ?k1 ?g6 ?k2 ?k3, L3.kit_mk ?k4 ?i6 ?j5 ?k6, L3.kit_mk ?n1 ?g6 ?k2 ?n3, L3.kit_mk ?n4 ?h6 ?j2 ?n6, L3.kit_mkV ?v1, L3.kit_mkV ?v2, L3.kit_mkV ?v3⟩
      (case l1 => k_is); (case l2 => k_is); (case l3 => k_is); (case l4 => k_is); (case s1 => k_is); (case s2 => k_exc); (case p1 => k_is); (case p2 => k_exc); (case t1 => k_is); (case t2 => k_exc); (case r1 => k_is); (case r2 => k_is); (case r3 => k_is)
      (case g1 => k_is); (case g2 => k_is); (case g3 => k_is); (case g4 => k_is); (case g5 => k_is); (case g6 => k_is)
      (case h1 => k_is); (case h2 => k_is); (case h3 => k_is); (case h4 => k_is); (case h5 => k_is); (case h6 => k_is)
      (case i1 => k_is); (case i2 => k_is); (case i3 => k_is); (case i4 => k_is); (case i5 => k_is); (case i6 => k_is)
      (case j1 => decide); (case j2 => k_is); (case j3 => k_is); (case j4 => decide); (case j5 => k_is); (case j6 => k_is)
      (case k1 => decide); (case k2 => k_is); (case k3 => k_is); (case k4 => decide); (case k6 => k_is)
      (case n1 => decide); (case n3 => k_is); (case n4 => decide); (case n6 => k_is)
      (case v1 => k_is); (case v2 => k_is); (case v3 => k_is)
    obtain ⟨cL, cS, cP, cT, er⟩ := er
    have zT := er.zT
    refine L3.law_at S_t_law hmg (fun _ _ _ _ _ _ _ => rfl) fun base f fd Fn => ?_
    have k_cell := Tw.c_cell_at (P := PySem.Challenge.rw_twoline_k12_points_read_or_refused.prog) (w := w) (base := base) S_t_cell_at m_len
    have k_pt := Tw.c_point_by (P := PySem.Challenge.rw_twoline_k12_points_read_or_refused.prog) (w := w) (base := base) S_t_point_by
    have k_pts := Tw.c_points_by S_t_points_by m_len m_range k_cell k_pt
    have k_set := Tw.c_set S_t_set k_cell k_pts
    have k_ip := Tw.c_is_point (P := PySem.Challenge.rw_twoline_k12_points_read_or_refused.prog) (w := w) (base := base) S_s_is_point m_abs g_FARTHEST
    have k_ap := Tw.c_are_points S_s_are_points m_len m_set m_all g_FEWEST g_MOST k_ip
    have k_in := Tw.c_is_number (P := PySem.Challenge.rw_twoline_k12_points_read_or_refused.prog) (w := w) (base := base) S_s_is_number m_len m_all g_FIGURES g_MOST_FIGURES
    have k_rn := Tw.c_read_number S_s_read_number zT m_int k_in
    have k_rp := Tw.c_read_point S_s_read_point zT m_len k_rn
    have k_rd := Tw.c_read S_s_read zT k_ap k_rp
    have k_wh := Tw.c_whole (P := PySem.Challenge.rw_twoline_k12_points_read_or_refused.prog) (w := w) (base := base) S_t_whole m_isi m_int m_bool
    have k_it := Tw.c_is_tuple S_t_is_tuple m_isi m_tuple m_len k_wh
    have k_tx := Tw.c_text (P := PySem.Challenge.rw_twoline_k12_points_read_or_refused.prog) (w := w) (base := base) S_t_text m_str
    have k_is := Tw.c_is_points S_t_is_points m_len m_range m_isi m_list k_it
    have k_mo := Tw.c_marks_of (P := PySem.Challenge.rw_twoline_k12_points_read_or_refused.prog) (w := w) (base := base) S_t_marks_of er m_isi m_verr
    have k_sg := Tw.c_sign_by (P := PySem.Challenge.rw_twoline_k12_points_read_or_refused.prog) (w := w) (base := base) S_t_sign_by
    have k_sl := Tw.c_spoilt S_t_spoiled m_len k_sg
    have k_nu := Tw.c_number (P := PySem.Challenge.rw_twoline_k12_points_read_or_refused.prog) (w := w) (base := base) S_t_number m_len m_abs m_int
    have k_du := Tw.c_due S_t_due m_len m_set k_nu
    exact Tw.ok_law Fn er k_cell k_set k_tx k_sl k_du k_rd k_mo k_is

