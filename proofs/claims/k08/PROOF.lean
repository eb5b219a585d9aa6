import PyProof.Rows.All
import Wide.All
import OpenK.AllK
import Wide.FinOn
import Lean
import PyProof.EqAt
import PyProof.EqKinds
import PyProof.TupleCall
import PySem.Challenge.RW_twoline_k08_nearest_points
set_option maxHeartbeats 4000000
set_option Elab.async false
set_option linter.all false
set_option maxRecDepth 100000
/-! THE HAND LAYER, for ints, bools, texts, own classes, LISTS and tuples (index, slices, in, append, pop ..), calls, loops. Paste it whole ahead of your own text; what your proof does not reach may be deleted. -/
namespace L2
open PySem PySem.Spec PyProof.Rows

/-- a key: an int or a str -/
abbrev Key := Sum Int Str
def keyIs : Key → Value → Bool
  | .inl k, v => Value.isInt k v
  | .inr x, v => Value.isStrOf x v
def keyH (w : World) : Key → Int
  | .inl k => hashInt k
  | .inr x => hashStr w x
theorem keyIs_shape : ∀ {k : Key} {v : Value}, keyIs k v = true → (∃ i t, k = Sum.inl i ∧ v = Value.int i t) ∨ (∃ x t, k = Sum.inr x ∧ v = Value.str x t)
  | .inl i, v, h => by
    obtain ⟨t, e⟩ := Value.isInt_shape (k := i) (v := v) h
    exact .inl ⟨i, t, rfl, e⟩
  | .inr x, v, h => by
    obtain ⟨t, e⟩ := Value.isStrOf_shape (x := x) (v := v) h
    exact .inr ⟨x, t, rfl, e⟩
theorem keyIs_int (i : Int) (t : Tok) : keyIs (.inl i) (.int i t) = true := by simp [keyIs, Value.isInt]
theorem keyIs_str (x : Str) (t : Tok) : keyIs (.inr x) (.str x t) = true := by simp [keyIs, Value.isStrOf]
theorem key_ll (a b : Int) : decide ((Sum.inl a : Key) = Sum.inl b) = (a == b) := by
  by_cases e : a = b
  · subst e; simp
  · have h : ¬ (Sum.inl a : Key) = Sum.inl b := fun q => e (Sum.inl.inj q)
    rw [decide_eq_false h]
    exact (beq_eq_false_iff_ne.mpr e).symm
theorem key_rr (a b : Str) : decide ((Sum.inr a : Key) = Sum.inr b) = decide (a = b) := by
  by_cases e : a = b
  · subst e; simp
  · have h : ¬ (Sum.inr a : Key) = Sum.inr b := fun q => e (Sum.inr.inj q)
    rw [decide_eq_false h, decide_eq_false e]
theorem key_lr (a : Int) (b : Str) : decide ((Sum.inl a : Key) = Sum.inr b) = false := decide_eq_false (fun q => nomatch q)
theorem key_rl (a : Str) (b : Int) : decide ((Sum.inr a : Key) = Sum.inl b) = false := decide_eq_false (fun q => nomatch q)

def mixKind (prog : Program) (w : World) : PySem.KeyKind prog w Key where
  is := keyIs
  hash := keyH w
  inj := fun v a b ha hb => by
    rcases keyIs_shape ha with ⟨i, t, rfl, rfl⟩ | ⟨x, t, rfl, rfl⟩
    · rcases keyIs_shape hb with ⟨j, u, rfl, e⟩ | ⟨y, u, rfl, e⟩
      · injection e with e1 _; rw [e1]
      · exact nomatch e
    · rcases keyIs_shape hb with ⟨j, u, rfl, e⟩ | ⟨y, u, rfl, e⟩
      · exact nomatch e
      · injection e with e1 _; rw [e1]
  byValue := fun k v h => by
    rcases keyIs_shape h with ⟨i, t, rfl, rfl⟩ | ⟨x, t, rfl, rfl⟩ <;> rfl
  pyHash := fun hv h => by
    rcases keyIs_shape hv with ⟨i, t, rfl, rfl⟩ | ⟨x, t, rfl, rfl⟩
    · exact wpAny_pyHash_int h
    · exact wpAny_pyHash_str h
  eqBool := fun hu hv h => by
    rcases keyIs_shape hu with ⟨i, t, rfl, rfl⟩ | ⟨x, t, rfl, rfl⟩
    · rcases keyIs_shape hv with ⟨j, u, rfl, rfl⟩ | ⟨y, u, rfl, rfl⟩
      · rw [key_ll] at h; exact wpAny_eqBool_int h
      · rw [key_lr] at h; exact SeqAt.EqAt.int_str i t y u _ _ _ _ h
    · rcases keyIs_shape hv with ⟨j, u, rfl, rfl⟩ | ⟨y, u, rfl, rfl⟩
      · rw [key_rl] at h; exact SeqAt.EqAt.str_int x t j u _ _ _ _ h
      · rw [key_rr] at h; exact wpAny_eqBool_str h
  «strs» := fun k x t v h => by
    rcases keyIs_shape h with ⟨i, u, rfl, e⟩ | ⟨y, u, rfl, e⟩
    · exact nomatch e
    · injection e with e1 _
      subst e1
      cases v <;> rfl

theorem mixKind_int (prog : Program) (w : World) (i : Int) (t : Tok) : (mixKind prog w).is (.inl i) (.int i t) = true := keyIs_int i t
theorem mixKind_str (prog : Program) (w : World) (x : Str) (t : Tok) : (mixKind prog w).is (.inr x) (.str x t) = true := keyIs_str x t
end L2

namespace L2
open PySem PySem.Spec PyProof.Rows

/-- a value, without the heap -/
inductive V where
  | non | bl (b : Bool) | int (i : Int) | str (x : Str) | byt (b : Array UInt8) | flt (b : UInt64) | ref (a : Addr) | ty (n : String)
  deriving DecidableEq

def RelV : V → Value → Prop
  | .non, u => u = Value.none
  | .bl b, u => u = Value.bool b
  | .int i, u => ∃ t, u = Value.int i t
  | .str x, u => ∃ t, u = Value.str x t
  | .byt b, u => ∃ t, u = Value.bytes b t
  | .flt b, u => ∃ t, u = Value.float b t
  | .ref a, u => u = Value.ref a
  | .ty n, u => u = Value.type n

abbrev Vals : List V → List Value → Prop := Paired RelV
theorem Vals.length {xs : List V} {us : List Value} (r : Vals xs us) : xs.length = us.length := Paired.length r
theorem Vals.get : ∀ {xs : List V} {us : List Value} {i : Nat} {x : V}, Vals xs us → xs[i]? = some x → ∃ u, us[i]? = some u ∧ RelV x u
  | _, _, _, _, .nil, e => by simp at e
  | _, _, 0, _, .cons r _, e => by simp at e; subst e; exact ⟨_, rfl, r⟩
  | _, _, i + 1, x, .cons _ t, e => by
    obtain ⟨u, h1, h2⟩ := Vals.get (i := i) (x := x) t (by simpa using e)
    exact ⟨u, by simpa using h1, h2⟩
theorem Vals.append : ∀ {xs ys : List V} {us ws : List Value}, Vals xs us → Vals ys ws → Vals (xs ++ ys) (us ++ ws)
  | _, _, _, _, .nil, s => s
  | _, _, _, _, .cons r t, s => .cons r (Vals.append t s)
def RelO : Option V → Option Value → Prop
  | some v, some u => RelV v u
  | none, none => True
  | _, _ => False
def KV {κ : Type} : List (κ × V) → List (κ × Value) → Prop := Paired fun (p : κ × V) (q : κ × Value) => p.1 = q.1 ∧ RelV p.2 q.2

/-- a key of a dict (00_mix): an int or a text -/
def kV : Key → V
  | .inl i => .int i
  | .inr x => .str x

/-- what stands at a tracked address -/
inductive HO where
  /-- a list -/
  | lst (xs : List V)
  /-- a tuple (never changes) -/
  | tup (xs : List V)
  /-- a dict whose keys are ints and texts; one whose keys are tuples of ints and texts (the empty one is both) -/
  | dK (kvs : List (Key × V)) | dT (kvs : List (List Key × V))
  /-- a set of ints: its members, its size -/
  | set (S : Int → Bool) (n : Nat)
  /-- an instance of the class at C, its dict at dx, its attributes -/
  | ins (C dx : Addr) (fs : List (Str × V))
  /-- the dict of the instance at x -/
  | own (x : Addr)
  /-- the dict of an exception -/
  | xd (fs : List (Str × V))
  /-- a bound method, f of x -/
  | met (f x : Addr)
  /-- a range object lo, lo + 1, .. below hi -/
  | rng (lo hi : Int)
  /-- a thing that is known to the object (the script; a dict while a loop walks it): read, never written while it is so -/
  | frz (o : Obj) (u : HO)
  /-- a code object's table -/
  | tbl (ps : Array Value)
  /-- any other thing, by what is true of its one object (a def of one's own: SetO a S n := HO.ext fun h => ..) -/
  | ext (φ : Heap → Prop)

abbrev Hp := Addr → Option HO
def upd (H : Hp) (a : Addr) (o : HO) : Hp := fun b => if b = a then some o else H b
theorem upd_same {H : Hp} {a : Addr} {o : HO} : upd H a o a = some o := by unfold upd; rw [if_pos rfl]
theorem upd_ne {H : Hp} {a b : Addr} {o : HO} (h : b ≠ a) : upd H a o b = H b := by unfold upd; rw [if_neg h]
/-- two objects of different content stand apart -/
theorem ne_of {H : Hp} {a b : Addr} {o u : HO} (h : H a = some o) (h' : H b = some u) (d : o ≠ u) : a ≠ b := by
  intro e; subst e; rw [h] at h'; exact d (Option.some.inj h')
theorem ne_of_none {H : Hp} {a b : Addr} {o : HO} (h : H a = some o) (h' : H b = none) : a ≠ b := by
  intro e; subst e; rw [h] at h'; cases h'

section
variable (P : Program) (w : World)
def ObjOk (H : Hp) (h : Heap) (a : Addr) : HO → Prop
  | .lst xs => xs.length ≤ sizeLine ∧ ∃ (its : List Value) (n : Nat), Vals xs its ∧ h.get? a = some { cls := .type "list", data := .seq its.toArray n }
  | .tup xs => xs.length ≤ sizeLine ∧ ∃ its : List Value, Vals xs its ∧ IsTup h a its.toArray
  | .dK kvs => kvs.length ≤ sizeLine ∧ (a == sysModules) = false ∧ ∃ vs, KV kvs vs ∧ h.DictOf (mixKind P w) a vs
  | .dT kvs => kvs.length ≤ sizeLine ∧ (a == sysModules) = false ∧ ∃ xs : List (List Key × Addr × Value),
      Paired (fun (p : List Key × V) (q : List Key × Addr × Value) => p.1 = q.1 ∧ H q.2.1 = some (.tup (p.1.map kV)) ∧ RelV p.2 q.2.2) kvs xs ∧
      ∃ o es ep, h.get? a = some o ∧ o.ExactDict ∧ o.data = .dict es ep ∧ es.toList = xs.map (entryOfKey (tupleKind (mixKind P w))) ∧ (xs.map (·.1)).Nodup
  | .set S n => h.SetOf (intKind P w) a S n
  | .ins C dx fs => H dx = some (.own a) ∧ fs.length ≤ 1000 ∧ dx ≠ a ∧ h.get? a = some (PySem.W.instObj C dx) ∧
      ∃ mA, h.Ns1 dx mA ∧ (∀ f, RelO (fs.lookup f) (mA f)) ∧ PySem.Within mA (fs.map (·.1))
  | .own _ => ∃ o, h.get? a = some o
  | .xd fs => ∃ mA, h.Ns1 a mA ∧ ∀ f, RelO (fs.lookup f) (mA f)
  | .rng lo hi => ∃ t u v, h.get? a = some { cls := .type "range", data := .fields #[.int lo t, .int hi u, .int 1 v] }
  | .frz o u => h.get? a = some o ∧ ObjOk H h a u
  | .tbl ps => h.get? a = some { cls := .none, data := .fields ps }
  | .met f x => h.get? a = some (PySem.W.methodObj (.ref f) (.ref x))
  | .ext φ => φ h ∧ (∃ o, h.get? a = some o) ∧ ∀ h1 h2 : Heap, φ h1 → (∀ o, h1.get? a = some o → h2.get? a = some o) → φ h2
/-- the abstract heap is held -/
def HOk (H : Hp) (h : Heap) : Prop := ∀ a o, H a = some o → ObjOk P w H h a o
end

section
variable {P : Program} {w : World} {H H' : Hp} {h h' : Heap} {a : Addr} {o : HO}
theorem ObjOk.lt (x : ObjOk P w H h a o) : a < h.objs.size := by
  cases o with
  | lst xs => obtain ⟨_, _, _, _, e⟩ := x; exact Heap.lt_size e
  | tup xs => obtain ⟨_, _, _, p⟩ := x; exact p.lt
  | dK kvs => obtain ⟨_, _, _, _, o, _, _, e, _⟩ := x; exact Heap.lt_size e
  | dT kvs => obtain ⟨_, _, _, _, o, _, _, e, _⟩ := x; exact Heap.lt_size e
  | set S n => obtain ⟨o, _, _, _, e, _⟩ := x; exact Heap.lt_size e
  | ins C dx fs => obtain ⟨_, _, _, e, _⟩ := x; exact Heap.lt_size e
  | own y => obtain ⟨_, e⟩ := x; exact Heap.lt_size e
  | xd fs => obtain ⟨_, ⟨_, _, _, e, _⟩, _⟩ := x; exact Heap.lt_size e
  | rng lo hi => obtain ⟨_, _, _, e⟩ := x; exact Heap.lt_size e
  | frz ob u => obtain ⟨e, _⟩ := x; exact Heap.lt_size e
  | tbl ps => exact Heap.lt_size (show h.get? a = some _ from x)
  | met f y => exact Heap.lt_size (show h.get? a = some _ from x)
  | ext φ => obtain ⟨_, ⟨_, e⟩, _⟩ := x; exact Heap.lt_size e
theorem Paired.mapP {α β : Type} {F G : α → β → Prop} : ∀ {l₁ : List α} {l₂ : List β}, Paired F l₁ l₂ → (∀ a b, F a b → G a b) → Paired G l₁ l₂
  | _, _, .nil, _ => .nil
  | _, _, .cons r t, f => .cons (f _ _ r) (Paired.mapP t f)
/-- what an object's description leans on: its own object, its own dict, the tuples -/
theorem ObjOk.stay (x : ObjOk P w H h a o) (k : ∀ b u, (b = a ∨ H b = some (.own a)) → h.get? b = some u → h'.get? b = some u)
    (ho : ∀ b, H b = some (.own a) → H' b = some (.own a)) (ht : ∀ b xs, H b = some (.tup xs) → H' b = some (.tup xs)) : ObjOk P w H' h' a o := by
  induction o with
  | lst xs => obtain ⟨z, its, n, r, e⟩ := x; exact ⟨z, its, n, r, k _ _ (.inl rfl) e⟩
  | tup xs => obtain ⟨z, its, r, ob, e, c⟩ := x; exact ⟨z, its, r, ob, k _ _ (.inl rfl) e, c⟩
  | dK kvs => obtain ⟨z, y, vs, r, ob, es, ep, e, c⟩ := x; exact ⟨z, y, vs, r, ob, es, ep, k _ _ (.inl rfl) e, c⟩
  | dT kvs =>
    obtain ⟨z, y, xs, r, ob, es, ep, e, c⟩ := x
    exact ⟨z, y, xs, Paired.mapP r fun p q z => ⟨z.1, ht _ _ z.2.1, z.2.2⟩, ob, es, ep, k _ _ (.inl rfl) e, c⟩
  | set S n => obtain ⟨ob, es, ep, t, e, c⟩ := x; exact ⟨ob, es, ep, t, k _ _ (.inl rfl) e, c⟩
  | ins C dx fs =>
    obtain ⟨d, z, ne, e, mA, ⟨od, es, ep, e2, c⟩, r⟩ := x
    exact ⟨ho _ d, z, ne, k _ _ (.inl rfl) e, mA, ⟨od, es, ep, k _ _ (.inr d) e2, c⟩, r⟩
  | own y => obtain ⟨ob, e⟩ := x; exact ⟨ob, k _ _ (.inl rfl) e⟩
  | xd fs => obtain ⟨mA, ⟨od, es, ep, e, c⟩, r⟩ := x; exact ⟨mA, ⟨od, es, ep, k _ _ (.inl rfl) e, c⟩, r⟩
  | rng lo hi => obtain ⟨t, u, v, e⟩ := x; exact ⟨t, u, v, k _ _ (.inl rfl) e⟩
  | frz ob u ih => obtain ⟨e, q⟩ := x; exact ⟨k _ _ (.inl rfl) e, ih q⟩
  | tbl ps =>
    have e : h.get? a = some { cls := .none, data := .fields ps } := x
    show h'.get? a = some { cls := .none, data := .fields ps }
    exact k a _ (.inl rfl) e
  | met f y =>
    have e : h.get? a = some (PySem.W.methodObj (.ref f) (.ref y)) := x
    show h'.get? a = some (PySem.W.methodObj (.ref f) (.ref y))
    exact k a _ (.inl rfl) e
  | ext φ => obtain ⟨p, ⟨o, e⟩, st⟩ := x; exact ⟨st _ _ p fun o q => k _ _ (.inl rfl) q, ⟨o, k _ _ (.inl rfl) e⟩, st⟩
theorem HOk.lt (x : HOk P w H h) (e : H a = some o) : a < h.objs.size := (x a o e).lt
theorem HOk.fresh (x : HOk P w H h) (e : h.objs.size ≤ a) : H a = none := by
  cases q : H a with
  | none => rfl
  | some u => exact absurd (Nat.lt_of_lt_of_le (x.lt q) e) (Nat.lt_irrefl _)
/-- every object of the heap is kept -/
theorem HOk.kept (x : HOk P w H h) (k : ∀ b u, h.get? b = some u → h'.get? b = some u) : HOk P w H h' := fun a o e =>
  (x a o e).stay (fun b u _ q => k b u q) (fun _ q => q) fun _ _ q => q
/-- a new object is laid and tracked -/
theorem HOk.laid (x : HOk P w H h) (k : ∀ b u, h.get? b = some u → h'.get? b = some u) (hp : h.objs.size ≤ a) (new : ObjOk P w (upd H a o) h' a o) : HOk P w (upd H a o) h' := fun b u e => by
  have hn := x.fresh hp
  by_cases hb : b = a
  · subst hb; rw [upd_same] at e; cases e; exact new
  · rw [upd_ne hb] at e
    exact (x b u e).stay (fun c v _ q => k c v q) (fun c q => by rw [upd_ne (ne_of_none q hn)]; exact q) fun c xs q => by rw [upd_ne (ne_of_none q hn)]; exact q
end

/-- what may be read as u: it is u, or a known u -/
def Rd (H : Hp) (a : Addr) (u : HO) : Prop := H a = some u ∨ ∃ o, H a = some (.frz o u)
theorem Rd.ok {P : Program} {w : World} {H : Hp} {h : Heap} {a : Addr} {u : HO} (r : Rd H a u) (x : HOk P w H h) : ObjOk P w H h a u := by
  rcases r with r | ⟨o, r⟩
  · exact x a u r
  · obtain ⟨_, q⟩ := x a _ r
    exact q
/-- what may be written -/
def Mut : Option HO → Prop
  | some (.lst _) => True
  | some (.dK _) => True
  | some (.dT _) => True
  | some (.set _ _) => True
  | some (.ins _ _ _) => True
  | some (.ext _) => True
  | _ => False
section
variable {P : Program} {w : World} {H : Hp} {h h' : Heap} {x e : Addr} {o' : HO}
/-- the object at e is changed: x itself, or the dict of the instance x -/
theorem HOk.write (ok : HOk P w H h) (mu : Mut (H x)) (he : e = x ∨ H e = some (.own x)) (k : ∀ b u, b ≠ e → h.get? b = some u → h'.get? b = some u) (heo : ∃ u, h'.get? e = some u)
    (new : ObjOk P w (upd H x o') h' x o') : HOk P w (upd H x o') h' := fun b u q => by
  have nown : ∀ c y, H c = some (.own y) → c ≠ x := fun c y r z => by subst z; rw [r] at mu; exact mu
  have ntup : ∀ c xs, H c = some (.tup xs) → c ≠ x := fun c xs r z => by subst z; rw [r] at mu; exact mu
  by_cases hb : b = x
  · subst hb; rw [upd_same] at q; cases q; exact new
  · rw [upd_ne hb] at q
    by_cases hbe : b = e
    · have q' : H b = some (.own x) := by
        rcases he with z | z
        · exact absurd (hbe.trans z) hb
        · rw [hbe]; exact z
      rw [q] at q'; cases q'
      obtain ⟨v, hv⟩ := heo
      exact ⟨v, by rw [hbe]; exact hv⟩
    · refine (ok b u q).stay (fun c v hc r => k c v ?_ r) (fun c r => by rw [upd_ne (nown c b r)]; exact r) fun c xs r => by rw [upd_ne (ntup c xs r)]; exact r
      rcases hc with rfl | hc
      · exact hbe
      · rintro rfl
        rcases he with z | z
        · exact nown c b hc z
        · rw [hc] at z; cases z; exact hb rfl
end

/-! ### kept unless tracked; of the frames at fs (the callers') the slots may change (an exception that passes writes there); of the records at ex (iterators) nothing is said -/
structure Un (fs ex : List Addr) (H H' : Hp) (h h' : Heap) : Prop where
  keep : ∀ b o, h.get? b = some o → H b = none → b ∉ fs → b ∉ ex → h'.get? b = some o
  slot : ∀ b o, h.get? b = some o → H b = none → b ∈ fs → b ∉ ex → ∃ sl, h'.get? b = some { o with slots := sl }
  free : ∀ b o, h.get? b = some o → H b = none → b ∉ ex → H' b = none
  there : ∀ b o, h.get? b = some o → b ∉ ex → ∃ o', h'.get? b = some o'
  tups : ∀ b xs, H b = some (.tup xs) → H' b = some (.tup xs)
  frzs : ∀ b o u, H b = some (.frz o u) → H' b = some (.frz o u)
  tbls : ∀ b ps, H b = some (.tbl ps) → ∃ more, H' b = some (.tbl (ps ++ more))
section
variable {fs fs' ex ex' : List Addr} {H H1 H2 : Hp} {h h1 h2 h' : Heap} {a x e : Addr} {o : HO}
theorem Un.any (u : Un fs ex H H1 h h1) {b : Addr} {ob : Obj} (q : h.get? b = some ob) (n : H b = none) (hx : b ∉ ex) : ∃ sl, h1.get? b = some { ob with slots := sl } := by
  by_cases hb : b ∈ fs
  · exact u.slot b ob q n hb hx
  · exact ⟨ob.slots, u.keep b ob q n hb hx⟩
theorem Un.kept (k : ∀ b u, h.get? b = some u → h'.get? b = some u) : Un fs ex H H h h' :=
  ⟨fun b ob q _ _ _ => k b ob q, fun b ob q _ _ _ => ⟨ob.slots, k b ob q⟩, fun _ _ _ n _ => n, fun b ob q _ => ⟨ob, k b ob q⟩, fun _ _ q => q, fun _ _ _ q => q, fun _ ps q => ⟨#[], by rw [q]; simp⟩⟩
theorem Un.refl : Un fs ex H H h h := Un.kept fun _ _ q => q
theorem Un.laid (k : ∀ b u, h.get? b = some u → h'.get? b = some u) (hp : h.objs.size ≤ a) (hn : H a = none) : Un fs ex H (upd H a o) h h' where
  keep := fun b u q _ _ _ => k b u q
  slot := fun b u q _ _ _ => ⟨u.slots, k b u q⟩
  free := fun b u q n _ => by rw [upd_ne (Nat.ne_of_lt (Nat.lt_of_lt_of_le (Heap.lt_size q) hp))]; exact n
  there := fun b u q _ => ⟨u, k b u q⟩
  tups := fun b xs q => by rw [upd_ne (ne_of_none q hn)]; exact q
  frzs := fun b u xs q => by rw [upd_ne (ne_of_none q hn)]; exact q
  tbls := fun b ps q => ⟨#[], by rw [upd_ne (ne_of_none q hn), q]; simp⟩
theorem Un.write (mu : Mut (H x)) (he : e = x ∨ H e = some (.own x)) (k : ∀ b u, b ≠ e → h.get? b = some u → h'.get? b = some u) (heo : ∃ u, h'.get? e = some u) : Un fs ex H (upd H x o) h h' := by
  have hx : ∀ b, H b = none → b ≠ x := fun b n z => by subst z; rw [n] at mu; exact mu
  have hb : ∀ b, H b = none → b ≠ e := fun b n z => by
    subst z
    rcases he with r | r
    · exact hx b n r
    · rw [n] at r; cases r
  have hm : ∀ b u, H b = some u → ¬ Mut (some u) → b ≠ x := fun b u q nm z => by subst z; rw [q] at mu; exact nm mu
  refine ⟨fun b u q n _ _ => k b u (hb b n) q, fun b u q n _ _ => ⟨u.slots, k b u (hb b n) q⟩, fun b u q n _ => by rw [upd_ne (hx b n)]; exact n, fun b u q _ => ?_,
    fun b xs q => by rw [upd_ne (hm b _ q fun z => z)]; exact q, fun b u xs q => by rw [upd_ne (hm b _ q fun z => z)]; exact q, fun b ps q => ⟨#[], by rw [upd_ne (hm b _ q fun z => z), q]; simp⟩⟩
  by_cases hbe : b = e
  · subst hbe; exact heo
  · exact ⟨u, k b u hbe q⟩
end

/-! ### the heap without what is tracked -/
def trk (h : Heap) (H : Hp) : List Addr := (List.range h.objs.size).filter fun a => (H a).isSome
def hidT (h : Heap) (H : Hp) : Heap := PySem.W.hideAll h (trk h H)
theorem hidT_size (h : Heap) (H : Hp) : (hidT h H).objs.size = h.objs.size := PySem.W.hideAll_size _ _
theorem hidT_get {h : Heap} {H : Hp} {b : Addr} {o : Obj} (e : h.get? b = some o) (n : H b = none) : (hidT h H).get? b = some o :=
  PySem.W.hideAll_get _ e fun hm => by
    have q : (H b).isSome = true := (List.mem_filter.mp hm).2
    rw [n] at q; simp at q
theorem of_hidT {h : Heap} {H : Hp} {b : Addr} {o : Obj} (e : (hidT h H).get? b = some o) : h.get? b = some o ∧ H b = none := by
  have e' : h.get? b = some o := PySem.W.of_hideAll (trk h H) e
  refine ⟨e', ?_⟩
  cases q : H b with
  | none => rfl
  | some x =>
    have hm : b ∈ trk h H := List.mem_filter.mpr ⟨List.mem_range.mpr (Heap.lt_size e'), by simp [q]⟩
    have z : (hidT h H).get? b = none := PySem.W.hideAll_none (trk h H) hm
    rw [z] at e; cases e

/-! ### OpenK's ledger, filled with every new object but one -/
def allNews (g h : Heap) (L : Addr) : List (Addr × Obj) := (List.range h.objs.size).filterMap fun a => if a = L ∨ (g.get? a).isSome = true then none else (h.get? a).map fun o => (a, o)
def rest (g h : Heap) (L d : Addr) : List (Addr × Obj) := (allNews g h L).filter fun p => decide (p.1 ≠ d)
end L2

namespace L2
open PySem PySem.Spec PyProof.Rows

/-- the module's facts, over the base: the heap at the law's entry without what is tracked there -/
structure Mod (K : PySem.W.Frag) (mg : Str → Option Value) (base : Heap) : Prop where
  kin : K.In base
  glob : base.Ns mainGlobals mg
  blt : ∃ mb, base.Ns builtinsNs mb ∧ ∀ x : Str, x ≠ "__name__" → mb x = bootBuiltins x
  nolimit : base.NoLimit

/-- the context: a def's body (or a comprehension's block) running. base: fixed through the whole law; s₀, H₀: the entry; outer: the frames whose slots others may change (a def's callers); stack: all frames that run;
   ex: iterators that were made ahead of the entry and are walked here (a comprehension's); fn: the names whose cells were made at the entry (a def: all; a comprehension's block: its own); calm: not within an except suite; pn: pins that every state bears; xe: what is wanted of an exception that leaves the code -/
structure Cx where
  prog : Program
  w : World
  K : PySem.W.Frag
  mg : Str → Option Value
  base : Heap
  A : Around
  N : List Str
  s₀ : Shared
  H₀ : Hp
  env : Env
  outer : List Env
  stack : List Env
  ex : List Addr
  fn : Str → Bool
  calm : Bool
  pn : List (Addr × Obj)
  xe : Value → Shared → Prop
/-- the callers' frames -/
def frs (l : List Env) : List Addr := l.filterMap (·.frame)
abbrev Cx.fs (X : Cx) : List Addr := frs X.outer

def Vis (sc : Scope) (x : Str) : Prop := sc.names.lookup x = some .local ∨ sc.names.lookup x = some .cell ∨ sc.names.lookup x = some .free
def Loc (sc : Scope) (x : Str) : Prop := sc.names.lookup x = some .local ∨ sc.names.lookup x = some .cell
def Look (env : Env) (h : Heap) (m : Str → Option Value) (x : Str) (u : Value) : Prop :=
  (env.kindOf x = some .local ∧ m x = some u) ∨ ((env.kindOf x = some .cell ∨ env.kindOf x = some .free) ∧ ∃ c, env.cells.lookup x = some c ∧ h.IsCell c (some u))

structure Cx.Ok (X : Cx) : Prop where
  mod : Mod X.K X.mg X.base
  kind : X.env.scope.kind = .function
  glob : X.env.globals = mainGlobals
  blt : X.env.builtins = builtinsNs
  above : X.s₀.heap.objs.size ≤ X.env.locals
  inj : ∀ x y c, X.env.cells.lookup x = some c → X.env.cells.lookup y = some c → x = y
  has : ∀ x, (X.env.kindOf x = some .cell ∨ X.env.kindOf x = some .free) → ∃ c, X.env.cells.lookup x = some c
  cab : ∀ x c, X.fn x = true → X.env.cells.lookup x = some c → X.s₀.heap.objs.size ≤ c
  hd : X.calm = true → X.A.handled = none
  frames : X.A.frames = some X.stack
  stk : X.stack = X.outer ∨ (X.stack = X.env :: X.outer ∧ X.env.frame = some X.env.locals)
  exf : ∀ b ∈ X.ex, b ≠ X.env.locals ∧ ∀ x c, X.env.cells.lookup x = some c → c ≠ b
  bs : ∀ b o, X.base.get? b = some o → X.s₀.heap.get? b = some o ∧ X.H₀ b = none
  bsz : X.base.objs.size ≤ X.s₀.heap.objs.size
  noex : ∀ b o, X.base.get? b = some o → b ∉ X.ex
  exfs : ∀ b ∈ X.ex, b ∉ X.fs
  funs : X.s₀.heap.FunFrames X.base X.outer
  frf : ∀ b ∈ X.fs, X.H₀ b = none

structure Inv (X : Cx) (pins : List (Addr × Obj)) (σ : List (Option V)) (H : Hp) (s : Shared) : Prop where
  ok : X.Ok
  os : s.os = X.s₀.os
  bare : AllBare s.gens
  base : Un X.fs X.ex X.H₀ H X.s₀.heap s.heap
  loc : ∃ m, s.heap.Ns X.env.locals m ∧ ∀ (i : Nat) (x : Str) (v : V), X.N[i]? = some x → σ[i]? = some (some v) → Vis X.env.scope x → ∃ u, RelV v u ∧ Look X.env s.heap m x u
  cell : ∀ x c, X.env.cells.lookup x = some c → ∃ v, s.heap.IsCell c v
  free : H X.env.locals = none
  freeC : ∀ x c, X.env.cells.lookup x = some c → H c = none
  pin : ∀ p ∈ X.pn ++ pins, s.heap.get? p.1 = some p.2 ∧ H p.1 = none ∧ p.1 ≠ X.env.locals ∧ p.1 ∉ X.fs ∧ ∀ v, p.2.data ≠ .cell v
  hok : HOk X.prog X.w H s.heap
  len : σ.length = X.N.length

section
variable {X : Cx} {pins : List (Addr × Obj)} {σ : List (Option V)} {H H' : Hp} {s : Shared} {h' : Heap}

theorem Cx.Ok.nofr (ok : X.Ok) {b : Addr} {o : Obj} (e : X.base.get? b = some o) : b ∉ X.fs := fun hb => by
  have := (ok.funs.mem hb).1
  rw [e] at this; cases this
theorem Inv.bs (I : Inv X pins σ H s) : ∀ b o, X.base.get? b = some o → s.heap.get? b = some o ∧ H b = none := fun b o e =>
  ⟨I.base.keep b o (I.ok.bs b o e).1 (I.ok.bs b o e).2 (I.ok.nofr e) (I.ok.noex b o e), I.base.free b o (I.ok.bs b o e).1 (I.ok.bs b o e).2 (I.ok.noex b o e)⟩
theorem Inv.bk (I : Inv X pins σ H s) : ∀ b o, X.base.get? b = some o → s.heap.get? b = some o := fun b o e => (I.bs b o e).1
theorem Inv.mod (I : Inv X pins σ H s) : Mod X.K X.mg X.base := I.ok.mod
theorem Inv.kIn (I : Inv X pins σ H s) : X.K.In s.heap := I.ok.mod.kin.keeps I.bk
theorem Inv.lt (I : Inv X pins σ H s) : X.env.locals < s.heap.objs.size := let ⟨_, hn, _⟩ := I.loc; hn.lt
theorem Inv.sz (I : Inv X pins σ H s) : X.s₀.heap.objs.size ≤ s.heap.objs.size := Nat.le_trans I.ok.above (Nat.le_of_lt I.lt)
theorem Inv.nofs (I : Inv X pins σ H s) {a : Addr} (h : s.heap.objs.size ≤ a) : a ∉ X.fs := fun hb => by
  obtain ⟨_, o, ho, _⟩ := I.ok.funs.mem hb
  exact absurd (Nat.lt_of_lt_of_le (Heap.lt_size ho) (Nat.le_trans I.sz h)) (Nat.lt_irrefl _)
theorem Inv.cne (I : Inv X pins σ H s) : ∀ x c, X.env.cells.lookup x = some c → c ≠ X.env.locals := fun x c e z => by
  obtain ⟨v, o, ho, hd⟩ := I.cell x c e
  obtain ⟨m, ⟨o', es, ep, ho', hd', _⟩, _⟩ := I.loc
  rw [z, ho'] at ho; cases ho; rw [hd'] at hd; cases hd
theorem Inv.funs (I : Inv X pins σ H s) : s.heap.FunFrames X.base X.outer := by
  have all : ∀ (l : List Env), (∀ b ∈ frs l, b ∈ X.fs) → X.s₀.heap.FunFrames X.base l → s.heap.FunFrames X.base l := by
    intro l
    induction l with
    | nil => intro _ _; trivial
    | cons env r ih =>
      intro hs hl
      obtain ⟨hk, ⟨L, o, hf, hn, ho, hd⟩, hr⟩ := hl
      have hL : L ∈ X.fs := hs L (by unfold frs; rw [List.filterMap_cons, hf]; exact List.mem_cons_self)
      obtain ⟨sl, e⟩ := I.base.slot L o ho (I.ok.frf L hL) hL fun z => I.ok.exfs L z hL
      exact ⟨hk, ⟨L, _, hf, hn, e, hd⟩, ih (fun b hb => hs b (by unfold frs; rw [List.filterMap_cons, hf]; exact List.mem_cons_of_mem _ hb)) hr⟩
  exact all X.outer (fun _ hb => hb) I.ok.funs

/-- the frames that run, for a call -/
theorem Inv.stack (I : Inv X pins σ H s) : s.heap.FunFrames X.base X.stack := by
  rcases I.ok.stk with e | ⟨e, hf⟩
  · rw [e]; exact I.funs
  · rw [e]
    obtain ⟨m, hn, _⟩ := I.loc
    refine .cons (by rw [I.ok.kind]; decide) hf hn ?_ I.funs
    exact Heap.get?_none_of_le (Nat.le_trans I.ok.bsz I.ok.above)
theorem Inv.stkSub (I : Inv X pins σ H s) : ∀ b ∈ frs X.stack, b ∈ X.env.locals :: X.fs := fun b hb => by
  rcases I.ok.stk with e | ⟨e, hf⟩
  · rw [e] at hb; exact List.mem_cons_of_mem _ hb
  · rw [e] at hb
    unfold frs at hb
    rw [List.filterMap_cons, hf] at hb
    exact hb
theorem Inv.stkFree (I : Inv X pins σ H s) : ∀ b ∈ frs X.stack, H b = none := fun b hb => by
  rcases List.mem_cons.mp (I.stkSub b hb) with e | hb
  · rw [e]; exact I.free
  · obtain ⟨_, o, ho, _⟩ := I.ok.funs.mem hb
    exact I.base.free b o ho (I.ok.frf b hb) fun z => I.ok.exfs b z hb

/-- THE STEP: the untracked objects but the frame and the records at ch are kept (the callers' frames up to slots), the frame's map is kept, the new abstract heap is held -/
theorem Inv.step {g' : Array GenState} {t' : Nat} {d' : Drawn} {ch : List Addr} (I : Inv X pins σ H s)
    (hch : ∀ b ∈ ch, (b ∈ X.ex ∨ X.s₀.heap.objs.size ≤ b) ∧ b ≠ X.env.locals ∧ (∀ x c, X.env.cells.lookup x = some c → c ≠ b) ∧ ∀ p ∈ X.pn ++ pins, p.1 ≠ b)
    (keep : ∀ b o, b ≠ X.env.locals → b ∉ X.fs → b ∉ ch → s.heap.get? b = some o → H b = none → h'.get? b = some o)
    (slot : ∀ b o, b ≠ X.env.locals → b ∈ X.fs → b ∉ ch → s.heap.get? b = some o → H b = none → ∃ sl, h'.get? b = some { o with slots := sl }) (free : ∀ b o, b ∉ ch → s.heap.get? b = some o → H b = none → H' b = none)
    (there : ∀ b o, b ∉ ch → s.heap.get? b = some o → ∃ o', h'.get? b = some o')
    (tups : ∀ b xs, H b = some (.tup xs) → H' b = some (.tup xs)) (frzs : ∀ b o u, H b = some (.frz o u) → H' b = some (.frz o u)) (tbls : ∀ b ps, H b = some (.tbl ps) → ∃ more, H' b = some (.tbl (ps ++ more)))
    (ns : ∀ m, s.heap.Ns X.env.locals m → h'.Ns X.env.locals m) (hok : HOk X.prog X.w H' h') (hg : AllBare g') :
    Inv X pins σ H' { s with heap := h', gens := g', drawn := d', toks := t' } := by
  have neL : ∀ b o, X.s₀.heap.get? b = some o → b ≠ X.env.locals := fun b o e => Nat.ne_of_lt (Nat.lt_of_lt_of_le (Heap.lt_size e) I.ok.above)
  have neC : ∀ b o, X.s₀.heap.get? b = some o → b ∉ X.ex → b ∉ ch := fun b o e hx hb => by
    rcases (hch b hb).1 with z | z
    · exact hx z
    · exact absurd (Nat.lt_of_lt_of_le (Heap.lt_size e) z) (Nat.lt_irrefl _)
  have cellK : ∀ x c, X.env.cells.lookup x = some c → ∀ v, s.heap.IsCell c v → h'.IsCell c v := fun x c e v ⟨o, ho, hd⟩ => by
    have nch : c ∉ ch := fun z => (hch c z).2.2.1 x c e rfl
    by_cases hc : c ∈ X.fs
    · obtain ⟨sl, q⟩ := slot c o (I.cne x c e) hc nch ho (I.freeC x c e)
      exact ⟨_, q, hd⟩
    · exact ⟨o, keep c o (I.cne x c e) hc nch ho (I.freeC x c e), hd⟩
  refine ⟨I.ok, I.os, hg, ⟨fun b o e n hb hx => ?_, fun b o e n hb hx => ?_, fun b o e n hx => ?_, fun b o e hx => ?_, fun b xs e => tups b xs (I.base.tups b xs e), fun b o xs e => frzs b o xs (I.base.frzs b o xs e), fun b ps e => ?_⟩, ?_, fun x c e => ?_, ?_, fun x c e => ?_, fun p hp => ?_, hok, I.len⟩
  · exact keep b o (neL b o e) hb (neC b o e hx) (I.base.keep b o e n hb hx) (I.base.free b o e n hx)
  · obtain ⟨sl, e1⟩ := I.base.slot b o e n hb hx
    obtain ⟨sl', e2⟩ := slot b _ (neL b o e) hb (neC b o e hx) e1 (I.base.free b o e n hx)
    exact ⟨sl', e2⟩
  · obtain ⟨o', e1⟩ := I.base.there b o e hx
    exact free b o' (neC b o e hx) e1 (I.base.free b o e n hx)
  · obtain ⟨o', e1⟩ := I.base.there b o e hx
    exact there b o' (neC b o e hx) e1
  · obtain ⟨m1, e1⟩ := I.base.tbls b ps e
    obtain ⟨m2, e2⟩ := tbls b _ e1
    exact ⟨m1 ++ m2, by rw [e2, Array.append_assoc]⟩
  · obtain ⟨m, hn, hl⟩ := I.loc
    refine ⟨m, ns m hn, fun i x v e1 e2 e3 => ?_⟩
    obtain ⟨u, r, l⟩ := hl i x v e1 e2 e3
    refine ⟨u, r, ?_⟩
    rcases l with l | ⟨k, c, e, z⟩
    · exact .inl l
    · exact .inr ⟨k, c, e, cellK x c e _ z⟩
  · obtain ⟨v, z⟩ := I.cell x c e
    exact ⟨v, cellK x c e v z⟩
  · obtain ⟨m, ⟨o, _, _, ho, _⟩, _⟩ := I.loc
    exact free _ o (fun z => (hch _ z).2.1 rfl) ho I.free
  · obtain ⟨v, o, ho, hd⟩ := I.cell x c e
    exact free c o (fun z => (hch c z).2.2.1 x c e rfl) ho (I.freeC x c e)
  · obtain ⟨e, n, ne, nf, d⟩ := I.pin p hp
    have nch : p.1 ∉ ch := fun z => (hch p.1 z).2.2.2 p hp rfl
    exact ⟨keep p.1 p.2 ne nf nch e n, free p.1 p.2 nch e n, ne, nf, d⟩
/-- .. where the frame's own object is kept too -/
theorem Inv.un {t' : Nat} (I : Inv X pins σ H s) (u : Un X.fs [] H H' s.heap h') (hok : HOk X.prog X.w H' h') : Inv X pins σ H' { s with heap := h', toks := t' } := by
  obtain ⟨m, ⟨o, es, ep, ho, r⟩, _⟩ := id I.loc
  obtain ⟨sl, hL⟩ := u.any ho I.free (by simp)
  exact I.step (g' := s.gens) (d' := s.drawn) (ch := []) (fun _ z => nomatch z) (fun b o _ hb _ e n => u.keep b o e n hb (by simp)) (fun b o _ hb _ e n => u.slot b o e n hb (by simp)) (fun b o _ e n => u.free b o e n (by simp)) (fun b o _ e => u.there b o e (by simp)) u.tups u.frzs u.tbls (fun m' hm => by
    obtain ⟨o', es', ep', ho', r'⟩ := hm
    rw [ho] at ho'; cases ho'
    exact ⟨_, es', ep', hL, r'⟩) hok I.bare
/-- behind a call (or a comprehension's block): the slots of this frame may have changed too, the records at ch may have turned -/
theorem Inv.call {g' : Array GenState} {t' : Nat} {d' : Drawn} {ch : List Addr} (I : Inv X pins σ H s) (u : Un (frs X.stack) ch H H' s.heap h') (hok : HOk X.prog X.w H' h') (hg : AllBare g')
    (hch : ∀ b ∈ ch, (b ∈ X.ex ∨ X.s₀.heap.objs.size ≤ b) ∧ b ≠ X.env.locals ∧ (∀ x c, X.env.cells.lookup x = some c → c ≠ b) ∧ ∀ p ∈ X.pn ++ pins, p.1 ≠ b) :
    Inv X pins σ H' { s with heap := h', gens := g', drawn := d', toks := t' } := by
  obtain ⟨m, ⟨o, es, ep, ho, r⟩, _⟩ := id I.loc
  obtain ⟨sl, hL⟩ := u.any ho I.free fun z => (hch _ z).2.1 rfl
  exact I.step (ch := ch) hch (fun b o hL hb hc e n => u.keep b o e n (fun z => (List.mem_cons.mp (I.stkSub b z)).elim hL hb) hc) (fun b o _ _ hc e n => u.any e n hc) (fun b o hc e n => u.free b o e n hc) (fun b o hc e => u.there b o e hc) u.tups u.frzs u.tbls (fun m' hm => by
    obtain ⟨o', es', ep', ho', r'⟩ := hm
    rw [ho] at ho'; cases ho'
    exact ⟨_, es', ep', hL, r'⟩) hok hg
/-- an untracked record of ours (an iterator) has turned -/
theorem Inv.turned {t' : Nat} {it : Addr} (I : Inv X pins σ H s) (k : ∀ b o, b ≠ it → s.heap.get? b = some o → h'.get? b = some o) (hn : H it = none) (hL : it ≠ X.env.locals)
    (h1 : it ∈ X.ex ∨ X.s₀.heap.objs.size ≤ it) (h2 : ∀ x c, X.env.cells.lookup x = some c → c ≠ it) (h3 : ∀ p ∈ X.pn ++ pins, p.1 ≠ it) : Inv X pins σ H { s with heap := h', toks := t' } := by
  have nit : ∀ b u, H b = some u → b ≠ it := fun b u e z => by rw [z, hn] at e; cases e
  refine I.step (g' := s.gens) (d' := s.drawn) (ch := [it]) (fun b hb => ?_) (fun b o _ _ hc e _ => k b o (fun z => hc (by simp [z])) e) (fun b o _ _ hc e _ => ⟨o.slots, k b o (fun z => hc (by simp [z])) e⟩) (fun _ _ _ _ n => n)
    (fun b o hc e => ⟨o, k b o (fun z => hc (by simp [z])) e⟩) (fun _ _ e => e) (fun _ _ _ e => e) (fun b ps e => ⟨#[], by rw [e]; simp⟩) (fun m hm => ?_) (fun b u e => ?_) I.bare
  · have e : b = it := by simpa using hb
    subst e
    exact ⟨h1, hL, h2, h3⟩
  · obtain ⟨o, es, ep, ho, r⟩ := hm
    exact ⟨o, es, ep, k _ o (Ne.symm hL) ho, r⟩
  · refine (I.hok b u e).stay (fun c v hc q => k c v ?_ q) (fun _ q => q) fun _ _ q => q
    rcases hc with z | z
    · rw [z]; exact nit b u e
    · exact nit c _ z
theorem Inv.tok (I : Inv X pins σ H s) (t : Nat) : Inv X pins σ H { s with toks := t } := I.un (h' := s.heap) (t' := t) Un.refl I.hok
/-- all objects kept -/
theorem Inv.kept {t' : Nat} (I : Inv X pins σ H s) (k : ∀ b u, s.heap.get? b = some u → h'.get? b = some u) : Inv X pins σ H { s with heap := h', toks := t' } := I.un (Un.kept k) (I.hok.kept k)
/-- a new object laid and tracked -/
theorem Inv.laid {a : Addr} {o : HO} {t' : Nat} (I : Inv X pins σ H s) (k : ∀ b u, s.heap.get? b = some u → h'.get? b = some u) (hp : s.heap.objs.size ≤ a) (new : ObjOk X.prog X.w (upd H a o) h' a o) :
    Inv X pins σ (upd H a o) { s with heap := h', toks := t' } := I.un (Un.laid k hp (I.hok.fresh hp)) (I.hok.laid k hp new)
/-- an object written -/
theorem Inv.write {x e : Addr} {o : HO} {t' : Nat} (I : Inv X pins σ H s) (mu : Mut (H x)) (he : e = x ∨ H e = some (.own x)) (k : ∀ b u, b ≠ e → s.heap.get? b = some u → h'.get? b = some u) (heo : ∃ u, h'.get? e = some u)
    (new : ObjOk X.prog X.w (upd H x o) h' x o) : Inv X pins σ (upd H x o) { s with heap := h', toks := t' } := I.un (Un.write mu he k heo) (I.hok.write mu he k heo new)
theorem Inv.pins_of {pins' : List (Addr × Obj)} (I : Inv X pins σ H s) (h : ∀ p ∈ pins', s.heap.get? p.1 = some p.2 ∧ H p.1 = none ∧ p.1 ≠ X.env.locals ∧ p.1 ∉ X.fs ∧ ∀ v, p.2.data ≠ .cell v) : Inv X pins' σ H s :=
  ⟨I.ok, I.os, I.bare, I.base, I.loc, I.cell, I.free, I.freeC, fun p hp => (List.mem_append.mp hp).elim (fun z => I.pin p (List.mem_append_left _ z)) (h p), I.hok, I.len⟩

theorem nodup_ix {N : List Str} (hN : N.Nodup) {i j : Nat} {x : Str} (a : N[i]? = some x) (b : N[j]? = some x) : i = j := by
  obtain ⟨h1, e1⟩ := List.getElem?_eq_some_iff.mp a
  obtain ⟨h2, e2⟩ := List.getElem?_eq_some_iff.mp b
  exact (List.getElem_inj hN).mp (e1.trans e2.symm)

/-- a name is stored; what changed -/
theorem store_ok2 {M : Model} {A : Around} {E : Value → Shared → Prop} {i : Nat} {x : Str} {v : V} {u : Value} {Q : Unit → Shared → Prop} (I : Inv X pins σ H s) (hN : X.N.Nodup) (hi : X.N[i]? = some x) (hx : Loc X.env.scope x) (r : RelV v u)
    (h : ∀ s', Inv X pins (σ.set i (some v)) H s' → (∃ a, Heap.SameBut a s.heap s'.heap ∧ (a = X.env.locals ∨ X.env.cells.lookup x = some a)) → Q () s') (hf : X.fn x = true ∨ X.env.scope.names.lookup x = some .local := by first | exact .inl rfl | exact .inr rfl | assumption) : wpAny M A (storeName X.env x u) Q E s := by
  obtain ⟨m, hn, hl⟩ := id I.loc
  have hcls : (X.env.scope.kind == .class || (X.env.scope.kind == .module && X.env.locals != X.env.globals)) = false := by rw [I.ok.kind]; rfl
  have hiσ : i < σ.length := by rw [I.len]; exact (List.getElem?_eq_some_iff.mp hi).1
  have cne := I.cne
  have tracked : ∀ {a : Addr} {h' : Heap}, (∃ o, s.heap.get? a = some o ∧ H a = none) → Heap.SameBut a s.heap h' → HOk X.prog X.w H h' := fun {a h'} ha hs b ob e => by
    obtain ⟨_, _, hfree⟩ := ha
    refine (I.hok b ob e).stay (fun c w' hc q => (hs.2 c ?_).trans q) (fun _ q => q) fun _ _ q => q
    rintro rfl
    rcases hc with rfl | hc
    · rw [hfree] at e; cases e
    · rw [hfree] at hc; cases hc
  rcases hx with hk | hk
  · refine wpAny_storeName_local hk hn (fun h' hn' hs => ?_) hcls
    obtain ⟨oL, _, _, hoL, _⟩ := id hn
    refine h _ ⟨I.ok, I.os, I.bare, ⟨fun b o e n hb hx => ?_, fun b o e n hb hx => ?_, I.base.free, fun b o e hx => ?_, I.base.tups, I.base.frzs, I.base.tbls⟩, ⟨_, hn', fun j y v' e1 e2 e3 => ?_⟩, fun y c e => ?_, I.free, I.freeC, fun p hp => ?_, tracked ⟨oL, hoL, I.free⟩ hs, by simpa using I.len⟩ ⟨_, hs, .inl rfl⟩
    · exact (hs.2 b (Nat.ne_of_lt (Nat.lt_of_lt_of_le (Heap.lt_size e) I.ok.above))).trans (I.base.keep b o e n hb hx)
    · obtain ⟨sl, e1⟩ := I.base.slot b o e n hb hx
      exact ⟨sl, (hs.2 b (Nat.ne_of_lt (Nat.lt_of_lt_of_le (Heap.lt_size e) I.ok.above))).trans e1⟩
    · obtain ⟨o', e1⟩ := I.base.there b o e hx
      exact ⟨o', (hs.2 b (Nat.ne_of_lt (Nat.lt_of_lt_of_le (Heap.lt_size e) I.ok.above))).trans e1⟩
    · by_cases hj : j = i
      · subst hj
        rw [hi] at e1; cases e1
        rw [List.getElem?_set_self hiσ] at e2
        cases e2
        exact ⟨u, r, .inl ⟨hk, by simp⟩⟩
      · rw [List.getElem?_set_ne (Ne.symm hj)] at e2
        obtain ⟨u', r', q⟩ := hl j y v' e1 e2 e3
        refine ⟨u', r', ?_⟩
        rcases q with ⟨k, e⟩ | ⟨k, c, e, z⟩
        · refine .inl ⟨k, ?_⟩
          have : y ≠ x := fun e => hj (nodup_ix hN e1 (e ▸ hi))
          simp [this, e]
        · exact .inr ⟨k, c, e, z.sameBut hs (cne y c e)⟩
    · obtain ⟨w', z⟩ := I.cell y c e
      exact ⟨w', z.sameBut hs (cne y c e)⟩
    · obtain ⟨e, n, ne, nf, d⟩ := I.pin p hp
      exact ⟨(hs.2 p.1 ne).trans e, n, ne, nf, d⟩
  · have hfn : X.fn x = true := by
      rcases hf with z | z
      · exact z
      · rw [z] at hk; cases hk
    obtain ⟨c, hc⟩ := I.ok.has x (.inl hk)
    obtain ⟨w', z⟩ := I.cell x c hc
    refine wpAny_storeName_cell I.ok.kind hk hc z (fun h' hc' hs => ?_)
    obtain ⟨oc, hoc, hocd⟩ := id z
    refine h { s with heap := h' } ⟨I.ok, I.os, I.bare, ⟨fun b o e n hb hx => ?_, fun b o e n hb hx => ?_, I.base.free, fun b o e hx => ?_, I.base.tups, I.base.frzs, I.base.tbls⟩, ⟨m, hn.sameBut hs (Ne.symm (cne x c hc)), fun j y v' e1 e2 e3 => ?_⟩, fun y c' e => ?_, I.free, I.freeC, fun p hp => ?_, tracked ⟨oc, hoc, I.freeC x c hc⟩ hs, by simpa using I.len⟩ ⟨c, hs, .inr hc⟩
    · exact (hs.2 b (Nat.ne_of_lt (Nat.lt_of_lt_of_le (Heap.lt_size e) (I.ok.cab x c hfn hc)))).trans (I.base.keep b o e n hb hx)
    · obtain ⟨sl, e1⟩ := I.base.slot b o e n hb hx
      exact ⟨sl, (hs.2 b (Nat.ne_of_lt (Nat.lt_of_lt_of_le (Heap.lt_size e) (I.ok.cab x c hfn hc)))).trans e1⟩
    · obtain ⟨o', e1⟩ := I.base.there b o e hx
      exact ⟨o', (hs.2 b (Nat.ne_of_lt (Nat.lt_of_lt_of_le (Heap.lt_size e) (I.ok.cab x c hfn hc)))).trans e1⟩
    · by_cases hj : j = i
      · subst hj
        rw [hi] at e1; cases e1
        rw [List.getElem?_set_self hiσ] at e2
        cases e2
        exact ⟨u, r, .inr ⟨.inl hk, c, hc, hc'⟩⟩
      · rw [List.getElem?_set_ne (Ne.symm hj)] at e2
        obtain ⟨u', r', q⟩ := hl j y v' e1 e2 e3
        refine ⟨u', r', ?_⟩
        rcases q with q | ⟨k, c', e, z'⟩
        · exact .inl q
        · refine .inr ⟨k, c', e, z'.sameBut hs ?_⟩
          rintro rfl
          exact hj (nodup_ix hN e1 (I.ok.inj _ _ _ e hc ▸ hi))
    · by_cases hcc : c' = c
      · subst hcc; exact ⟨_, hc'⟩
      · obtain ⟨w2, z2⟩ := I.cell y c' e
        exact ⟨w2, z2.sameBut hs hcc⟩
    · obtain ⟨e, n, ne, nf, d⟩ := I.pin p hp
      refine ⟨(hs.2 p.1 ?_).trans e, n, ne, nf, d⟩
      intro q
      rw [q, hoc] at e
      have q' : oc = p.2 := Option.some.inj e
      exact d w' (by rw [← q']; exact hocd)
theorem store_ok {M : Model} {A : Around} {E : Value → Shared → Prop} {i : Nat} {x : Str} {v : V} {u : Value} {Q : Unit → Shared → Prop} (I : Inv X pins σ H s) (hN : X.N.Nodup) (hi : X.N[i]? = some x) (hx : Loc X.env.scope x) (r : RelV v u)
    (h : ∀ s', Inv X pins (σ.set i (some v)) H s' → Q () s') (hf : X.fn x = true ∨ X.env.scope.names.lookup x = some .local := by first | exact .inl rfl | exact .inr rfl | assumption) : wpAny M A (storeName X.env x u) Q E s :=
  store_ok2 I hN hi hx r (fun s' I' _ => h s' I') hf
/-- behind a call or a block, the state as it is -/
theorem Inv.call' {s' : Shared} {ch : List Addr} (I : Inv X pins σ H s) (ho : s'.os = s.os) (u : Un (frs X.stack) ch H H' s.heap s'.heap) (hok : HOk X.prog X.w H' s'.heap) (hg : AllBare s'.gens)
    (hch : ∀ b ∈ ch, (b ∈ X.ex ∨ X.s₀.heap.objs.size ≤ b) ∧ b ≠ X.env.locals ∧ (∀ x c, X.env.cells.lookup x = some c → c ≠ b) ∧ ∀ p ∈ X.pn ++ pins, p.1 ≠ b) : Inv X pins σ H' s' := by
  obtain ⟨h', g', d', t', o'⟩ := s'
  have e : o' = s.os := ho
  subst e
  exact I.call (g' := g') (t' := t') (d' := d') u hok hg hch
end

/-! ### the judgements -/
/-- an exception: its class, its own dict's address (where it has one), the abstract heap behind it -/
abbrev XK := Value → Option Addr → Hp → Prop
abbrev St := List (Option V)
abbrev VK := V → Hp → Prop
/-- an expression's reading; a test's; an argument list's -/
abbrev TE := St → Hp → VK → Prop
abbrev TT := St → Hp → (Bool → Hp → Prop) → Prop
abbrev TA := St → Hp → (List V → Hp → Prop) → Prop
/-- what is wanted behind a statement -/
structure Ends where
  nx : St → Hp → Prop
  rt : VK
  bk : St → Hp → Prop := fun _ _ => False
  ct : St → Hp → Prop := fun _ _ => False
abbrev TS := Ends → St → Hp → Prop

def EP (X : Cx) (pins : List (Addr × Obj)) (σ : St) (Q : VK) (u : Value) (s' : Shared) : Prop := ∃ v H', Inv X pins σ H' s' ∧ RelV v u ∧ Q v H'
def TP (X : Cx) (pins : List (Addr × Obj)) (σ : St) (Q : Bool → Hp → Prop) (b : Bool) (s' : Shared) : Prop := ∃ H', Inv X pins σ H' s' ∧ Q b H'
def AP (X : Cx) (pins : List (Addr × Obj)) (σ : St) (Q : List V → Hp → Prop) (us : List Value) (s' : Shared) : Prop := ∃ vs H', Inv X pins σ H' s' ∧ Vals vs us ∧ Q vs H'
def SP (X : Cx) (pins : List (Addr × Obj)) (D : Ends) (f : Flow) (s' : Shared) : Prop :=
  match f with
  | .next => ∃ σ' H', Inv X pins σ' H' s' ∧ D.nx σ' H'
  | .brk => ∃ σ' H', Inv X pins σ' H' s' ∧ D.bk σ' H'
  | .cont => ∃ σ' H', Inv X pins σ' H' s' ∧ D.ct σ' H'
  | .ret u => ∃ v σ' H', Inv X pins σ' H' s' ∧ RelV v u ∧ D.rt v H'

def PE (X : Cx) (e : Expr) (t : TE) : Prop :=
  ∀ (pins : List (Addr × Obj)) (s : Shared) (σ : St) (H : Hp) (Q : VK), Inv X pins σ H s → t σ H Q → wpAny (model X.prog X.w) X.A (eval e X.env) (EP X pins σ Q) X.xe s
def PT (X : Cx) (e : Expr) (t : TT) : Prop :=
  ∀ (pins : List (Addr × Obj)) (s : Shared) (σ : St) (H : Hp) (Q : Bool → Hp → Prop), Inv X pins σ H s → t σ H Q → wpAny (model X.prog X.w) X.A (isTrue e X.env (eval e X.env)) (TP X pins σ Q) X.xe s
/-- a test whatever its 'whole' is (and, or) -/
def PW (X : Cx) (e : Expr) (t : TT) : Prop :=
  ∀ (whole : Sem Value) (pins : List (Addr × Obj)) (s : Shared) (σ : St) (H : Hp) (Q : Bool → Hp → Prop), Inv X pins σ H s → t σ H Q → wpAny (model X.prog X.w) X.A (isTrue e X.env whole) (TP X pins σ Q) X.xe s
theorem PW.pt {X : Cx} {e : Expr} {t : TT} (h : PW X e t) : PT X e t := h _
/-- an argument list (no star), from the left -/
def PA (X : Cx) (es : List Expr) (t : TA) : Prop :=
  ∀ (pos : Pos) (pins : List (Addr × Obj)) (s : Shared) (σ : St) (H : Hp) (Q : List V → Hp → Prop), Inv X pins σ H s → t σ H Q → wpAny (model X.prog X.w) X.A (spliced (backTo pos (starEach es X.env))) (AP X pins σ Q) X.xe s
def PS (X : Cx) (st : Stmt) (t : TS) : Prop :=
  ∀ (pins : List (Addr × Obj)) (s : Shared) (σ : St) (H : Hp) (D : Ends), Inv X pins σ H s → t D σ H → wpAny (model X.prog X.w) X.A (exec st X.env) (SP X pins D) X.xe s
def PSs (X : Cx) (st : List Stmt) (t : TS) : Prop :=
  ∀ (pins : List (Addr × Obj)) (s : Shared) (σ : St) (H : Hp) (D : Ends), Inv X pins σ H s → t D σ H → wpAny (model X.prog X.w) X.A (execs st X.env) (SP X pins D) X.xe s
/-- weaken the end -/
theorem thn {α : Type} {t : Sem α} {Q Q' : α → Shared → Prop} {M : Model} {A : Around} {E : Value → Shared → Prop} {s : Shared} (h : wpAny M A t Q E s) (hQ : ∀ a s, Q a s → Q' a s) : wpAny M A t Q' E s := wpAny_mono h hQ fun _ _ x => x
end L2

namespace L2
open PySem PySem.Spec PyProof.Rows
section
variable {X : Cx}

/-! ### names and constants -/
def tVar (i : Nat) : TE := fun σ H Q => ∃ v, σ[i]? = some (some v) ∧ Q v H
def tC (v : V) : TE := fun _ H Q => Q v H
theorem pe_var {i : Nat} {x : Str} {pos : Pos} (hN : X.N[i]? = some x) (hv : Vis X.env.scope x) (hd : (x == ("__debug__" : Str)) = false := by decide) (hcd : (x == ("__classdict__" : Str)) = false := by decide) : PE X (.Name x pos) (tVar i) := by
  intro pins s σ H Q I h
  obtain ⟨v, e, h⟩ := h
  obtain ⟨m, hn, hl⟩ := I.loc
  obtain ⟨u, r, l⟩ := hl i x v hN e hv
  have fin : EP X pins σ Q u s := ⟨v, H, I, r, h⟩
  rcases l with ⟨hk, hm⟩ | ⟨hk, c, hc, hcell⟩
  · exact wpAny_Name (wpAny_loadName_local I.ok.kind hk hn hm fin) hd
  · rcases hk with hk | hk
    · exact wpAny_Name (wpAny_loadName_cell I.ok.kind hk hc hcell fin) hd
    · exact wpAny_Name (wpAny_loadName_free I.ok.kind hk hc hcell fin hcd) hd
theorem pe_int {i j pos} : PE X (.Constant (.int i) j pos) (tC (.int i)) := fun _ _ _ H _ I h => wpAny_Constant_int ⟨.int i, H, I.tok _, ⟨_, rfl⟩, h⟩
theorem pe_bl {b j pos} : PE X (.Constant (.bool b) j pos) (tC (.bl b)) := fun _ _ _ H _ I h => Constant_bool ⟨.bl b, H, I, rfl, h⟩
theorem pe_non {j pos} : PE X (.Constant .none j pos) (tC .non) := fun _ _ _ H _ I h => Constant_none ⟨.non, H, I, rfl, h⟩
theorem pe_str {x j pos} : PE X (.Constant (.str x) j pos) (tC (.str x)) := fun _ _ _ H _ I h => Calls.Constant_str ⟨.str x, H, I.tok _, ⟨_, rfl⟩, h⟩

/-- a global name of the def -/
def Gl (X : Cx) (x : Str) : Prop := X.env.kindOf x = some .globalImplicit
theorem ld_glob {E : Value → Shared → Prop} {pins : List (Addr × Obj)} {s : Shared} {σ : St} {H : Hp} {x : Str} {u : Value} {pos : Pos} {Q : Value → Shared → Prop} (I : Inv X pins σ H s) (hg : Gl X x) (hm : X.mg x = some u) (h : Q u s)
    (hd : (x == ("__debug__" : Str)) = false := by decide) : wpAny (model X.prog X.w) X.A (eval (.Name x pos) X.env) Q E s :=
  Calls.Name_function_global I.ok.kind hg (Calls.loadGlobal_global (by rw [I.ok.glob]; exact I.mod.glob.keeps I.bk) hm h) hd
theorem ld_blt {E : Value → Shared → Prop} {pins : List (Addr × Obj)} {s : Shared} {σ : St} {H : Hp} {x : Str} {u : Value} {pos : Pos} {Q : Value → Shared → Prop} (I : Inv X pins σ H s) (hg : Gl X x) (hm : X.mg x = none) (hv : bootBuiltins x = some u) (h : Q u s)
    (hn : x ≠ "__name__" := by decide) (hd : (x == ("__debug__" : Str)) = false := by decide) : wpAny (model X.prog X.w) X.A (eval (.Name x pos) X.env) Q E s := by
  obtain ⟨mb, h1, h2⟩ := I.mod.blt
  exact Calls.Name_function_global I.ok.kind hg (Calls.loadGlobal_builtin (by rw [I.ok.glob]; exact I.mod.glob.keeps I.bk) hm (by rw [I.ok.blt]; exact h1.keeps I.bk) ((h2 x hn).trans hv) h) hd
/-- a module's constant, a class, a function, as a value -/
theorem pe_glob {x : Str} {v : V} {u : Value} {pos : Pos} (hg : Gl X x) (hm : X.mg x = some u) (r : RelV v u) (hd : (x == ("__debug__" : Str)) = false := by decide) : PE X (.Name x pos) (tC v) :=
  fun _ _ _ H _ I h => ld_glob I hg hm ⟨v, H, I, r, h⟩ hd
theorem pe_bltn {x : Str} {v : V} {u : Value} {pos : Pos} (hg : Gl X x) (hm : X.mg x = none) (hv : bootBuiltins x = some u) (r : RelV v u) (hn : x ≠ "__name__" := by decide) (hd : (x == ("__debug__" : Str)) = false := by decide) : PE X (.Name x pos) (tC v) :=
  fun _ _ _ H _ I h => ld_blt I hg hm hv ⟨v, H, I, r, h⟩ hn hd

/-! ### arithmetic -/
variable {a b : Expr} {ta tb : TE} {pos : Pos}
/-! ### comparisons -/
/-- a comparison as a value, as a test -/
def tB (t : TE) : TT := fun σ H Q => t σ H fun x H1 => ∃ c, x = .bl c ∧ Q c H1
/-- an expression whose value is a bool, as a test -/
theorem pt_val {e : Expr} {t : TE} (h : PE X e t) (he : ∀ whole, isTrue e X.env whole = (do let v ← whole; standAt e.pos; holding [v] (truthy v)) := by intro _; rfl) : PT X e (tB t) := by
  intro pins s σ H Q I hw
  refine isTrue_plain (thn (h pins s σ H _ I hw) fun v s1 ⟨x, H1, I1, r1, q1⟩ => ?_) (he _)
  obtain ⟨d, rfl, q⟩ := q1
  cases r1
  exact wpAny_truthy_bool ⟨H1, I1, q⟩

/-! ### and, or, not -/
variable {tA tB' : TT} {rest : List Expr}
def tAnd (t u : TT) : TT := fun σ H Q => t σ H fun c H1 => if c = true then u σ H1 Q else Q false H1
def tOr (t u : TT) : TT := fun σ H Q => t σ H fun c H1 => if c = true then Q true H1 else u σ H1 Q
def tNot (t : TT) : TT := fun σ H Q => t σ H fun c H1 => Q (!c) H1
theorem pw_and1 (ha : PT X a tA) : PW X (.BoolOp .And [a] pos) tA := by
  intro wh pins s σ H Q I h
  refine isTrue_and (thn (ha pins s σ H Q I h) fun c s1 e => ?_)
  cases c with
  | true => exact isTrue_and_nil e
  | false => exact e
theorem pw_or1 (ha : PT X a tA) : PW X (.BoolOp .Or [a] pos) tA := by
  intro wh pins s σ H Q I h
  refine isTrue_or (thn (ha pins s σ H Q I h) fun c s1 e => ?_)
  cases c with
  | false => exact isTrue_or_nil e
  | true => exact e
theorem pw_and (ha : PT X a tA) (hb : PW X (.BoolOp .And (b :: rest) pos) tB') : PW X (.BoolOp .And (a :: b :: rest) pos) (tAnd tA tB') := by
  intro wh pins s σ H Q I h
  refine isTrue_and (thn (ha pins s σ H _ I h) fun c s1 ⟨H1, I1, q1⟩ => ?_)
  cases c with
  | true => exact hb wh pins s1 σ H1 Q I1 q1
  | false => exact ⟨H1, I1, q1⟩
theorem pw_or (ha : PT X a tA) (hb : PW X (.BoolOp .Or (b :: rest) pos) tB') : PW X (.BoolOp .Or (a :: b :: rest) pos) (tOr tA tB') := by
  intro wh pins s σ H Q I h
  refine isTrue_or (thn (ha pins s σ H _ I h) fun c s1 ⟨H1, I1, q1⟩ => ?_)
  cases c with
  | true => exact ⟨H1, I1, q1⟩
  | false => exact hb wh pins s1 σ H1 Q I1 q1
theorem pt_not (ha : PT X a tA) : PT X (.UnaryOp .Not a pos) (tNot tA) := by
  intro pins s σ H Q I h
  exact isTrue_not (ha pins s σ H (fun c H1 => Q (!c) H1) I h)
/-- .. as values (bools) -/
def tAndV (ta tb : TE) : TE := fun σ H Q => ta σ H fun x H1 => ∃ c, x = .bl c ∧ if c = true then tb σ H1 Q else Q (.bl false) H1
def tNotV (ta : TE) : TE := fun σ H Q => ta σ H fun x H1 => ∃ c, x = .bl c ∧ Q (.bl (!c)) H1
theorem pe_one {op} {t : TE} (h : PE X a t) : PE X (.BoolOp op [a] pos) t := fun pins s σ H Q I hw => BoolOp_one (h pins s σ H Q I hw)
theorem pe_and (ha : PE X a ta) (hb : PE X (.BoolOp .And (b :: rest) pos) tb) : PE X (.BoolOp .And (a :: b :: rest) pos) (tAndV ta tb) := by
  intro pins s σ H Q I h
  refine BoolOp_and (thn (ha pins s σ H _ I h) fun v s1 ⟨x, H1, I1, r1, q1⟩ => ?_)
  obtain ⟨c, rfl, q1⟩ := q1
  cases r1
  refine wpAny_truthy_bool ?_
  cases c with
  | true => exact hb pins s1 σ H1 Q I1 q1
  | false => exact ⟨.bl false, H1, I1, rfl, q1⟩
theorem pe_not (ha : PE X a ta) : PE X (.UnaryOp .Not a pos) (tNotV ta) := by
  intro pins s σ H Q I h
  refine UnaryOp_ (thn (ha pins s σ H _ I h) fun v s1 ⟨x, H1, I1, r1, q1⟩ => ?_)
  obtain ⟨c, rfl, q1⟩ := q1
  cases r1
  exact not_of (wpAny_truthy_bool ⟨.bl (!c), H1, I1, rfl, q1⟩)
end
end L2

namespace L2
open PySem PySem.Spec PyProof.Rows

/-! ### a list, a tuple that is read: tracked, frozen, or an object of the module -/
def SqL (K : PySem.W.Frag) (H : Hp) (a : Addr) (xs : List V) : Prop :=
  Rd H a (.lst xs) ∨
    ∃ (o : Obj) (its : Array Value) (n : Nat), K.lookup a = some o ∧ o.cls = .type "list" ∧ o.dict = none ∧ o.data = .seq its n ∧ its.size ≤ sizeLine ∧ Vals xs its.toList
def SqT (K : PySem.W.Frag) (H : Hp) (a : Addr) (xs : List V) : Prop :=
  Rd H a (.tup xs) ∨
    ∃ (o : Obj) (its : Array Value) (n : Nat), K.lookup a = some o ∧ o.cls = .type "tuple" ∧ o.data = .seq its n ∧ its.size ≤ sizeLine ∧ Vals xs its.toList
def absV : Value → Option V
  | .none => some .non
  | .bool b => some (.bl b)
  | .int i _ => some (.int i)
  | .str x _ => some (.str x)
  | .bytes b _ => some (.byt b)
  | .float b _ => some (.flt b)
  | .ref a => some (.ref a)
  | .type n => some (.ty n)
  | _ => none
theorem RelV.abs {x : V} {u : Value} (r : RelV x u) : absV u = some x := by
  cases x with
  | non => cases r; rfl
  | bl _ => cases r; rfl
  | int _ => obtain ⟨t, rfl⟩ := r; rfl
  | str _ => obtain ⟨t, rfl⟩ := r; rfl
  | byt _ => obtain ⟨t, rfl⟩ := r; rfl
  | flt _ => obtain ⟨t, rfl⟩ := r; rfl
  | ref _ => cases r; rfl
  | ty _ => cases r; rfl
theorem RelV.inj {x y : V} {u : Value} (r : RelV x u) (q : RelV y u) : x = y := Option.some.inj (r.abs.symm.trans q.abs)
theorem Vals.inj : ∀ {xs ys : List V} {us : List Value}, Vals xs us → Vals ys us → xs = ys
  | _, _, _, .nil, .nil => rfl
  | _, _, _, .cons r t, .cons r' t' => by rw [r.inj r', Vals.inj t t']
section
variable {X : Cx} {pins : List (Addr × Obj)} {σ : St} {H : Hp} {s : Shared} {a : Addr} {xs ys : List V}
theorem SqL.of {K : PySem.W.Frag} (h : H a = some (.lst xs)) : SqL K H a xs := .inl (.inl h)
theorem SqT.of {K : PySem.W.Frag} (h : H a = some (.tup xs)) : SqT K H a xs := .inl (.inl h)
theorem Inv.list (I : Inv X pins σ H s) (h : SqL X.K H a xs) : ∃ its : List Value, Vals xs its ∧ PlainL s.heap a its.toArray ∧ xs.length ≤ sizeLine := by
  rcases h with h | ⟨o, its, n, hk, hc, hd, hs, hz, r⟩
  · obtain ⟨z, its, n, r, e⟩ := h.ok I.hok
    exact ⟨its, r, ⟨_, n, e, rfl, rfl, rfl⟩, z⟩
  · refine ⟨its.toList, r, ⟨o, n, I.kIn a o hk, hc, hd, by simpa using hs⟩, ?_⟩
    have e := r.length
    simp only [Array.length_toList] at e
    omega
theorem Inv.tuple (I : Inv X pins σ H s) (h : SqT X.K H a xs) : ∃ its : List Value, Vals xs its ∧ IsTup s.heap a its.toArray ∧ xs.length ≤ sizeLine := by
  rcases h with h | ⟨o, its, n, hk, hc, hs, hz, r⟩
  · obtain ⟨z, its, r, p⟩ := h.ok I.hok
    exact ⟨its, r, p, z⟩
  · refine ⟨its.toList, r, ⟨o, I.kIn a o hk, hc, n, by simpa using hs⟩, ?_⟩
    have e := r.length
    simp only [Array.length_toList] at e
    omega
theorem Inv.list_inj (I : Inv X pins σ H s) (h : SqL X.K H a xs) (h' : SqL X.K H a ys) : xs = ys := by
  obtain ⟨its, r, ⟨o, n, e, _, _, d⟩, _⟩ := I.list h
  obtain ⟨its', r', ⟨o', n', e', _, _, d'⟩, _⟩ := I.list h'
  rw [e] at e'; cases e'
  rw [d] at d'
  injection d' with d1 _
  have : its = its' := by simpa using congrArg Array.toList d1
  subst this
  exact r.inj r'
theorem Inv.tuple_inj (I : Inv X pins σ H s) (h : SqT X.K H a xs) (h' : SqT X.K H a ys) : xs = ys := by
  obtain ⟨its, r, ⟨o, e, _, n, d⟩, _⟩ := I.tuple h
  obtain ⟨its', r', ⟨o', e', _, n', d'⟩, _⟩ := I.tuple h'
  rw [e] at e'; cases e'
  rw [d] at d'
  injection d' with d1 _
  have : its = its' := by simpa using congrArg Array.toList d1
  subst this
  exact r.inj r'
end

/-! ### another wish about exceptions -/
abbrev Cx.wish (X : Cx) (E : Value → Shared → Prop) : Cx := { X with xe := E }
/-- no exception leaves -/
abbrev Cx.nox (X : Cx) : Cx := X.wish fun _ _ => False
theorem Cx.Ok.wish {X : Cx} (ok : X.Ok) (E : Value → Shared → Prop) : (X.wish E).Ok :=
  ⟨ok.mod, ok.kind, ok.glob, ok.blt, ok.above, ok.inj, ok.has, ok.cab, ok.hd, ok.frames, ok.stk, ok.exf, ok.bs, ok.bsz, ok.noex, ok.exfs, ok.funs, ok.frf⟩
theorem Cx.Ok.unwish {X : Cx} {E : Value → Shared → Prop} (ok : (X.wish E).Ok) : X.Ok :=
  ⟨ok.mod, ok.kind, ok.glob, ok.blt, ok.above, ok.inj, ok.has, ok.cab, ok.hd, ok.frames, ok.stk, ok.exf, ok.bs, ok.bsz, ok.noex, ok.exfs, ok.funs, ok.frf⟩
section
variable {X : Cx} {pins : List (Addr × Obj)} {σ : St} {H : Hp} {s : Shared} {E : Value → Shared → Prop}
theorem Inv.wish (I : Inv X pins σ H s) (E : Value → Shared → Prop) : Inv (X.wish E) pins σ H s := ⟨I.ok.wish E, I.os, I.bare, I.base, I.loc, I.cell, I.free, I.freeC, I.pin, I.hok, I.len⟩
theorem Inv.unwish (I : Inv (X.wish E) pins σ H s) : Inv X pins σ H s := ⟨I.ok.unwish, I.os, I.bare, I.base, I.loc, I.cell, I.free, I.freeC, I.pin, I.hok, I.len⟩
theorem SP.unwish {D : Ends} {f : Flow} {s' : Shared} (h : SP (X.wish E) pins D f s') : SP X pins D f s' := by
  cases f with
  | next => obtain ⟨σ', H', I, q⟩ := h; exact ⟨σ', H', I.unwish, q⟩
  | brk => obtain ⟨σ', H', I, q⟩ := h; exact ⟨σ', H', I.unwish, q⟩
  | cont => obtain ⟨σ', H', I, q⟩ := h; exact ⟨σ', H', I.unwish, q⟩
  | ret u => obtain ⟨v, σ', H', I, r, q⟩ := h; exact ⟨v, σ', H', I.unwish, r, q⟩
theorem PSs.nox {st : List Stmt} {t : TS} (h : PSs X.nox st t) : PSs X st t := fun pins s σ H D I hw =>
  wpAny_mono (h pins s σ H D (I.wish _) hw) (fun _ _ q => q.unwish) fun _ _ z => False.elim z
end

/-! ### blocks and small statements -/
section
variable {X : Cx} {st : Stmt} {rest : List Stmt} {t u : TS} {e : Expr} {te : TE} {pos : Pos}
def tNext : TS := fun D σ H => D.nx σ H
def tSeq (t u : TS) : TS := fun D σ H => t { D with nx := u D } σ H
theorem pss_nil : PSs X [] tNext := fun _ _ σ H _ I h => wpAny_execs_nil ⟨σ, H, I, h⟩
theorem pss_cons (h1 : PS X st t) (h2 : PSs X rest u) : PSs X (st :: rest) (tSeq t u) := by
  intro pins s σ H D I h
  refine wpAny_execs_cons (thn (h1 pins s σ H { D with nx := u D } I h) fun f s1 q => ?_)
  cases f with
  | next =>
    obtain ⟨σ', H', I', q⟩ := q
    exact h2 pins s1 σ' H' D I' q
  | ret v => exact q
  | brk => exact q
  | cont => exact q
theorem pss_one (h1 : PS X st t) : PSs X [st] t := by
  intro pins s σ H D I h
  refine wpAny_execs_cons (thn (h1 pins s σ H D I h) fun f s1 q => ?_)
  cases f with
  | next => exact wpAny_execs_nil q
  | ret v => exact q
  | brk => exact q
  | cont => exact q
/-- in a def's body nothing is shown -/
theorem Inv.quiet {pins : List (Addr × Obj)} {σ : St} {H : Hp} {s : Shared} (I : Inv X pins σ H s) : interactive X.env = false := by simp [interactive, I.ok.kind]
/-- an expression whose value is dropped -/
def tDrop (te : TE) : TS := fun D σ H => te σ H fun _ H1 => D.nx σ H1
theorem ps_expr (he : PE X e te) (hs : swapsWith e none pos.line X.env = pure false := by rfl) : PS X (.Expr e pos) (tDrop te) := by
  intro pins s σ H D I h
  exact wpAny_Expr_any (thn (he pins s σ H _ I h) fun v s1 ⟨x, H1, I1, r1, q1⟩ => ⟨σ, H1, I1, q1⟩) I.quiet hs
def tRet (te : TE) : TS := fun D σ H => te σ H D.rt
theorem ps_ret (he : PE X e te) : PS X (.Return (some e) pos) (tRet te) := by
  intro pins s σ H D I h
  exact wpAny_Return_some (thn (he pins s σ H _ I h) fun v s1 ⟨x, H1, I1, r1, q1⟩ => ⟨x, σ, H1, I1, r1, q1⟩)
def tIfS (c : TT) (t u : TS) : TS := fun D σ H => c σ H fun b H1 => if b = true then t D σ H1 else u D σ H1
theorem ps_if {c : Expr} {a b : List Stmt} {tc : TT} (hc : PT X c tc) (ha : PSs X a t) (hb : PSs X b u) : PS X (.If c a b pos) (tIfS tc t u) := by
  intro pins s σ H D I h
  refine wpAny_If (thn (hc pins s σ H _ I h) fun d s1 ⟨H1, I1, q1⟩ => ?_)
  cases d with
  | true => exact ha pins s1 σ H1 D I1 q1
  | false => exact hb pins s1 σ H1 D I1 q1
end

/-! ### targets -/
abbrev TG := V → St → Hp → (St → Hp → Prop) → Prop
abbrev TGs := List V → St → Hp → (St → Hp → Prop) → Prop
def PG (X : Cx) (target : Expr) (t : TG) : Prop :=
  ∀ (pins : List (Addr × Obj)) (s : Shared) (σ : St) (H : Hp) (v : V) (u : Value) (Q : St → Hp → Prop), Inv X pins σ H s → RelV v u → t v σ H Q →
    wpAny (model X.prog X.w) X.A (assign target X.env u) (fun _ s' => ∃ σ' H', Inv X pins σ' H' s' ∧ Q σ' H') X.xe s
/-- several targets, one after another -/
def PGs (X : Cx) (ts : List Expr) (t : TGs) : Prop :=
  ∀ (pins : List (Addr × Obj)) (s : Shared) (σ : St) (H : Hp) (vs : List V) (us : List Value) (Q : St → Hp → Prop), Inv X pins σ H s → Vals vs us → t vs σ H Q →
    wpAny (model X.prog X.w) X.A (assignInOrder ((assignEach ts X.env).map (·.2)) us) (fun _ s' => ∃ σ' H', Inv X pins σ' H' s' ∧ Q σ' H') X.xe s
section
variable {X : Cx} {pos : Pos}
def gName (i : Nat) : TG := fun v σ H Q => Q (σ.set i (some v)) H
theorem pg_name {i : Nat} {x : Str} (hN : X.N.Nodup) (hi : X.N[i]? = some x) (hx : Loc X.env.scope x) (hf : X.fn x = true ∨ X.env.scope.names.lookup x = some .local := by first | exact .inl rfl | exact .inr rfl | assumption) : PG X (.Name x pos) (gName i) := by
  intro pins s σ H v u Q I r h
  exact wpAny_assign_Name (store_ok I hN hi hx r (fun s' I' => ⟨_, H, I', h⟩) hf)
def gNil : TGs := fun vs σ H Q => vs = [] ∧ Q σ H
def gCons (t : TG) (u : TGs) : TGs := fun vs σ H Q => ∃ v r, vs = v :: r ∧ t v σ H fun σ' H' => u r σ' H' Q
theorem pgs_nil : PGs X [] gNil := by
  intro pins s σ H vs us Q I r h
  obtain ⟨e, h⟩ := h
  subst e
  cases r
  exact assignInOrder_nil ⟨σ, H, I, h⟩
theorem pgs_cons {e : Expr} {es : List Expr} {t : TG} {u : TGs} (h1 : PG X e t) (h2 : PGs X es u)
    (hs : (assignEach (e :: es) X.env).map (·.2) = assign e X.env :: (assignEach es X.env).map (·.2) := by rfl) : PGs X (e :: es) (gCons t u) := by
  intro pins s σ H vs us Q I r h
  obtain ⟨v, vr, e1, h⟩ := h
  subst e1
  cases r with
  | cons r rr =>
    rw [hs]
    refine assignInOrder_cons (thn (h1 pins s σ H _ _ _ I r h) fun _ s1 ⟨σ1, H1, I1, q1⟩ => ?_)
    exact h2 pins s1 σ1 H1 _ _ Q I1 rr q1
/-- (a, b, ..) = a tuple of that length -/
def gTup (K : PySem.W.Frag) (n : Nat) (t : TGs) : TG := fun v σ H Q => ∃ a xs, v = .ref a ∧ SqT K H a xs ∧ xs.length = n ∧ t xs σ H Q
theorem pg_tup {es : List Expr} {k : Nat} {t : TGs} {n : Nat} (hc : X.calm = true) (h : PGs X es t)
    (hn : (assignEach es X.env).length = n := by rfl) (hst : (assignEach es X.env).findIdx? (·.1) = none := by rfl) : PG X (.Tuple es k pos) (gTup X.K n t) := by
  intro pins s σ H v u Q I r hw
  obtain ⟨a, xs, e1, hq, hl, hw⟩ := hw
  subst e1
  cases r
  obtain ⟨its, rv, ht, hz⟩ := I.tuple hq
  refine assign_Tuple_tuple (I.ok.hd hc) ht (by simp [hn, ← hl, rv.length]) hst fun h' hx => ?_
  have I1 : Inv X pins σ H { s with heap := h' } := I.kept (t' := s.toks) fun b o e => hx b o (Nat.ne_of_lt (Heap.lt_size e)) e
  exact h pins _ σ H xs _ Q I1 (by simpa using rv) hw
/-- target = value -/
def tAsg (te : TE) (g : TG) : TS := fun D σ H => te σ H fun x H1 => g x σ H1 D.nx
/-- name = value -/
theorem ps_set {i : Nat} {x : Str} {e : Expr} {te : TE} {pos' : Pos} (hN : X.N.Nodup) (hi : X.N[i]? = some x) (hx : Loc X.env.scope x) (he : PE X e te) (hs : swapsWith e (some (.Name x pos')) pos.line X.env = pure false := by rfl) (hf : X.fn x = true ∨ X.env.scope.names.lookup x = some .local := by first | exact .inl rfl | exact .inr rfl | assumption) :
    PS X (.Assign [.Name x pos'] e pos) (tAsg te (gName i)) := by
  intro pins s σ H D I h
  refine wpAny_Assign_Name (thn (he pins s σ H _ I h) fun v s1 ⟨y, H1, I1, r1, q1⟩ => ?_) hs
  exact store_ok I1 hN hi hx r1 (fun s2 I2 => ⟨_, H1, I2, q1⟩) hf
end

/-! ### while -/
section
variable {X : Cx} {pos : Pos}
/-- the invariant W with its measure -/
def tWhile (c : TT) (tb : TS) : TS := fun D σ H => ∃ W : Nat → St → Hp → Prop, (∃ m, W m σ H) ∧ ∀ m σ H, W m σ H →
  c σ H fun b H1 => if b = true then ∃ N : St → Hp → Prop, (∀ σ' H', N σ' H' → ∃ m', m' < m ∧ W m' σ' H') ∧ tb { D with nx := N, ct := N, bk := D.nx } σ H1 else D.nx σ H1
theorem ps_while {c : Expr} {body : List Stmt} {tc : TT} {tb : TS} (hp : PassesOwn (model X.prog X.w) X.A X.env X.xe) (hc : PT X c tc) (hb : PSs X body tb) : PS X (.While c body [] pos) (tWhile tc tb) := by
  intro pins s σ H D I h
  obtain ⟨W, ⟨m0, w0⟩, turn⟩ := h
  refine wpAny_While (codeAny_whileLoop (fun n s' => ∃ σ' H', Inv X pins σ' H' s' ∧ W n σ' H') ?_ m0 ⟨σ, H, I, w0⟩)
  rintro n s1 ⟨σ1, H1, I1, w1⟩
  refine wpAny_passesOwn hp (thn (hc pins s1 σ1 H1 _ I1 (turn n σ1 H1 w1)) fun b s2 ⟨H2, I2, q2⟩ => ?_)
  cases b with
  | true =>
    obtain ⟨N, hN, q2⟩ := q2
    rw [if_pos rfl]
    refine wpAny_passesOwn hp (thn (hb pins s2 σ1 H2 _ I2 q2) fun f s3 q3 => ?_)
    cases f with
    | next =>
      obtain ⟨σ3, H3, I3, n3⟩ := q3
      obtain ⟨m', hm, w3⟩ := hN σ3 H3 n3
      exact ⟨m', hm, σ3, H3, I3, w3⟩
    | cont =>
      obtain ⟨σ3, H3, I3, n3⟩ := q3
      obtain ⟨m', hm, w3⟩ := hN σ3 H3 n3
      exact ⟨m', hm, σ3, H3, I3, w3⟩
    | brk => exact q3
    | ret v => exact q3
  | false =>
    rw [if_neg Bool.false_ne_true]
    exact wpAny_execs_nil ⟨σ1, H2, I2, q2⟩
end

/-! ### what a loop or a comprehension walks -/
/-- at turn i: it yields x (the heap may grow), or it stops -/
structure It where
  go : Nat → Hp → Prop
  yld : Nat → Hp → V → Hp → Prop
  stop : Nat → Hp → Prop
/-- the iterator's own objects may turn: they are not the frame's, not pinned, younger than the entry (or a comprehension's own) -/
def FpOk (X : Cx) (pins : List (Addr × Obj)) (H : Hp) (b : Addr) : Prop :=
  H b = none ∧ b ≠ X.env.locals ∧ b ∉ X.fs ∧ (b ∈ X.ex ∨ X.s₀.heap.objs.size ≤ b) ∧ (∀ x c, X.env.cells.lookup x = some c → c ≠ b) ∧ ∀ p ∈ X.pn ++ pins, p.1 ≠ b
theorem Inv.fpOk {X : Cx} {pins : List (Addr × Obj)} {σ : St} {H H' : Hp} {s : Shared} {b : Addr} (I : Inv X pins σ H s) (hb : s.heap.objs.size ≤ b) (hn : H' b = none) : FpOk X pins H' b := by
  refine ⟨hn, Nat.ne_of_gt (Nat.lt_of_lt_of_le I.lt hb), I.nofs hb, .inr (Nat.le_trans I.sz hb), fun x c e z => ?_, fun p hp z => ?_⟩
  · obtain ⟨v, q⟩ := I.cell x c e
    exact absurd (Nat.lt_of_lt_of_le q.lt (by rw [z]; exact hb)) (Nat.lt_irrefl _)
  · exact absurd (Nat.lt_of_lt_of_le (Heap.lt_size (I.pin p hp).1) (by rw [z]; exact hb)) (Nat.lt_irrefl _)
structure Turn (P : Program) (w : World) (K : PySem.W.Frag) (tg : Expr) (J : It) (fp : List Addr) (it : Addr) (tn : Nat → Heap → Prop) : Prop where
  mem : it ∈ fp
  obj : ∀ i h, tn i h → ∀ b ∈ fp, ∃ o, h.get? b = some o ∧ ∀ v, o.data ≠ .cell v
  keep : ∀ i h h', tn i h → (∀ b ∈ fp, ∀ o, h.get? b = some o → h'.get? b = some o) → tn i h'
  item : ∀ (X : Cx), X.prog = P → X.w = w → X.K = K → X.calm = true → ∀ (i : Nat) (pins : List (Addr × Obj)) (s : Shared) (σ : St) (H : Hp) (E : Value → Shared → Prop), Inv X pins σ H s → (∀ b ∈ fp, FpOk X pins H b) → tn i s.heap → J.go i H →
    wpAny (model P w) X.A (pyNext (.ref it)) (fun r s1 => ∃ u, r = some u ∧
      wpAny (model P w) X.A (letOwnedTupleGo tg (.ref it) u) (fun _ s2 => ∃ x H', Inv X pins σ H' s2 ∧ RelV x u ∧ J.yld i H x H' ∧ tn (i + 1) s2.heap ∧ ∀ b ∈ fp, H' b = none) E s1) E s
  done : ∀ (X : Cx), X.prog = P → X.w = w → X.K = K → X.calm = true → ∀ (i : Nat) (pins : List (Addr × Obj)) (s : Shared) (σ : St) (H : Hp) (E : Value → Shared → Prop), Inv X pins σ H s → (∀ b ∈ fp, FpOk X pins H b) → tn i s.heap → J.stop i H →
    wpAny (model P w) X.A (pyNext (.ref it)) (fun r s1 => r = none ∧ Inv X pins σ H s1) E s
  self : ∀ (A : Around) (i : Nat) (s : Shared) (Q : Value → Shared → Prop) (E : Value → Shared → Prop), tn i s.heap → Q (.ref it) s → wpAny (model P w) A (pyIter (.ref it)) Q E s
abbrev TI := St → Hp → (It → Hp → Prop) → Prop
/-- an iterator has come -/
def PIE (X : Cx) (pins : List (Addr × Obj)) (σ : St) (tg : Expr) (R : It → Hp → Prop) (itv : Value) (s2 : Shared) : Prop :=
  ∃ (it : Addr) (fp : List Addr) (tn : Nat → Heap → Prop) (J : It) (H' : Hp), itv = .ref it ∧ Inv X pins σ H' s2 ∧ Turn X.prog X.w X.K tg J fp it tn ∧ tn 0 s2.heap ∧ (∀ b ∈ fp, FpOk X pins H' b) ∧ R J H'
def PI (X : Cx) (tg iter : Expr) (wi : TI) : Prop :=
  ∀ (pins : List (Addr × Obj)) (s : Shared) (σ : St) (H : Hp) (R : It → Hp → Prop), Inv X pins σ H s → wi σ H R →
    wpAny (model X.prog X.w) X.A (eval iter X.env) (fun v s1 => wpAny (model X.prog X.w) X.A (pyIter v) (PIE X pins σ tg R) X.xe s1) X.xe s

/-- the step ahead of the store is nothing for an iterator that keeps no tuple -/
theorem go_of {M : Model} {A : Around} {E : Value → Shared → Prop} {s : Shared} {tg : Expr} {it : Addr} {u : Value} {o : Obj} {n : String} {vs : Array Value} {Q : Unit → Shared → Prop} (ho : s.heap.get? it = some o) (hc : o.cls = .type n) (hd : o.data = .fields vs)
    (hn : ["enumerate", "zip", "dict_itemiterator", "dict_reverseitemiterator", "odict_iterator", "itertools.zip_longest", "itertools.pairwise"].contains n = false) (hQ : Q () s) : wpAny M A (letOwnedTupleGo tg (.ref it) u) Q E s := by
  unfold letOwnedTupleGo
  cases tg <;> first
    | exact wpAny_pure hQ
    | (cases u <;> first
        | exact wpAny_pure hQ
        | (refine wpAny_bind (wpAny_load ho ?_)
           rw [hc, hd]
           show wpAny M A (if (["enumerate", "zip", "dict_itemiterator", "dict_reverseitemiterator", "odict_iterator", "itertools.zip_longest", "itertools.pairwise"].contains n && vs[0]? == some (rawInt _)) = true then _ else _) Q E s
           rw [if_neg (by intro h; rw [hn, Bool.false_and] at h; cases h)]
           exact wpAny_pure hQ))

/-- the list at a, as it stands at each turn (a loop may append to it) -/
def Itl (K : PySem.W.Frag) (a : Addr) : It :=
  ⟨fun i H => ∃ xs x, SqL K H a xs ∧ xs[i]? = some x, fun i H x H' => H' = H ∧ ∀ xs, SqL K H a xs → xs[i]? = some x, fun i H => ∃ xs, SqL K H a xs ∧ xs.length ≤ i⟩
def Itt (K : PySem.W.Frag) (a : Addr) : It :=
  ⟨fun i H => ∃ xs x, SqT K H a xs ∧ xs[i]? = some x, fun i H x H' => H' = H ∧ ∀ xs, SqT K H a xs → xs[i]? = some x, fun i H => ∃ xs, SqT K H a xs ∧ xs.length ≤ i⟩
/-- lo, lo + 1, .. (n of them) -/
def Itr (lo : Int) (n : Nat) : It := ⟨fun i _ => i < n, fun i H x H' => H' = H ∧ x = .int (lo + i), fun i _ => n ≤ i⟩
theorem turn_list {P : Program} {w : World} {K : PySem.W.Frag} {tg : Expr} (a it : Addr) : Turn P w K tg (Itl K a) [it] it (fun i h => h.IsListIter it a i) where
  mem := by simp
  obj := fun i h st b hb => by
    have e : b = it := by simpa using hb
    subst e
    obtain ⟨o, e, c, d⟩ := st
    exact ⟨o, e, fun v z => by rw [d] at z; cases z⟩
  keep := fun i h h' st k => st.at fun o e => k it (by simp) o e
  item := by
    intro X hP hw hK hc i pins s σ H E I hf st hg
    subst hP hw hK
    obtain ⟨xs, x, hq, hx⟩ := hg
    obtain ⟨its, rv, p, hz⟩ := I.list hq
    obtain ⟨u, hu, ru⟩ := rv.get hx
    obtain ⟨f0, f1, f2, f3, f4, f5⟩ := hf it (by simp)
    refine wpAny_pyNext_list_item st p.isList (x := u) (by simpa using hu) fun h' st' sb => ?_
    have I1 : Inv X pins σ H { s with heap := h' } := I.turned (t' := s.toks) (fun b o hb e => (sb.2 b hb).trans e) f0 f1 f3 f4 f5
    obtain ⟨o, e, c, d⟩ := id st'
    exact ⟨u, rfl, go_of (s := { s with heap := h' }) e c d (by decide) ⟨x, H, I1, ru, ⟨rfl, fun ys hy => by rw [I.list_inj hy hq]; exact hx⟩, st', fun b hb => (hf b hb).1⟩⟩
  done := by
    intro X hP hw hK hc i pins s σ H E I hf st hg
    subst hP hw hK
    obtain ⟨xs, hq, hx⟩ := hg
    obtain ⟨its, rv, p, hz⟩ := I.list hq
    obtain ⟨f0, f1, f2, f3, f4, f5⟩ := hf it (by simp)
    have hl := rv.length
    exact wpAny_pyNext_list_end (I.ok.hd hc) st p.isList (by simp; omega) fun h' eb => ⟨rfl, I.turned (t' := s.toks) (fun b o hb e => eb b o hb e) f0 f1 f3 f4 f5⟩
  self := fun _ _ _ _ _ st h => wpAny_pyIter_listiter st h
theorem turn_tuple {P : Program} {w : World} {K : PySem.W.Frag} {tg : Expr} (a it : Addr) : Turn P w K tg (Itt K a) [it] it (fun i h => h.IsTupleIter it a i) where
  mem := by simp
  obj := fun i h st b hb => by
    have e : b = it := by simpa using hb
    subst e
    obtain ⟨o, e, c, d⟩ := st
    exact ⟨o, e, fun v z => by rw [d] at z; cases z⟩
  keep := fun i h h' st k => st.at fun o e => k it (by simp) o e
  item := by
    intro X hP hw hK hc i pins s σ H E I hf st hg
    subst hP hw hK
    obtain ⟨xs, x, hq, hx⟩ := hg
    obtain ⟨its, rv, p, hz⟩ := I.tuple hq
    obtain ⟨u, hu, ru⟩ := rv.get hx
    obtain ⟨f0, f1, f2, f3, f4, f5⟩ := hf it (by simp)
    refine wpAny_pyNext_tuple_item st (show s.heap.IsTuple a its.toArray from p) (x := u) (by simpa using hu) fun h' st' sb => ?_
    have I1 : Inv X pins σ H { s with heap := h' } := I.turned (t' := s.toks) (fun b o hb e => (sb.2 b hb).trans e) f0 f1 f3 f4 f5
    obtain ⟨o, e, c, d⟩ := id st'
    exact ⟨u, rfl, go_of (s := { s with heap := h' }) e c d (by decide) ⟨x, H, I1, ru, ⟨rfl, fun ys hy => by rw [I.tuple_inj hy hq]; exact hx⟩, st', fun b hb => (hf b hb).1⟩⟩
  done := by
    intro X hP hw hK hc i pins s σ H E I hf st hg
    subst hP hw hK
    obtain ⟨xs, hq, hx⟩ := hg
    obtain ⟨its, rv, p, hz⟩ := I.tuple hq
    obtain ⟨f0, f1, f2, f3, f4, f5⟩ := hf it (by simp)
    have hl := rv.length
    exact wpAny_pyNext_tuple_end (I.ok.hd hc) st (show s.heap.IsTuple a its.toArray from p) (by simp; omega) fun h' eb => ⟨rfl, I.turned (t' := s.toks) (fun b o hb e => eb b o hb e) f0 f1 f3 f4 f5⟩
  self := fun _ _ _ _ _ st h => wpAny_pyIter_tupleiter st h
theorem turn_range {P : Program} {w : World} {K : PySem.W.Frag} {tg : Expr} (it : Addr) (lo : Int) (n : Nat) : Turn P w K tg (Itr lo n) [it] it (fun i h => IsRangeIter h it (lo + (i : Nat) * 1) ((n : Int) - (i : Nat)) 1) where
  mem := by simp
  obj := fun i h st b hb => by
    have e : b = it := by simpa using hb
    subst e
    exact ⟨_, st, fun v z => by
      have z' : Data.fields _ = Data.cell v := z
      cases z'⟩
  keep := fun i h h' st k => k it (by simp) _ st
  item := by
    intro X hP hw hK hc i pins s σ H E I hf st hg
    subst hP hw hK
    obtain ⟨f0, f1, f2, f3, f4, f5⟩ := hf it (by simp)
    have W := Walks.range (prog := X.prog) (w := X.w) (I.ok.hd hc) it lo 1 n
    refine W.item i s _ _ hg st fun v h' tk hv st' kk => ?_
    obtain ⟨t, rfl⟩ := hv
    have I1 : Inv X pins σ H { s with heap := h', toks := tk } := I.turned (fun b o hb e => kk b o (by simpa using hb) e) f0 f1 f3 f4 f5
    refine ⟨_, rfl, go_of (s := { s with heap := h', toks := tk }) (n := "range_iterator") st' rfl rfl (by decide) ⟨.int (lo + i), H, I1, ⟨t, ?_⟩, ⟨rfl, rfl⟩, st', fun b hb => (hf b hb).1⟩⟩
    rw [Int.mul_one]
  done := by
    intro X hP hw hK hc i pins s σ H E I hf st hg
    subst hP hw hK
    obtain ⟨f0, f1, f2, f3, f4, f5⟩ := hf it (by simp)
    exact wpAny_pyNext_range_end (I.ok.hd hc) st (by have : n ≤ i := hg; omega) fun h' eb => ⟨rfl, I.turned (t' := s.toks) (fun b o hb e => eb b o hb e) f0 f1 f3 f4 f5⟩
  self := fun _ _ _ _ _ st h => wpAny_pyIter_rangeiter st h
end L2

namespace L2
open PySem PySem.Spec PyProof.Rows
section
variable {X : Cx} {tg : Expr}
def iList (K : PySem.W.Frag) (tl : TE) : TI := fun σ H R => tl σ H fun x H1 => ∃ a, x = .ref a ∧ (∃ xs, SqL K H1 a xs) ∧ R (Itl K a) H1
def iTup (K : PySem.W.Frag) (tl : TE) : TI := fun σ H R => tl σ H fun x H1 => ∃ a, x = .ref a ∧ (∃ xs, SqT K H1 a xs) ∧ R (Itt K a) H1
theorem pi_list {l : Expr} {tl : TE} (hl : PE X l tl) : PI X tg l (iList X.K tl) := by
  intro pins s σ H R I h
  refine thn (hl pins s σ H _ I h) fun v s1 ⟨x, H1, I1, r1, q1⟩ => ?_
  obtain ⟨a, e, ⟨xs, hq⟩, q⟩ := q1
  subst e
  cases r1
  obtain ⟨its, rv, p, hz⟩ := I1.list hq
  refine wpAny_pyIter_list p.isList ?_
  refine ⟨s1.heap.objs.size, [s1.heap.objs.size], _, _, H1, rfl, I1.kept (t' := s1.toks) fun b o e => Heap.get?_push_of_some _ e, turn_list a _, ⟨_, Heap.get?_push_size _ rfl, rfl, rfl⟩, fun b hb => ?_, q⟩
  have e : b = s1.heap.objs.size := by simpa using hb
  subst e
  exact I1.fpOk (Nat.le_refl _) (I1.hok.fresh (Nat.le_refl _))
theorem pi_tup {l : Expr} {tl : TE} (hl : PE X l tl) : PI X tg l (iTup X.K tl) := by
  intro pins s σ H R I h
  refine thn (hl pins s σ H _ I h) fun v s1 ⟨x, H1, I1, r1, q1⟩ => ?_
  obtain ⟨a, e, ⟨xs, hq⟩, q⟩ := q1
  subst e
  cases r1
  obtain ⟨its, rv, p, hz⟩ := I1.tuple hq
  refine wpAny_pyIter_tuple (show s1.heap.IsTuple a its.toArray from p) ?_
  refine ⟨s1.heap.objs.size, [s1.heap.objs.size], _, _, H1, rfl, I1.kept (t' := s1.toks) fun b o e => Heap.get?_push_of_some _ e, turn_tuple a _, ⟨_, Heap.get?_push_size _ rfl, rfl, rfl⟩, fun b hb => ?_, q⟩
  have e : b = s1.heap.objs.size := by simpa using hb
  subst e
  exact I1.fpOk (Nat.le_refl _) (I1.hok.fresh (Nat.le_refl _))
/-- a range object just made, walked -/
theorem range_it {pins : List (Addr × Obj)} {σ : St} {H : Hp} {s : Shared} {R : It → Hp → Prop} {E : Value → Shared → Prop} {lo hi : Int} {t u v : Tok} {tk : Nat} (I : Inv X pins σ H s) (h1 : -(2 ^ 62) ≤ lo) (h2 : lo < 2 ^ 62) (h3 : -(2 ^ 62) ≤ hi) (h4 : hi < 2 ^ 62)
    (q : R (Itr lo (hi - lo).toNat) H) : wpAny (model X.prog X.w) X.A (pyIter (.ref s.heap.objs.size)) (PIE X pins σ tg R) E { s with heap := s.heap.push { cls := .type "range", data := .fields #[.int lo t, .int hi u, .int 1 v] }, toks := tk } := by
  refine wpAny_pyIter_range (IsRange.new ..) (small_one h1 h2 h3 h4) ?_
  have I1 : Inv X pins σ H { s with heap := s.heap.push { cls := .type "range", data := .fields #[.int lo t, .int hi u, .int 1 v] }, toks := tk } := I.kept fun b o e => Heap.get?_push_of_some _ e
  refine ⟨(s.heap.push { cls := .type "range", data := .fields #[.int lo t, .int hi u, .int 1 v] }).objs.size, [(s.heap.push { cls := .type "range", data := .fields #[.int lo t, .int hi u, .int 1 v] }).objs.size], _, _, H, rfl,
    I1.kept (t' := tk) fun b o e => Heap.get?_push_of_some _ e, turn_range _ lo (hi - lo).toNat, ?_, fun b hb => ?_, q⟩
  · have e1 : lo + ((0 : Nat) : Int) * 1 = lo := by simp
    have e2 : (((hi - lo).toNat : Nat) : Int) - ((0 : Nat) : Int) = Builtin.Range.rangeSize lo hi 1 := by rw [rangeSize_one]; split <;> omega
    show IsRangeIter _ _ (lo + ((0 : Nat) : Int) * 1) ((((hi - lo).toNat : Nat) : Int) - ((0 : Nat) : Int)) 1
    rw [e1, e2]
    exact Heap.get?_push_size _ rfl
  · have e : b = (s.heap.push { cls := .type "range", data := .fields #[.int lo t, .int hi u, .int 1 v] }).objs.size := by simpa using hb
    subst e
    exact I1.fpOk (Nat.le_refl _) (I1.hok.fresh (Nat.le_refl _))
def iRng1 (ta : TA) : TI := fun σ H R => ta σ H fun vs H1 => ∃ j : Int, vs = [.int j] ∧ -(2 ^ 62) ≤ j ∧ j < 2 ^ 62 ∧ R (Itr 0 j.toNat) H1
def iRng2 (ta : TA) : TI := fun σ H R => ta σ H fun vs H1 => ∃ i j : Int, vs = [.int i, .int j] ∧ (-(2 ^ 62) ≤ i ∧ i < 2 ^ 62 ∧ -(2 ^ 62) ≤ j ∧ j < 2 ^ 62) ∧ R (Itr i (j - i).toNat) H1
theorem pi_range1 {a : Expr} {ta : TA} {p pos : Pos} (hg : Gl X "range") (hm : X.mg "range" = none) (ha : PA X [a] ta) (hs : starEach [a] X.env = [(false, eval a X.env)] := by rfl) : PI X tg (.Call (.Name "range" p) [a] [] pos) (iRng1 ta) := by
  intro pins s σ H R I h
  refine Call_ (ld_blt I hg hm boot_range (PyProof.Rows.callWith_type1 (thn (ha pos pins s σ H _ I h) fun us s1 ⟨vs, H1, I1, r1, q1⟩ => ?_) hs rfl))
  obtain ⟨j, e, q1, q2, q⟩ := q1
  subst e
  cases r1 with
  | cons r rr =>
    cases rr
    obtain ⟨t, rfl⟩ := r
    exact call_range_1 (range_it I1 (by omega) (by omega) q1 q2 (by simpa using q))
theorem pi_range2 {a b : Expr} {ta : TA} {p pos : Pos} (hg : Gl X "range") (hm : X.mg "range" = none) (ha : PA X [a, b] ta) (hs : starEach [a, b] X.env = [(false, eval a X.env), (false, eval b X.env)] := by rfl) (hs2 : starEach [b] X.env = [(false, eval b X.env)] := by rfl) :
    PI X tg (.Call (.Name "range" p) [a, b] [] pos) (iRng2 ta) := by
  intro pins s σ H R I h
  refine Call_ (ld_blt I hg hm boot_range (PyProof.Rows.callWith_type1 (thn (ha pos pins s σ H _ I h) fun us s1 ⟨vs, H1, I1, r1, q1⟩ => ?_) (by rw [hs, hs2]) (by rw [hs2]; rfl)))
  obtain ⟨i, j, e, ⟨q1, q2, q3, q4⟩, q⟩ := q1
  subst e
  cases r1 with
  | cons r rr =>
    cases rr with
    | cons r' rr =>
      cases rr
      obtain ⟨t, rfl⟩ := r
      obtain ⟨t', rfl⟩ := r'
      exact call_range_2 (range_it I1 q1 q2 q3 q4 q)

/-! ### for -/
/-- W: the invariant by the turn and a measure; N: what the body is to reach -/
def tFor (wi : TI) (g : TG) (tb : TS) : TS := fun D σ H => wi σ H fun J H1 => ∃ W : Nat → Nat → St → Hp → Prop, (∃ m, W 0 m σ H1) ∧ ∀ i m σ H, W i m σ H →
  (J.stop i H ∧ D.nx σ H) ∨ (J.go i H ∧ ∃ N : St → Hp → Prop, (∀ σ' H', N σ' H' → ∃ m', m' < m ∧ W (i + 1) m' σ' H') ∧ ∀ x H', J.yld i H x H' → g x σ H' fun σ2 H2 => tb { D with nx := N, ct := N, bk := D.nx } σ2 H2)
/-- the records at fp as they stand -/
def pinsAt (fp : List Addr) (h : Heap) : List (Addr × Obj) := fp.filterMap fun b => (h.get? b).map fun o => (b, o)
theorem mem_pinsAt {fp : List Addr} {h : Heap} {b : Addr} {o : Obj} (hb : b ∈ fp) (e : h.get? b = some o) : (b, o) ∈ pinsAt fp h := List.mem_filterMap.mpr ⟨b, hb, by rw [e]; rfl⟩
theorem of_pinsAt {fp : List Addr} {h : Heap} {p : Addr × Obj} (hp : p ∈ pinsAt fp h) : p.1 ∈ fp ∧ h.get? p.1 = some p.2 := by
  obtain ⟨b, hb, e⟩ := List.mem_filterMap.mp hp
  cases q : h.get? b with
  | none => rw [q] at e; cases e
  | some o =>
    rw [q] at e
    have e' : (b, o) = p := Option.some.inj e
    subst e'
    exact ⟨hb, q⟩
theorem Inv.pinned {pins : List (Addr × Obj)} {σ : St} {H : Hp} {s : Shared} {fp : List Addr} (I : Inv X pins σ H s) (hf : ∀ b ∈ fp, FpOk X pins H b) (ho : ∀ b ∈ fp, ∃ o, s.heap.get? b = some o ∧ ∀ v, o.data ≠ .cell v) : Inv X (pins ++ pinsAt fp s.heap) σ H s :=
  I.pins_of fun p hp => (List.mem_append.mp hp).elim (fun z => I.pin p (List.mem_append_right _ z)) fun z => by
    obtain ⟨hb, e⟩ := of_pinsAt z
    obtain ⟨f0, f1, f2, _⟩ := hf p.1 hb
    obtain ⟨o, e', d⟩ := ho p.1 hb
    rw [e] at e'; cases e'
    exact ⟨e, f0, f1, f2, d⟩
theorem Inv.unpinned {pins pl : List (Addr × Obj)} {σ : St} {H : Hp} {s : Shared} (I : Inv X (pins ++ pl) σ H s) : Inv X pins σ H s := I.pins_of fun p hp => I.pin p (List.mem_append_right _ (List.mem_append_left _ hp))
theorem ps_for {iter : Expr} {body : List Stmt} {wi : TI} {g : TG} {tb : TS} {pos : Pos} (hp : PassesOwn (model X.prog X.w) X.A X.env X.xe) (hc : X.calm = true) (hi : PI X tg iter wi) (hg : PG X tg g) (hb : PSs X body tb)
    (hs : ∀ x, foldedSetIterable iter X.env x = pure x := by intro _; rfl) : PS X (.For tg iter body [] pos) (tFor wi g tb) := by
  intro pins s σ H D I h
  refine wpAny_For (thn (hi pins s σ H _ I h) fun v s1 h1 => thn h1 fun itv s2 h2 => ?_) hs
  obtain ⟨it, fp, tn, J, H2, e, I2, T, st2, f2, W, ⟨m0, w0⟩, turn⟩ := h2
  subst e
  -- what stays true of the iterator's objects through the loop
  have stat : ∀ {H' : Hp}, (∀ b ∈ fp, H' b = none) → ∀ b ∈ fp, FpOk X pins H' b := fun hn b hb => ⟨hn b hb, (f2 b hb).2⟩
  refine codeAny_forLoop_any (fun n s' => ∃ i σ' H', Inv X pins σ' H' s' ∧ tn i s'.heap ∧ (∀ b ∈ fp, H' b = none) ∧ W i n σ' H') ?_ m0 ⟨0, σ, H2, I2, st2, fun b hb => (f2 b hb).1, w0⟩
  rintro n s3 ⟨i, σ3, H3, I3, st3, fr3, w3⟩
  rcases turn i n σ3 H3 w3 with ⟨stop, qn⟩ | ⟨go, N, hN, step⟩
  · refine wpAny_passesOwn hp (thn (T.done X rfl rfl rfl hc i pins s3 σ3 H3 X.xe I3 (stat fr3) st3 stop) fun r s4 ⟨hr, I4⟩ => ?_)
    subst hr
    exact wpAny_execs_nil ⟨σ3, H3, I4, qn⟩
  · refine wpAny_passesOwn hp (thn (T.item X rfl rfl rfl hc i pins s3 σ3 H3 X.xe I3 (stat fr3) st3 go) fun r s4 ⟨u, hr, h4⟩ => ?_)
    subst hr
    refine wpAny_passesOwn hp (thn h4 fun _ s5 ⟨x, H5, I5, r5, y5, st5, fr5⟩ => ?_)
    have I5' := I5.pinned (stat fr5) (T.obj _ _ st5)
    refine wpAny_passesOwn hp (thn (hg _ s5 σ3 H5 x u _ I5' r5 (step x H5 y5)) fun _ s6 ⟨σ6, H6, I6, q6⟩ => ?_)
    refine wpAny_passesOwn hp (thn (hb _ s6 σ6 H6 _ I6 q6) fun f s7 q7 => ?_)
    have again : ∀ {σ7 : St} {H7 : Hp}, Inv X (pins ++ pinsAt fp s5.heap) σ7 H7 s7 → N σ7 H7 → ∃ m, m < n ∧ ∃ i σ' H', Inv X pins σ' H' s7 ∧ tn i s7.heap ∧ (∀ b ∈ fp, H' b = none) ∧ W i m σ' H' := fun {σ7 H7} I7 n7 => by
      obtain ⟨m', hm, w7⟩ := hN σ7 H7 n7
      refine ⟨m', hm, i + 1, σ7, H7, I7.unpinned, T.keep _ _ _ st5 fun b hb o e => (I7.pin (b, o) (List.mem_append_right _ (List.mem_append_right _ (mem_pinsAt hb e)))).1, fun b hb => ?_, w7⟩
      obtain ⟨o, e, d⟩ := T.obj _ _ st5 b hb
      exact (I7.pin (b, o) (List.mem_append_right _ (List.mem_append_right _ (mem_pinsAt hb e)))).2.1
    cases f with
    | next => obtain ⟨σ7, H7, I7, n7⟩ := q7; exact again I7 n7
    | cont => obtain ⟨σ7, H7, I7, n7⟩ := q7; exact again I7 n7
    | brk => obtain ⟨σ7, H7, I7, q7⟩ := q7; exact ⟨σ7, H7, I7.unpinned, q7⟩
    | ret v => obtain ⟨x7, σ7, H7, I7, r7, q7⟩ := q7; exact ⟨x7, σ7, H7, I7.unpinned, r7, q7⟩
end

/-! ### the forms one uses -/
/-- over a list that the body leaves as it is -/
theorem for_list {K : PySem.W.Frag} {a : Addr} {xs : List V} {g : TG} {tb : TS} {D : Ends} {σ : St} {H : Hp} (Pv : Nat → St → Hp → Prop) (h0 : Pv 0 σ H) (hl : ∀ i σ H, i ≤ xs.length → Pv i σ H → SqL K H a xs)
    (hs : ∀ i x σ H, xs[i]? = some x → Pv i σ H → g x σ H fun σ2 H2 => tb { D with nx := Pv (i + 1), ct := Pv (i + 1), bk := D.nx } σ2 H2) (hd : ∀ σ H, Pv xs.length σ H → D.nx σ H) :
    ∃ W : Nat → Nat → St → Hp → Prop, (∃ m, W 0 m σ H) ∧ ∀ i m σ H, W i m σ H →
      ((Itl K a).stop i H ∧ D.nx σ H) ∨ ((Itl K a).go i H ∧ ∃ N : St → Hp → Prop, (∀ σ' H', N σ' H' → ∃ m', m' < m ∧ W (i + 1) m' σ' H') ∧ ∀ x H', (Itl K a).yld i H x H' → g x σ H' fun σ2 H2 => tb { D with nx := N, ct := N, bk := D.nx } σ2 H2) := by
  refine ⟨fun i m σ H => m = xs.length - i ∧ i ≤ xs.length ∧ Pv i σ H, ⟨xs.length, by simp, Nat.zero_le _, h0⟩, ?_⟩
  rintro i m σ H ⟨rfl, hi, p⟩
  have q := hl i σ H hi p
  by_cases hlt : i < xs.length
  · refine .inr ⟨⟨xs, xs[i], q, by simp [hlt]⟩, Pv (i + 1), fun σ' H' p' => ⟨xs.length - (i + 1), by omega, rfl, hlt, p'⟩, fun x H' y => ?_⟩
    obtain ⟨e, y⟩ := y
    subst e
    exact hs i x σ _ (y xs q) p
  · have e : i = xs.length := by omega
    subst e
    exact .inl ⟨⟨xs, q, Nat.le_refl _⟩, hd σ H p⟩
theorem for_tup {K : PySem.W.Frag} {a : Addr} {xs : List V} {g : TG} {tb : TS} {D : Ends} {σ : St} {H : Hp} (Pv : Nat → St → Hp → Prop) (h0 : Pv 0 σ H) (hl : ∀ i σ H, i ≤ xs.length → Pv i σ H → SqT K H a xs)
    (hs : ∀ i x σ H, xs[i]? = some x → Pv i σ H → g x σ H fun σ2 H2 => tb { D with nx := Pv (i + 1), ct := Pv (i + 1), bk := D.nx } σ2 H2) (hd : ∀ σ H, Pv xs.length σ H → D.nx σ H) :
    ∃ W : Nat → Nat → St → Hp → Prop, (∃ m, W 0 m σ H) ∧ ∀ i m σ H, W i m σ H →
      ((Itt K a).stop i H ∧ D.nx σ H) ∨ ((Itt K a).go i H ∧ ∃ N : St → Hp → Prop, (∀ σ' H', N σ' H' → ∃ m', m' < m ∧ W (i + 1) m' σ' H') ∧ ∀ x H', (Itt K a).yld i H x H' → g x σ H' fun σ2 H2 => tb { D with nx := N, ct := N, bk := D.nx } σ2 H2) := by
  refine ⟨fun i m σ H => m = xs.length - i ∧ i ≤ xs.length ∧ Pv i σ H, ⟨xs.length, by simp, Nat.zero_le _, h0⟩, ?_⟩
  rintro i m σ H ⟨rfl, hi, p⟩
  have q := hl i σ H hi p
  by_cases hlt : i < xs.length
  · refine .inr ⟨⟨xs, xs[i], q, by simp [hlt]⟩, Pv (i + 1), fun σ' H' p' => ⟨xs.length - (i + 1), by omega, rfl, hlt, p'⟩, fun x H' y => ?_⟩
    obtain ⟨e, y⟩ := y
    subst e
    exact hs i x σ _ (y xs q) p
  · have e : i = xs.length := by omega
    subst e
    exact .inl ⟨⟨xs, q, Nat.le_refl _⟩, hd σ H p⟩
theorem for_range {lo : Int} {n : Nat} {g : TG} {tb : TS} {D : Ends} {σ : St} {H : Hp} (Pv : Nat → St → Hp → Prop) (h0 : Pv 0 σ H)
    (hs : ∀ i σ H, i < n → Pv i σ H → g (.int (lo + i)) σ H fun σ2 H2 => tb { D with nx := Pv (i + 1), ct := Pv (i + 1), bk := D.nx } σ2 H2) (hd : ∀ σ H, Pv n σ H → D.nx σ H) :
    ∃ W : Nat → Nat → St → Hp → Prop, (∃ m, W 0 m σ H) ∧ ∀ i m σ H, W i m σ H →
      ((Itr lo n).stop i H ∧ D.nx σ H) ∨ ((Itr lo n).go i H ∧ ∃ N : St → Hp → Prop, (∀ σ' H', N σ' H' → ∃ m', m' < m ∧ W (i + 1) m' σ' H') ∧ ∀ x H', (Itr lo n).yld i H x H' → g x σ H' fun σ2 H2 => tb { D with nx := N, ct := N, bk := D.nx } σ2 H2) := by
  refine ⟨fun i m σ H => m = n - i ∧ i ≤ n ∧ Pv i σ H, ⟨n, by simp, Nat.zero_le _, h0⟩, ?_⟩
  rintro i m σ H ⟨rfl, hi, p⟩
  by_cases hlt : i < n
  · refine .inr ⟨hlt, Pv (i + 1), fun σ' H' p' => ⟨n - (i + 1), by omega, rfl, hlt, p'⟩, fun x H' y => ?_⟩
    obtain ⟨e, y⟩ := y
    subst e y
    exact hs i σ _ hlt p
  · have e : i = n := by omega
    subst e
    exact .inl ⟨Nat.le_refl _, hd σ H p⟩
/-- while, by a word and a measure of the state -/
theorem while_by {c : TT} {tb : TS} {D : Ends} {σ : St} {H : Hp} (Pv : St → Hp → Prop) (μ : St → Hp → Nat) (h0 : Pv σ H)
    (hs : ∀ σ H, Pv σ H → c σ H fun b H1 => if b = true then tb { D with nx := fun σ' H' => Pv σ' H' ∧ μ σ' H' < μ σ H, ct := fun σ' H' => Pv σ' H' ∧ μ σ' H' < μ σ H, bk := D.nx } σ H1 else D.nx σ H1)
    (mono : ∀ σ H Q Q', (∀ b H1, Q b H1 → Q' b H1) → c σ H Q → c σ H Q') : tWhile c tb D σ H := by
  refine ⟨fun m σ H => m = μ σ H ∧ Pv σ H, ⟨_, rfl, h0⟩, ?_⟩
  rintro m σ H ⟨rfl, p⟩
  refine mono σ H _ _ (fun b H1 q => ?_) (hs σ H p)
  cases b with
  | true => exact ⟨_, fun σ' H' ⟨p', l⟩ => ⟨_, l, rfl, p'⟩, q⟩
  | false => exact q
end L2

namespace L2
open PySem PySem.Spec PyProof.Rows

abbrev R2 := V → V → Hp → VK → Prop
/-- a two-place operation on values: f is binaryOp op, inplaceOp op or compareOp op -/
def OpR (X : Cx) (f : Value → Value → Sem Value) (r : R2) : Prop :=
  ∀ (pins : List (Addr × Obj)) (s : Shared) (σ : St) (H : Hp) (x y : V) (v u : Value) (Q : VK), Inv X pins σ H s → RelV x v → RelV y u → r x y H Q →
    wpAny (model X.prog X.w) X.A (f v u) (EP X pins σ Q) X.xe s
/-- a one-place operation -/
def UnR (X : Cx) (f : Value → Sem Value) (r : V → Hp → VK → Prop) : Prop :=
  ∀ (pins : List (Addr × Obj)) (s : Shared) (σ : St) (H : Hp) (x : V) (v : Value) (Q : VK), Inv X pins σ H s → RelV x v → r x H Q →
    wpAny (model X.prog X.w) X.A (f v) (EP X pins σ Q) X.xe s
/-- a call of a value that is known (a builtin, a type) with values -/
def CallR (X : Cx) (f : Value) (r : List V → Hp → VK → Prop) : Prop :=
  ∀ (pins : List (Addr × Obj)) (s : Shared) (σ : St) (H : Hp) (xs : List V) (us : List Value) (Q : VK), Inv X pins σ H s → Vals xs us → r xs H Q →
    wpAny (model X.prog X.w) X.A (call f us) (EP X pins σ Q) X.xe s
def tOp (r : R2) (ta tb : TE) : TE := fun σ H Q => ta σ H fun x H1 => tb σ H1 fun y H2 => r x y H2 Q
def tUn (r : V → Hp → VK → Prop) (ta : TE) : TE := fun σ H Q => ta σ H fun x H1 => r x H1 Q
/-- ints in, under C, and a value out -/
def rI (C : Int → Int → Prop) (g : Int → Int → V) : R2 := fun x y H Q => ∃ i j, x = .int i ∧ y = .int j ∧ C i j ∧ Q (g i j) H
def rI0 (g : Int → Int → V) : R2 := fun x y H Q => ∃ i j, x = .int i ∧ y = .int j ∧ Q (g i j) H
def rU (g : Int → V) : V → Hp → VK → Prop := fun x H Q => ∃ i, x = .int i ∧ Q (g i) H

section
variable {X : Cx} {a b c : Expr} {ta tb tc : TE} {pos : Pos}

theorem binT (ha : PE X a ta) (hb : PE X b tb) {pins : List (Addr × Obj)} {s : Shared} {σ : St} {H : Hp} {R : V → V → Hp → Prop} (I : Inv X pins σ H s)
    (h : ta σ H fun x H1 => tb σ H1 fun y H2 => R x y H2) {Q : Value → Shared → Prop} {f : Value → Value → Sem Value}
    (hf : ∀ v u s2 x y H2, Inv X pins σ H2 s2 → RelV x v → RelV y u → R x y H2 → wpAny (model X.prog X.w) X.A (f v u) Q X.xe s2) :
    wpAny (model X.prog X.w) X.A (eval a X.env) (fun v s₁ => wpAny (model X.prog X.w) X.A (eval b X.env) (fun u s₂ => wpAny (model X.prog X.w) X.A (f v u) Q X.xe s₂) X.xe s₁) X.xe s := by
  refine thn (ha pins s σ H _ I h) fun v s1 ⟨x, H1, I1, r1, q1⟩ => ?_
  refine thn (hb pins s1 σ H1 _ I1 q1) fun u s2 ⟨y, H2, I2, r2, q2⟩ => ?_
  exact hf v u s2 x y H2 I2 r1 r2 q2

theorem pe_op {op : Operator} {r : R2} (ho : OpR X (binaryOp op) r) (ha : PE X a ta) (hb : PE X b tb) : PE X (.BinOp a op b pos) (tOp r ta tb) := by
  intro pins s σ H Q I h
  exact wpAny_BinOp (binT ha hb I h fun v u s2 x y H2 I2 rx ry q => ho pins s2 σ H2 x y v u Q I2 rx ry q)
theorem pe_un {op : UnaryOp} {r : V → Hp → VK → Prop} (ho : UnR X (unaryOp op) r) (ha : PE X a ta) : PE X (.UnaryOp op a pos) (tUn r ta) := by
  intro pins s σ H Q I h
  exact UnaryOp_ (thn (ha pins s σ H _ I h) fun v s1 ⟨x, H1, I1, r1, q1⟩ => ho pins s1 σ H1 x v Q I1 r1 q1)
/-! ### ints -/
theorem opI {f : Value → Value → Sem Value} {C : Int → Int → Prop} {g : Int → Int → Int}
    (rule : ∀ (i j : Int) (t u : Tok) (s : Shared) (Q : Value → Shared → Prop) (E : Value → Shared → Prop), C i j → Q (.int (g i j) s.toks) { s with toks := s.toks + 1 } → wpAny (model X.prog X.w) X.A (f (.int i t) (.int j u)) Q E s) :
    OpR X f (rI C fun i j => .int (g i j)) := by
  intro pins s σ H x y v u Q I rx ry h
  obtain ⟨i, j, rfl, rfl, hc, q⟩ := h
  obtain ⟨t, rfl⟩ := rx
  obtain ⟨t', rfl⟩ := ry
  exact rule i j t t' s _ _ hc ⟨.int (g i j), H, I.tok _, ⟨_, rfl⟩, q⟩
theorem opI0 {f : Value → Value → Sem Value} {g : Int → Int → Int}
    (rule : ∀ (i j : Int) (t u : Tok) (s : Shared) (Q : Value → Shared → Prop) (E : Value → Shared → Prop), Q (.int (g i j) s.toks) { s with toks := s.toks + 1 } → wpAny (model X.prog X.w) X.A (f (.int i t) (.int j u)) Q E s) :
    OpR X f (rI0 fun i j => .int (g i j)) := by
  intro pins s σ H x y v u Q I rx ry h
  obtain ⟨i, j, rfl, rfl, q⟩ := h
  obtain ⟨t, rfl⟩ := rx
  obtain ⟨t', rfl⟩ := ry
  exact rule i j t t' s _ _ ⟨.int (g i j), H, I.tok _, ⟨_, rfl⟩, q⟩
theorem opB0 {f : Value → Value → Sem Value} {g : Int → Int → Bool}
    (rule : ∀ (i j : Int) (t u : Tok) (s : Shared) (Q : Value → Shared → Prop) (E : Value → Shared → Prop), Q (.bool (g i j)) s → wpAny (model X.prog X.w) X.A (f (.int i t) (.int j u)) Q E s) :
    OpR X f (rI0 fun i j => .bl (g i j)) := by
  intro pins s σ H x y v u Q I rx ry h
  obtain ⟨i, j, rfl, rfl, q⟩ := h
  obtain ⟨t, rfl⟩ := rx
  obtain ⟨t', rfl⟩ := ry
  exact rule i j t t' s _ _ ⟨.bl (g i j), H, I, rfl, q⟩

def CDiv (i j : Int) : Prop := 0 < j ∧ j < 1073741824
def CPow (i j : Int) : Prop := 0 ≤ j ∧ j ≤ 1000000 ∧ i.natAbs < 2 ^ 64
def CMul (i j : Int) : Prop := (-(2 ^ 64) < i ∧ i < 2 ^ 64) ∨ (-(2 ^ 64) < j ∧ j < 2 ^ 64)
theorem CMul.ok {i j : Int} (h : CMul i j) : IntMulOk i j := by
  rcases h with ⟨h1, h2⟩ | ⟨h1, h2⟩
  · exact .of_left (intBits_le_64 h1 h2)
  · exact .of_right (intBits_le_64 h1 h2)
theorem op_add : OpR X (binaryOp .Add) (rI0 fun i j => .int (i + j)) := opI0 fun _ _ _ _ _ _ _ q => add_int q
theorem op_sub : OpR X (binaryOp .Sub) (rI0 fun i j => .int (i - j)) := opI0 fun _ _ _ _ _ _ _ q => sub_int q
theorem op_mul : OpR X (binaryOp .Mult) (rI CMul fun i j => .int (i * j)) := opI fun _ _ _ _ _ _ _ hc q => mul_int q hc.ok
/-- // by a positive divisor -/
theorem op_fdiv : OpR X (binaryOp .FloorDiv) (rI CDiv fun i j => .int (i / j)) := opI fun i j _ _ _ _ _ hc q => by
  have h1 : (0 : Int) < j := hc.1
  have h2 : j < 1073741824 := hc.2
  exact floordiv_int (by omega) (by rw [Int.fdiv_eq_ediv_of_nonneg i (by omega)]; exact q) (.inl (PyProof.noPylong_small (by omega)))
/-- % by a positive divisor of any size -/
theorem op_mod : OpR X (binaryOp .Mod) (rI (fun _ j => 0 < j) fun i j => .int (i % j)) := opI fun i j _ _ _ _ _ hc q => by
  have h1 : (0 : Int) < j := hc
  exact mod_int' (by omega) (by rw [Int.fmod_eq_emod_of_nonneg i (by omega)]; exact q)
theorem op_pow : OpR X (binaryOp .Pow) (rI CPow fun i j => .int (i ^ j.toNat)) := opI fun _ _ _ _ _ _ _ hc q => pow_int_small hc.1 hc.2.1 hc.2.2 q
theorem unI {f : Value → Sem Value} {g : Int → Int}
    (rule : ∀ (i : Int) (t : Tok) (s : Shared) (Q : Value → Shared → Prop) (E : Value → Shared → Prop), Q (.int (g i) s.toks) { s with toks := s.toks + 1 } → wpAny (model X.prog X.w) X.A (f (.int i t)) Q E s) :
    UnR X f (rU fun i => .int (g i)) := by
  intro pins s σ H x v Q I rx h
  obtain ⟨i, rfl, q⟩ := h
  obtain ⟨t, rfl⟩ := rx
  exact rule i t s _ _ ⟨.int (g i), H, I.tok _, ⟨_, rfl⟩, q⟩
theorem un_neg : UnR X (unaryOp .USub) (rU fun i => .int (-i)) := unI fun _ _ _ _ _ q => neg_int q
/-! ### bools among ints: n += (a < b) -/
end

/-! ### comparisons -/
/-- the scalars that == tells apart as data does -/
def scal : V → V → Bool
  | .non, .non => true | .non, .int _ => true | .int _, .non => true | .non, .bl _ => true | .bl _, .non => true | .non, .str _ => true | .str _, .non => true
  | .int _, .int _ => true | .bl _, .bl _ => true | .str _, .str _ => true | .byt _, .byt _ => true
  | .int _, .str _ => true | .str _, .int _ => true | .bl _, .str _ => true | .str _, .bl _ => true
  | _, _ => false
def rEq : R2 := fun x y H Q => scal x y = true ∧ Q (.bl (decide (x = y))) H
def rNe : R2 := fun x y H Q => scal x y = true ∧ Q (.bl (!decide (x = y))) H

theorem dec_int {i j : Int} : decide (V.int i = V.int j) = (i == j) := by
  rw [Bool.eq_iff_iff]
  simp
theorem dec_bl {i j : Bool} : decide (V.bl i = V.bl j) = (i == j) := by
  rw [Bool.eq_iff_iff]
  simp
theorem dec_str {i j : Str} : decide (V.str i = V.str j) = (i == j) := by
  rw [Bool.eq_iff_iff]
  simp
theorem dec_byt {i j : Array UInt8} : decide (V.byt i = V.byt j) = (i.toList == j.toList) := by
  rw [Bool.eq_iff_iff]
  cases i
  cases j
  simp

section
variable {X : Cx} {a b c : Expr} {ta tb tc : TE} {pos : Pos}
theorem fin_bl {pins : List (Addr × Obj)} {σ : St} {H : Hp} {s : Shared} {Q : VK} {k k' : Bool} (I : Inv X pins σ H s) (q : Q (.bl k) H) (e : k = k') : EP X pins σ Q (.bool k') s := by
  subst e
  exact ⟨.bl k, H, I, rfl, q⟩
theorem op_eq : OpR X (compareOp .Eq) rEq := by
  intro pins s σ H x y v u Q I rx ry h
  obtain ⟨hs, q⟩ := h
  cases x with
  | non =>
    cases rx
    cases y with
    | non => cases ry; exact PySem.EqNone.eq_none_none (fin_bl I q (by simp))
    | bl j => cases ry; exact PySem.EqNone.eq_none_bool (fin_bl I q (by simp))
    | int j => obtain ⟨t', rfl⟩ := ry; exact PySem.EqNone.eq_none_int (fin_bl I q (by simp))
    | str j => obtain ⟨t', rfl⟩ := ry; exact PySem.EqNone.eq_none_str (fin_bl I q (by simp))
    | _ => exact absurd (show false = true from hs) Bool.false_ne_true
  | bl i =>
    cases rx
    cases y with
    | non => cases ry; exact PySem.EqNone.eq_bool_none (fin_bl I q (by simp))
    | bl j => cases ry; exact eq_bool (fin_bl I q dec_bl)
    | str j => obtain ⟨t', rfl⟩ := ry; exact PySem.EqMixed.eq_bool_str (fin_bl I q (by simp))
    | _ => exact absurd (show false = true from hs) Bool.false_ne_true
  | int i =>
    obtain ⟨t, rfl⟩ := rx
    cases y with
    | non => cases ry; exact PySem.EqNone.eq_int_none (fin_bl I q (by simp))
    | int j => obtain ⟨t', rfl⟩ := ry; exact eq_int (fin_bl I q dec_int)
    | str j => obtain ⟨t', rfl⟩ := ry; exact PySem.EqMixed.eq_int_str (fin_bl I q (by simp))
    | _ => exact absurd (show false = true from hs) Bool.false_ne_true
  | str i =>
    obtain ⟨t, rfl⟩ := rx
    cases y with
    | non => cases ry; exact PySem.EqNone.eq_str_none (fin_bl I q (by simp))
    | bl j => cases ry; exact PySem.EqMixed.eq_str_bool (fin_bl I q (by simp))
    | int j => obtain ⟨t', rfl⟩ := ry; exact PySem.EqMixed.eq_str_int (fin_bl I q (by simp))
    | str j => obtain ⟨t', rfl⟩ := ry; exact eq_str (fin_bl I q dec_str)
    | _ => exact absurd (show false = true from hs) Bool.false_ne_true
  | byt i =>
    obtain ⟨t, rfl⟩ := rx
    cases y with
    | byt j => obtain ⟨t', rfl⟩ := ry; exact PySem.W.eq_bytes (fin_bl I q dec_byt)
    | _ => exact absurd (show false = true from hs) Bool.false_ne_true
  | _ => cases y <;> exact absurd (show false = true from hs) Bool.false_ne_true
theorem op_ne : OpR X (compareOp .NotEq) rNe := by
  intro pins s σ H x y v u Q I rx ry h
  obtain ⟨hs, q⟩ := h
  cases x with
  | non =>
    cases rx
    cases y with
    | non => cases ry; exact PySem.EqNone.ne_none_none (fin_bl I q (by simp))
    | bl j => cases ry; exact PySem.EqNone.ne_none_bool (fin_bl I q (by simp))
    | int j => obtain ⟨t', rfl⟩ := ry; exact PySem.EqNone.ne_none_int (fin_bl I q (by simp))
    | str j => obtain ⟨t', rfl⟩ := ry; exact PySem.EqNone.ne_none_str (fin_bl I q (by simp))
    | _ => exact absurd (show false = true from hs) Bool.false_ne_true
  | bl i =>
    cases rx
    cases y with
    | non => cases ry; exact PySem.EqNone.ne_bool_none (fin_bl I q (by simp))
    | bl j => cases ry; exact ne_bool (fin_bl I q (congrArg not dec_bl))
    | str j => obtain ⟨t', rfl⟩ := ry; exact PySem.EqMixed.ne_bool_str (fin_bl I q (by simp))
    | _ => exact absurd (show false = true from hs) Bool.false_ne_true
  | int i =>
    obtain ⟨t, rfl⟩ := rx
    cases y with
    | non => cases ry; exact PySem.EqNone.ne_int_none (fin_bl I q (by simp))
    | int j => obtain ⟨t', rfl⟩ := ry; exact ne_int (fin_bl I q (congrArg not dec_int))
    | str j => obtain ⟨t', rfl⟩ := ry; exact PySem.EqMixed.ne_int_str (fin_bl I q (by simp))
    | _ => exact absurd (show false = true from hs) Bool.false_ne_true
  | str i =>
    obtain ⟨t, rfl⟩ := rx
    cases y with
    | non => cases ry; exact PySem.EqNone.ne_str_none (fin_bl I q (by simp))
    | bl j => cases ry; exact PySem.EqMixed.ne_str_bool (fin_bl I q (by simp))
    | int j => obtain ⟨t', rfl⟩ := ry; exact PySem.EqMixed.ne_str_int (fin_bl I q (by simp))
    | str j => obtain ⟨t', rfl⟩ := ry; exact ne_str (fin_bl I q (congrArg not dec_str))
    | _ => exact absurd (show false = true from hs) Bool.false_ne_true
  | byt i =>
    obtain ⟨t, rfl⟩ := rx
    cases y with
    | byt j => obtain ⟨t', rfl⟩ := ry; exact PySem.W.ne_bytes (fin_bl I q (congrArg not dec_byt))
    | _ => exact absurd (show false = true from hs) Bool.false_ne_true
  | _ => cases y <;> exact absurd (show false = true from hs) Bool.false_ne_true

theorem op_lt : OpR X (compareOp .Lt) (rI0 fun i j => .bl (decide (i < j))) := opB0 fun _ _ _ _ _ _ _ q => lt_int q
theorem op_le : OpR X (compareOp .LtE) (rI0 fun i j => .bl (decide (i ≤ j))) := opB0 fun _ _ _ _ _ _ _ q => le_int q
theorem op_gt : OpR X (compareOp .Gt) (rI0 fun i j => .bl (decide (j < i))) := opB0 fun _ _ _ _ _ _ _ q => gt_int q
theorem op_ge : OpR X (compareOp .GtE) (rI0 fun i j => .bl (decide (j ≤ i))) := opB0 fun _ _ _ _ _ _ _ q => ge_int q
/-- is None, is not None: the right side a value none -/
theorem op_isN : OpR X (compareOp .Is) (fun x y H Q => y = .non ∧ Q (.bl (decide (x = .non))) H) := by
  intro pins s σ H x y v u Q I rx ry h
  obtain ⟨rfl, q⟩ := h
  cases ry
  refine is_none_gen (fin_bl I q ?_)
  cases x <;> first
    | (cases rx; rfl)
    | (obtain ⟨t, rfl⟩ := rx; rfl)
/-- a comparison as a value; hm: nomark b, or (for in, not in) by with_unfolding_all rfl -/
theorem pe_cmpR {op : CmpOp} {r : R2} (ho : OpR X (compareOp op) r) (ha : PE X a ta) (hb : PE X b tb) (hm : behindInMarks op b = false) : PE X (.Compare a [op] [b] pos) (tOp r ta tb) := by
  intro pins s σ H Q I h
  exact wpAny_Compare1 (binT ha hb I h fun v u s2 x y H2 I2 rx ry q => ho pins s2 σ H2 x y v u Q I2 rx ry q) hm
/-- a reading of a value as a test -/
def tTest (t : TE) : TT := fun σ H Q => t σ H fun x H' => ∃ k, x = .bl k ∧ Q k H'
theorem pt_cmpR {op : CmpOp} {r : R2} (ho : OpR X (compareOp op) r) (ha : PE X a ta) (hb : PE X b tb) (hm : behindInMarks op b = false) : PT X (.Compare a [op] [b] pos) (tTest (tOp r ta tb)) := by
  intro pins s σ H Q I h
  refine wpAny_isTrue_Compare1 (thn (ha pins s σ H _ I h) fun v s1 ⟨x, H1, I1, r1, q1⟩ => thn (hb pins s1 σ H1 _ I1 q1) fun u s2 ⟨y, H2, I2, r2, q2⟩ =>
    thn (ho pins s2 σ H2 x y v u _ I2 r1 r2 q2) fun c s3 ⟨z, H3, I3, r3, k, e, q3⟩ => ?_) hm
  subst e
  cases r3
  exact wpAny_truthy_bool ⟨H3, I3, q3⟩
/-! ### truth -/
theorem line63 : (sizeLine : Nat) < 2 ^ 63 := by rw [sizeLine_eq]; decide
/-! ### strs and bytes -/
/-! ### scalar builtins, by CallR -/
theorem vals1 {x : V} {us : List Value} (r : Vals [x] us) : ∃ u, us = [u] ∧ RelV x u := by
  cases r with
  | cons r1 r2 => cases r2; exact ⟨_, rfl, r1⟩
theorem vals2 {x y : V} {us : List Value} (r : Vals [x, y] us) : ∃ u w', us = [u, w'] ∧ RelV x u ∧ RelV y w' := by
  cases r with
  | cons r1 r2 =>
    cases r2 with
    | cons r3 r4 => cases r4; exact ⟨_, _, rfl, r1, r3⟩
theorem call_abs : CallR X (.builtin "abs") (fun xs H Q => ∃ i, xs = [.int i] ∧ Q (.int (if i < 0 then -i else i)) H) := by
  intro pins s σ H xs us Q I r h
  obtain ⟨i, rfl, q⟩ := h
  obtain ⟨u, rfl, t, rfl⟩ := vals1 r
  exact call_abs_int fun u tk => ⟨.int (if i < 0 then -i else i), H, I.tok _, ⟨_, rfl⟩, q⟩
end
end L2

namespace L2
open PySem PySem.Spec PyProof.Rows

/-! ### an instance, its attributes a map -/
section
variable {prog : Program} {w : World} {A : Around} {E : Value → Shared → Prop} {s : Shared} {K : PySem.W.Frag} {x dx C f : Addr} {mA : Str → Option Value} {name : Str} {v : Value}

end

/-! ### the attributes as a list of pairs -/
section
variable {P : Program} {w : World} {H H' : Hp} {h h' : Heap} {a C dx : Addr} {fs fs' : List (Str × V)}
end

/-! ### what of the text a class must have -/
section
variable {X : Cx} {pins : List (Addr × Obj)} {σ : St} {H : Hp} {s : Shared} {a C dx : Addr} {fs : List (Str × V)} {f : Str} {v : V} {A : Around} {E : Value → Shared → Prop}

end

/-! ### readings and rules -/
section
variable {X : Cx} {o e value : Expr} {f : Str} {pos pos' tpos : Pos} {ta tv : TE}
end

/-! ### isinstance -/
section
variable {X : Cx} {pins : List (Addr × Obj)} {σ : St} {H : Hp} {s : Shared} {A : Around} {E : Value → Shared → Prop} {Q : Value → Shared → Prop} {c : Value} {b : Bool}
end
end L2

namespace L2
open PySem PySem.Spec PyProof.Rows

/-! ### room -/
structure Room (k : Nat) (A : Around) : Prop where
  hd : A.handled = none
  dp : A.depth + 3 * k + 5 < recursionLimit
  un : A.units + 16 * k + 200 < cLine
theorem Room.mono {j k : Nat} {A : Around} (r : Room k A) (h : j ≤ k) : Room j A := ⟨r.hd, by have := r.dp; omega, by have := r.un; omega⟩
theorem Room.deeper {k : Nat} {A : Around} (r : Room (k + 1) A) (env : Env) : Room k (A.deeper env) :=
  ⟨r.hd, by have := r.dp; show A.depth + 1 + 3 * k + 5 < _; omega, by have := r.un; show A.units + 3 + 16 * k + 200 < _; omega⟩
theorem Room.depth {k : Nat} {A : Around} (r : Room k A) : A.depth < recursionLimit := by have := r.dp; omega
theorem Room.units {k : Nat} {A : Around} (r : Room k A) : A.units + 64 < cLine := by have := r.un; omega
/-! ### argument lists and displays -/
def tNil : TA := fun _ H Q => Q [] H
def tCons (ta : TE) (tr : TA) : TA := fun σ H Q => ta σ H fun x H1 => tr σ H1 fun xs H2 => Q (x :: xs) H2
section
variable {X : Cx} {e : Expr} {es : List Expr} {te : TE} {t : TA} {pos : Pos}
theorem pa_nil : PA X [] tNil := fun _ _ _ _ H Q I h => Calls.spliced_nil ⟨[], H, I, .nil, h⟩
theorem pa_cons (ha : PE X e te) (hr : PA X es t) (hs : starEach (e :: es) X.env = (false, eval e X.env) :: starEach es X.env := by rfl) : PA X (e :: es) (tCons te t) := by
  intro pos pins s σ H Q I h
  rw [hs]
  show wpAny _ _ (spliced ((false, eval e X.env) :: backTo pos (starEach es X.env))) _ _ s
  refine Calls.spliced_cons (thn (ha pins s σ H _ I h) fun u s1 ⟨x, H1, I1, r1, q1⟩ => ?_)
  exact thn (hr pos pins s1 σ H1 _ I1 q1) fun us s2 ⟨xs, H2, I2, r2, q2⟩ => ⟨x :: xs, H2, I2, .cons r1 r2, q2⟩

/-- a tuple, a list of written items -/
def tTup (t : TA) : TE := fun σ H Q => t σ H fun xs H1 => xs.length ≤ sizeLine ∧ ∀ p, H1 p = none → Q (.ref p) (upd H1 p (.tup xs))
def tLst (t : TA) : TE := fun σ H Q => t σ H fun xs H1 => xs.length ≤ sizeLine ∧ ∀ p, H1 p = none → Q (.ref p) (upd H1 p (.lst xs))
theorem pe_tup {x1} (h : PA X es t) : PE X (.Tuple es x1 pos) (tTup t) := by
  intro pins s σ H Q I hq
  refine wpAny_Tuple_spliced (thn (h pos pins s σ H _ I hq) fun us s1 ⟨xs, H1, I1, r, z, q⟩ => ⟨by rw [← r.length]; exact z, ?_⟩)
  have hf : H1 s1.heap.objs.size = none := I1.hok.fresh (Nat.le_refl _)
  refine ⟨.ref s1.heap.objs.size, upd H1 s1.heap.objs.size (.tup xs), I1.laid (t' := s1.toks) (fun b u e => Heap.get?_push_of_some _ e) (Nat.le_refl _) ?_, rfl, q _ hf⟩
  exact ⟨z, us, r, ⟨_, Heap.get?_push_size _ rfl, rfl, _, rfl⟩⟩
theorem pe_lst (h : PA X es t) : PE X (.List es pos) (tLst t) := by
  intro pins s σ H Q I hq
  refine wpAny_List_spliced (thn (h pos pins s σ H _ I hq) fun us s1 ⟨xs, H1, I1, r, z, q⟩ => ⟨by rw [← r.length]; exact z, ?_⟩)
  have hf : H1 s1.heap.objs.size = none := I1.hok.fresh (Nat.le_refl _)
  refine ⟨.ref s1.heap.objs.size, upd H1 s1.heap.objs.size (.lst xs), I1.laid (t' := s1.toks) (fun b u e => Heap.get?_push_of_some _ e) (Nat.le_refl _) ?_, rfl, q _ hf⟩
  exact ⟨z, us, 0, r, Heap.get?_push_size _ rfl⟩
end

/-! ### what a def promises -/
/-- a def's promise: the bound arguments in the parameters' order, the heap, the wanted end, the wanted exception -/
abbrev Sp := List V → Hp → VK → XK → Prop
/-- how an exception lies behind a call (file 08 gives it): the callers' frames, abstract heap and state ahead of the call, the wish, the exception, the state -/
abbrev CXT := List Env → Hp → Shared → XK → Value → Shared → Prop

/-- the state at a call -/
structure Env0 (P : Program) (w : World) (K : PySem.W.Frag) (mg : Str → Option Value) (base : Heap) (A : Around) (outer : List Env) (s : Shared) (H : Hp) : Prop where
  frames : A.frames = some outer
  mod : Mod K mg base
  bs : ∀ b o, base.get? b = some o → s.heap.get? b = some o ∧ H b = none
  bsz : base.objs.size ≤ s.heap.objs.size
  funs : s.heap.FunFrames base outer
  frf : ∀ b ∈ frs outer, H b = none
  hok : HOk P w H s.heap
  bare : AllBare s.gens
/-- a call's end -/
def CE (outer : List Env) (P : Program) (w : World) (H : Hp) (s : Shared) (Q : VK) (u : Value) (s' : Shared) : Prop :=
  ∃ v H', s'.os = s.os ∧ AllBare s'.gens ∧ Un (frs outer) [] H H' s.heap s'.heap ∧ HOk P w H' s'.heap ∧ RelV v u ∧ Q v H'
def CR (CX : CXT) (outer : List Env) (P : Program) (w : World) (H : Hp) (s : Shared) (Q : VK) (E : XK) (r : Result) (s' : Shared) : Prop :=
  match r with
  | .ok (.ret u) => CE outer P w H s Q u s'
  | .ok _ => False
  | .error e => CX outer H s E e s'
structure FnOk (P : Program) (w : World) (K : PySem.W.Frag) (mg : Str → Option Value) (base : Heap) (CX : CXT) (k : Nat) (f : Addr) (fd : FuncData) (ps : List Str) (sp : Sp) : Prop where
  len : ∀ vs H Q E, sp vs H Q E → vs.length = ps.length
  run : ∀ (A : Around) (outer : List Env) (s : Shared) (H : Hp) (args : Args) (us : List Value) (vs : List V) (Q : VK) (E : XK), Room k A → Env0 P w K mg base A outer s H → BindsTo s fd args (ps.zip us) → Vals vs us → sp vs H Q E →
    codeAny (model P w) A (.call (.ref f) args) (CR CX outer P w H s Q E) s
/-- a weaker promise -/
theorem FnOk.imp {P : Program} {w : World} {K : PySem.W.Frag} {mg : Str → Option Value} {base : Heap} {CX : CXT} {k : Nat} {f : Addr} {fd : FuncData} {ps : List Str} {sp sp' : Sp} (F : FnOk P w K mg base CX k f fd ps sp)
    (h : ∀ vs H Q E, sp' vs H Q E → sp vs H Q E) : FnOk P w K mg base CX k f fd ps sp' :=
  ⟨fun vs H Q E q => F.len vs H Q E (h _ _ _ _ q), fun A outer s H args us vs Q E hr he hb hv hs => F.run A outer s H args us vs Q E hr he hb hv (h _ _ _ _ hs)⟩

section
variable {X : Cx} {pins : List (Addr × Obj)} {σ : St} {H : Hp} {s s' : Shared}
/-- from a body: what a callee wants -/
theorem Inv.env0 (I : Inv X pins σ H s) : Env0 X.prog X.w X.K X.mg X.base X.A X.stack s H :=
  ⟨I.ok.frames, I.ok.mod, I.bs, Nat.le_trans I.ok.bsz I.sz, I.stack, I.stkFree, I.hok, I.bare⟩
/-- behind a call -/
theorem Inv.after {Q : VK} {u : Value} (I : Inv X pins σ H s) (h : CE X.stack X.prog X.w H s Q u s') : EP X pins σ Q u s' := by
  obtain ⟨v, H', os, bare, un, hok, r, q⟩ := h
  obtain ⟨hh, g, d, t, os'⟩ := s'
  obtain rfl : os' = s.os := os
  exact ⟨v, H', I.call (h' := hh) (g' := g) (d' := d) (t' := t) (ch := []) un hok bare (fun b z => absurd z (by simp)), r, q⟩
end

/-! ### calls -/
/-- f(..): the written arguments, then the defaults dvs; E: what is wanted of an exception -/
def tCall (sp : Sp) (dvs : List V) (E : XK) (t : TA) : TE := fun σ H Q => t σ H fun vs H1 => sp (vs ++ dvs) H1 Q E
/-- how the parameters are bound: us the positional arguments, kw the keywords' values by name, ds the defaults that fill up -/
def Binds (K : PySem.W.Frag) (fd : FuncData) (ps : List Str) (ds : List Value) : Prop :=
  ∀ (s : Shared) (us : List Value), K.In s.heap → (us ++ ds).length = ps.length → BindsTo s fd ⟨us, []⟩ (ps.zip (us ++ ds))
/-- every parameter is given -/
theorem Binds.all {K : PySem.W.Frag} {fd : FuncData} {ps : List Str} (h : ∀ us : List Value, us.length = ps.length → bindArgs fd ⟨us, []⟩ = pure (ps.zip us)) : Binds K fd ps [] := fun s us _ hl => by
  rw [List.append_nil] at hl ⊢
  exact .of_eq (h us hl)

/-- an exception of a callee reaches what this body wants of exceptions -/
def Passes (CX : CXT) (X : Cx) (E : XK) : Prop := ∀ (pins : List (Addr × Obj)) (σ : St) (H : Hp) (s : Shared) (e : Value) (s' : Shared), Inv X pins σ H s → CX X.stack H s E e s' → X.xe e s'

section
variable {X : Cx} {CX : CXT} {k : Nat} {f C : Addr} {fd : FuncData} {ps : List Str} {sp : Sp} {dvs : List V} {ds : List Value} {E : XK} {x m : Str} {p pos apos : Pos} {e o : Expr} {es : List Expr} {ta : TE} {t : TA}

/-- the callee runs -/
theorem run_fn {pins : List (Addr × Obj)} {σ : St} {H : Hp} {s : Shared} {Q : VK} {us : List Value} {vs : List V} (F : FnOk X.prog X.w X.K X.mg X.base CX k f fd ps sp) (hr : Room k X.A) (hb : Binds X.K fd ps ds) (hd : Vals dvs ds) (hx : Passes CX X E)
    (I : Inv X pins σ H s) (r : Vals vs us) (h : sp (vs ++ dvs) H Q E) : wpAny (model X.prog X.w) X.A (call (.ref f) us) (EP X pins σ Q) X.xe s := by
  have r2 : Vals (vs ++ dvs) (us ++ ds) := r.append hd
  have hl : (us ++ ds).length = ps.length := by rw [← r2.length]; exact F.len _ _ _ _ h
  refine wpAny_call (codeAny_mono (F.run X.A X.stack s H ⟨us, []⟩ (us ++ ds) (vs ++ dvs) Q E hr I.env0 (hb s us I.kIn hl) r2 h) fun r s' hq => ?_)
  cases r with
  | error e => exact hx pins σ H s e s' I hq
  | ok fl =>
    cases fl with
    | ret u => exact I.after hq
    | next => exact False.elim hq
    | brk => exact False.elim hq
    | cont => exact False.elim hq

theorem pe_call (F : FnOk X.prog X.w X.K X.mg X.base CX k f fd ps sp) (hr : Room k X.A) (hg : Gl X x) (hm : X.mg x = some (.ref f)) (hk : PySem.W.keepIn X.K (.ref f) = true) (hb : Binds X.K fd ps ds) (hd : Vals dvs ds) (hx : Passes CX X E)
    (ha : PA X (e :: es) t) (hdb : (x == ("__debug__" : Str)) = false := by decide) (he : starEach (e :: es) X.env = (false, eval e X.env) :: starEach es X.env := by rfl) (hpl : (backTo pos (starEach es X.env)).any (·.1) = false := by rfl) :
    PE X (.Call (.Name x p) (e :: es) [] pos) (tCall sp dvs E t) := by
  intro pins s σ H Q I h
  refine wpAny_Call_Name_kw (ld_glob I hg hm ?_ hdb)
  refine PySem.W.callWith_K (h₀ := X.base) I.ok.mod.kin hk (thn (ha pos pins s σ H _ I h) fun us s1 ⟨vs, H1, I1, r, q⟩ => ⟨I1.kIn, ?_⟩) he hpl
  exact run_fn F hr hb hd hx I1 r q
end

/-! ### keywords -/
section
variable {X : Cx} {CX : CXT} {k : Nat} {f C : Addr} {fd : FuncData} {ps ks : List Str} {sp : Sp} {E : XK} {x m : Str} {p pos apos kpos : Pos} {e o : Expr} {es : List Expr} {kws : List Keyword} {te ta : TE} {t tk : TA} {nm : Option Str}
variable {g : List Value → List Value → List Value} {gV : List V → List V → List V}
end

/-! ### a def's body keeps its promise -/
/-- names: the parameters first -/
structure FnScope (N P : List Str) (sc : Scope) : Prop where
  kind : sc.kind = .function
  co : sc.isCoroutine = false
  gen : sc.isGenerator = false
  nd : N.Nodup
  pre : N.take P.length = P
  par : ∀ x ∈ P, sc.names.lookup x = some .local ∨ sc.names.lookup x = some .cell
  nofree : ∀ y ∈ sc.names, y.2 ≠ .free

theorem bindL_out {kindOf : Str → Option NameKind} {x : Str} : ∀ {binds : List (Str × Value)} {m : Str → Option Value}, (∀ v, (x, v) ∉ binds) → bindL kindOf binds m x = m x
  | [], _, _ => rfl
  | (n, v) :: r, m, h => by
    unfold bindL
    rw [bindL_out fun w hw => h w (List.mem_cons_of_mem _ hw)]
    split
    · have : x ≠ n := by rintro rfl; exact h v List.mem_cons_self
      simp [this]
    · rfl
theorem bindC_out {kindOf : Str → Option NameKind} {x : Str} : ∀ {binds : List (Str × Value)} {m : Str → Option Value}, (∀ v, (x, v) ∉ binds) → bindC kindOf binds m x = m x
  | [], _, _ => rfl
  | (n, v) :: r, m, h => by
    unfold bindC
    rw [bindC_out fun w hw => h w (List.mem_cons_of_mem _ hw)]
    split
    · rfl
    · have : x ≠ n := by rintro rfl; exact h v List.mem_cons_self
      simp [this]
theorem bindL_get {kindOf : Str → Option NameKind} {x : Str} {v : Value} : ∀ {P : List Str} {vs : List Value} {i : Nat} {m : Str → Option Value}, P.Nodup → P[i]? = some x → vs[i]? = some v → kindOf x = some .local →
    bindL kindOf (P.zip vs) m x = some v
  | [], _, _, _, _, h, _, _ => by simp at h
  | _ :: _, [], _, _, _, _, h, _ => by simp at h
  | p :: P, w :: vs, 0, m, nd, h1, h2, hk => by
    simp at h1 h2; subst h1; subst h2
    show bindL kindOf ((p, w) :: P.zip vs) m p = _
    unfold bindL
    rw [bindL_out fun v hv => (List.nodup_cons.mp nd).1 (List.of_mem_zip hv).1, if_pos hk]
    simp
  | p :: P, w :: vs, i + 1, m, nd, h1, h2, hk => by
    show bindL kindOf ((p, w) :: P.zip vs) m x = _
    unfold bindL
    exact bindL_get (i := i) (List.nodup_cons.mp nd).2 (by simpa using h1) (by simpa using h2) hk
theorem bindC_get {kindOf : Str → Option NameKind} {x : Str} {v : Value} : ∀ {P : List Str} {vs : List Value} {i : Nat} {m : Str → Option Value}, P.Nodup → P[i]? = some x → vs[i]? = some v → kindOf x ≠ some .local →
    bindC kindOf (P.zip vs) m x = some v
  | [], _, _, _, _, h, _, _ => by simp at h
  | _ :: _, [], _, _, _, _, h, _ => by simp at h
  | p :: P, w :: vs, 0, m, nd, h1, h2, hk => by
    simp at h1 h2; subst h1; subst h2
    show bindC kindOf ((p, w) :: P.zip vs) m p = _
    unfold bindC
    rw [bindC_out fun v hv => (List.nodup_cons.mp nd).1 (List.of_mem_zip hv).1, if_neg hk]
    simp
  | p :: P, w :: vs, i + 1, m, nd, h1, h2, hk => by
    show bindC kindOf ((p, w) :: P.zip vs) m x = _
    unfold bindC
    exact bindC_get (i := i) (List.nodup_cons.mp nd).2 (by simpa using h1) (by simpa using h2) hk

/-- the names' values at the entry -/
def start (N : List Str) (vs : List V) : St := vs.map some ++ List.replicate (N.length - vs.length) none

/-- the context of a def's body, at its entry; an exception leaves the frame, then lies as CX says -/
def cxOf (CX : CXT) (P : Program) (w : World) (K : PySem.W.Frag) (mg : Str → Option Value) (base : Heap) (N : List Str) (qual : Str) (scope : Scope) (f : Addr) (cd : Value) (A : Around) (outer : List Env) (s : Shared) (H : Hp) (E : XK) : Cx where
  prog := P
  w := w
  K := K
  mg := mg
  base := base
  A := A.deeper (envOfC qual scope s.heap.objs.size f cd)
  N := N
  s₀ := s
  H₀ := H
  env := envOfC qual scope s.heap.objs.size f cd
  outer := outer
  stack := envOfC qual scope s.heap.objs.size f cd :: outer
  ex := []
  calm := true
  fn := fun _ => true
  pn := []
  xe := fun e s' => wpAny (model P w) (A.deeper (envOfC qual scope s.heap.objs.size f cd)) (leaving (envOfC qual scope s.heap.objs.size f cd) e) (fun _ s'' => CX outer H s E e s'') (fun e' s'' => CX outer H s E e' s'') s'

theorem cell_has {sc : Scope} {n : Nat} {x : Str} (h : sc.names.lookup x = some .cell) : ∃ c, (cellsFrom n sc.names []).lookup x = some c := by
  have q := PySem.W.cellsFrom_some sc.names n [] (.inl h)
  exact Option.isSome_iff_exists.mp q

theorem inv_start {CX : CXT} {P : Program} {w : World} {K : PySem.W.Frag} {mg : Str → Option Value} {base : Heap} {N ps : List Str} {qual : Str} {scope : Scope} {f : Addr} {cd : Value} {A : Around} {outer : List Env} {s s1 : Shared} {H : Hp} {E : XK} {us : List Value} {vs : List V}
    (S : FnScope N ps scope) (hd : A.handled = none) (e0 : Env0 P w K mg base A outer s H) (hl : vs.length = ps.length) (r : Vals vs us)
    (x : InCallC s s.heap.objs.size (bindL (envOfC qual scope s.heap.objs.size f cd).kindOf (ps.zip us) fun _ => none) (cellsFrom (s.heap.objs.size + 1) scope.names []) (bindC (envOfC qual scope s.heap.objs.size f cd).kindOf (ps.zip us) fun _ => none) s1) :
    Inv (cxOf CX P w K mg base N qual scope f cd A outer s H E) [] (start N vs) H s1 := by
  have hpl : ps.length ≤ N.length := by have := congrArg List.length S.pre; rw [List.length_take] at this; omega
  obtain ⟨h1, tk, rfl, hk⟩ := x.done
  have noA : ∀ b : Addr, b ∉ (cxOf CX P w K mg base N qual scope f cd A outer s H E).ex := fun b z => absurd (show b ∈ ([] : List Addr) from z) (by simp)
  refine ⟨⟨e0.mod, S.kind, rfl, rfl, Nat.le_refl _, fun y z c h1 h2 => ?_, fun y hy => ?_, fun y c _ h => ?_, fun _ => hd, Around.frames_deeper e0.frames, .inr ⟨rfl, rfl⟩, fun b z => absurd z (noA b), e0.bs, e0.bsz, fun b _ _ => noA b, fun b z => absurd z (noA b), e0.funs, e0.frf⟩,
    rfl, e0.bare, Un.kept hk, ⟨_, x.toInCall.ns, fun i y v h1 h2 h3 => ?_⟩, fun y c h => ⟨_, x.cell y c h⟩, e0.hok.fresh (Nat.le_refl _), fun y c h => ?_, fun p hp => absurd (show p ∈ ([] : List (Addr × Obj)) from hp) (by simp), e0.hok.kept hk, ?_⟩
  · exact name_of_addr x.apart (PySem.mem_of_lookup h1) (PySem.mem_of_lookup h2)
  · have hy : scope.names.lookup y = some .cell ∨ scope.names.lookup y = some .free := hy
    rcases hy with hy | hy
    · exact cell_has hy
    · exact absurd rfl (S.nofree _ (PySem.mem_of_lookup hy))
  · exact Nat.le_of_lt (x.above y c (PySem.mem_of_lookup h))
  · have hi : i < vs.length := by
      unfold start at h2
      by_cases hi : i < vs.length
      · exact hi
      · rw [List.getElem?_append_right (by simpa using hi)] at h2
        rw [List.getElem?_replicate] at h2
        split at h2 <;> cases h2
    have ha : vs[i]? = some v := by
      unfold start at h2
      rw [List.getElem?_append_left (by simpa using hi), List.getElem?_map] at h2
      cases e : vs[i]? with
      | none => rw [e] at h2; cases h2
      | some a => rw [e] at h2; cases h2; rfl
    obtain ⟨u, hu, rv⟩ := r.get ha
    have hp : ps[i]? = some y := by
      rw [← S.pre, List.getElem?_take_of_lt (by omega)]; exact h1
    have ndP : ps.Nodup := by rw [← S.pre]; exact S.nd.sublist (List.take_sublist _ _)
    refine ⟨u, rv, ?_⟩
    rcases S.par y (List.mem_of_getElem? hp) with k | k
    · exact .inl ⟨k, bindL_get ndP hp hu k⟩
    · obtain ⟨c, e⟩ := cell_has (n := s.heap.objs.size + 1) k
      refine .inr ⟨.inl k, c, e, ?_⟩
      have q := x.cell y c e
      rw [bindC_get ndP hp hu (by show scope.names.lookup y ≠ _; rw [k]; decide)] at q
      exact q
  · exact e0.hok.fresh (Nat.le_of_lt (x.above y c (PySem.mem_of_lookup h)))
  · unfold start
    show _ = N.length
    rw [List.length_append, List.length_map, List.length_replicate]
    omega

/-- THE RULE: a def (or a method) of the text, by its body. The body's reading t is chosen for each entry; it is run at the parameters' values -/
theorem fn_of {CX : CXT} {P : Program} {w : World} {K : PySem.W.Frag} {mg : Str → Option Value} {base : Heap} {k : Nat} {f : Addr} {name qual : Str} {params : Arguments} {body : List Stmt} {scope : Scope} {dV kV doc pm cdv ct oc : Value} {an od : Option Addr}
    {osl : Array (Option Value)} {N ps : List Str} {sp : Sp} (lk : K.lookup f = some ⟨oc, od, .func (PySem.W.fnOf name qual params body scope dV kV doc pm an cdv ct), osl⟩) (hcd : PySem.W.codeIn K cdv qual = true) (S : FnScope N ps scope)
    (len : ∀ vs H Q E, sp vs H Q E → vs.length = ps.length)
    (hbody : ∀ (A : Around) (outer : List Env) (s : Shared) (H : Hp) (vs : List V) (Q : VK) (E : XK), Room k (A.deeper (envOfC qual scope s.heap.objs.size f cdv)) → sp vs H Q E →
      ∃ t, PSs (cxOf CX P w K mg base N qual scope f cdv A outer s H E) body t ∧ t { nx := fun _ H' => Q .non H', rt := Q } (start N vs) H) :
    FnOk P w K mg base CX (k + 1) f (PySem.W.fnOf name qual params body scope dV kV doc pm an cdv ct) ps sp := by
  refine ⟨len, fun A outer s H args us vs Q E hr e0 hb r hsp => ?_⟩
  have hl := len _ _ _ _ hsp
  have KX : K.In s.heap := e0.mod.kin.keeps fun b o e => (e0.bs b o e).1
  have lim : s.heap.NoLimit := e0.mod.nolimit.keeps fun b o e => (e0.bs b o e).1
  have hkind : ∀ y ∈ ps.zip us, scope.names.lookup y.1 = some .local ∨ (scope.names.lookup y.1 = some .cell ∧ ((cellsFrom (s.heap.objs.size + 1) scope.names []).lookup y.1).isSome = true) := fun ⟨n, v⟩ hy => by
    rcases S.par n (List.of_mem_zip hy).1 with q | q
    · exact .inl q
    · exact .inr ⟨q, PySem.W.cellsFrom_some _ _ _ (.inl q)⟩
  refine codeAny_call_function hr.depth (KX _ _ lk) rfl S.co S.gen rfl (PySem.W.codeRec_of KX hcd) (hb _ _ _ _ ?_)
  refine wpAny_newFunctionEnv_cells S.kind hkind fun env he s1 x => ?_
  subst he
  refine ⟨lim.keeps x.toInCall.keep, codeAny_func ?_⟩
  obtain ⟨t, ht, hq⟩ := hbody A outer s H vs Q E (hr.deeper _) hsp
  have I : Inv (cxOf CX P w K mg base N qual scope f cdv A outer s H E) [] (start N vs) H s1 := inv_start S hr.hd e0 hl r x
  refine wpAny_mono (ht [] s1 (start N vs) H _ I hq) (fun fl s' hs => ?_) fun e s' hs => hs
  have fin : ∀ {σ' : St} {H' : Hp} {v : V} {u : Value}, Inv (cxOf CX P w K mg base N qual scope f cdv A outer s H E) [] σ' H' s' → RelV v u → Q v H' → CE outer P w H s Q u s' :=
    fun {σ' H' v u} J rv q => ⟨v, H', J.os, J.bare, J.base, J.hok, rv, q⟩
  cases fl with
  | ret u =>
    obtain ⟨v, σ', H', J, rv, q⟩ := hs
    exact fin J rv q
  | next =>
    obtain ⟨σ', H', J, q⟩ := hs
    exact fin (v := V.non) (u := Value.none) J rfl q
  | brk =>
    obtain ⟨_, _, _, q⟩ := hs
    exact False.elim q
  | cont =>
    obtain ⟨_, _, _, q⟩ := hs
    exact False.elim q
end L2

namespace L2
open PySem PySem.Spec PyProof.Rows
section
variable {X : Cx} {x : Str} {p pos : Pos} {e : Expr} {es : List Expr} {t : TA} {id T : String} {r : List V → Hp → VK → Prop}

def tCB (r : List V → Hp → VK → Prop) (t : TA) : TE := fun σ H Q => t σ H fun vs H1 => r vs H1 Q
/-- f(e, ..), f a built-in function -/
theorem pe_callB (hc : CallR X (.builtin id) r) (hg : Gl X x) (hm : X.mg x = none) (hv : bootBuiltins x = some (.builtin id)) (ha : PA X (e :: es) t) (hn : x ≠ "__name__" := by decide) (hdb : (x == ("__debug__" : Str)) = false := by decide)
    (he : starEach (e :: es) X.env = (false, eval e X.env) :: starEach es X.env := by rfl) (hpl : (backTo pos (starEach es X.env)).any (·.1) = false := by rfl) : PE X (.Call (.Name x p) (e :: es) [] pos) (tCB r t) := by
  intro pins s σ H Q I h
  refine wpAny_Call_Name_kw (ld_blt I hg hm hv ?_ hn hdb)
  exact PyProof.Rows.callWith_builtin1 (thn (ha pos pins s σ H _ I h) fun us s1 ⟨vs, H1, I1, r1, q1⟩ => hc pins s1 σ H1 vs us Q I1 r1 q1) he hpl
/-- T(e, ..), T a built-in type -/
theorem pe_callTy (hc : CallR X (.type T) r) (hg : Gl X x) (hm : X.mg x = none) (hv : bootBuiltins x = some (.type T)) (ha : PA X (e :: es) t) (hn : x ≠ "__name__" := by decide) (hdb : (x == ("__debug__" : Str)) = false := by decide)
    (he : starEach (e :: es) X.env = (false, eval e X.env) :: starEach es X.env := by rfl) (hpl : (backTo pos (starEach es X.env)).any (·.1) = false := by rfl) : PE X (.Call (.Name x p) (e :: es) [] pos) (tCB r t) := by
  intro pins s σ H Q I h
  refine wpAny_Call_Name_kw (ld_blt I hg hm hv ?_ hn hdb)
  exact PyProof.Rows.callWith_type1 (thn (ha pos pins s σ H _ I h) fun us s1 ⟨vs, H1, I1, r1, q1⟩ => hc pins s1 σ H1 vs us Q I1 r1 q1) he hpl
end
end L2

namespace HT
open PySem PyProof.Rows

section
open PySem.SeqAt
open PySem.AutoSeq1 (wpAny_loadPart')
open PySem.MeetsSeq PySem.MeetsSeq2 PySem.MeetsSeq3

end

section
variable {prog : Program} {w : World} {A : Around} {E : Value → Shared → Prop} {s : Shared}

/-! ### t[a:b], not the whole -/
end
end HT

namespace L2
open PySem PySem.Spec PyProof.Rows

/-! ### the parts of a slice -/
abbrev TO := St → Hp → (Option Int → Hp → Prop) → Prop
section
variable {X : Cx} {e : Expr} {te : TE} {lo hi : Option Expr} {tl th : TO} {pos p2 : Pos}

/-! ### t < u, t + u -/
end
end L2

namespace L2
open PySem PySem.Spec PyProof.Rows

/-! ### places -/
/-- the place that an index of any sign means -/
def ixN (n : Nat) (i : Int) : Option Nat := if 0 ≤ i then (if i < n then some i.toNat else none) else if -(n : Int) ≤ i then some (i + n).toNat else none
def atI {α : Type} (xs : List α) (i : Int) : Option α := (ixN xs.length i).bind fun j => xs[j]?
theorem ixN_seq {n : Nat} {i : Int} {j : Nat} (h : ixN n i = some j) : seqIndex? i n = some j ∧ j < n ∧ -(n : Int) ≤ i ∧ i < n := by
  unfold ixN at h
  by_cases h0 : 0 ≤ i
  · rw [if_pos h0] at h
    by_cases h1 : i < n
    · rw [if_pos h1] at h
      have e : i.toNat = j := Option.some.inj h
      exact ⟨by rw [seqIndex_of h0 h1, e], by omega, by omega, h1⟩
    · rw [if_neg h1] at h; cases h
  · rw [if_neg h0] at h
    by_cases h1 : -(n : Int) ≤ i
    · rw [if_pos h1] at h
      have e : (i + n).toNat = j := Option.some.inj h
      exact ⟨by rw [seqIndex_neg (by omega) h1, e], by omega, h1, by omega⟩
    · rw [if_neg h1] at h; cases h
theorem atI_get {α : Type} {xs : List α} {i : Int} {v : α} (h : atI xs i = some v) : ∃ j, seqIndex? i xs.length = some j ∧ xs[j]? = some v ∧ j < xs.length ∧ -(xs.length : Int) ≤ i ∧ i < xs.length := by
  unfold atI at h
  cases e : ixN xs.length i with
  | none => rw [e] at h; cases h
  | some j =>
    rw [e] at h
    obtain ⟨h1, h2, h3, h4⟩ := ixN_seq e
    exact ⟨j, h1, h, h2, h3, h4⟩
theorem atI_nat {α : Type} {xs : List α} {j : Nat} {v : α} (h : xs[j]? = some v) : atI xs (j : Int) = some v := by
  have hj : j < xs.length := (List.getElem?_eq_some_iff.mp h).1
  have e : ixN xs.length (j : Int) = some j := by
    unfold ixN
    rw [if_pos (by omega), if_pos (by omega)]; simp
  unfold atI; rw [e]; exact h
/-! ### what may be subscripted -/
/-- what stands as an index of a plain subscript -/
def PlainIx (b : Expr) : Prop := ∀ o i, subscripted b false o i = operate [o, i] (getItem o i)
/-- a subscript by values -/
def IxR (X : Cx) (r : R2) : Prop :=
  ∀ (value slice : Expr) (pins : List (Addr × Obj)) (s : Shared) (σ : St) (H : Hp) (x y : V) (v u : Value) (Q : VK), Inv X pins σ H s → RelV x v → RelV y u → r x y H Q →
    subscripted slice false v u = operate [v, u] (getItem v u) → wpAny (model X.prog X.w) X.A (subscriptTail value slice v u) (EP X pins σ Q) X.xe s
/-- a call of a builtin's method by values: the receiver, the arguments -/
def MtR (X : Cx) (id : String) (r : V → List V → Hp → VK → Prop) : Prop :=
  ∀ (pins : List (Addr × Obj)) (s : Shared) (σ : St) (H : Hp) (x : V) (xs : List V) (v : Value) (us : List Value) (Q : VK), Inv X pins σ H s → RelV x v → Vals xs us → r x xs H Q →
    wpAny (model X.prog X.w) X.A (call (.builtin id) (v :: us)) (EP X pins σ Q) X.xe s
section
variable {X : Cx} {a b : Expr} {ta tb : TE} {pos : Pos}
/-- a[b] -/
theorem pe_ix {r : R2} (hr : IxR X r) (ha : PE X a ta) (hb : PE X b tb) (hs : PlainIx b) : PE X (.Subscript a b pos) (tOp r ta tb) := by
  intro pins s σ H Q I h
  exact Subscript_ (binT ha hb I h fun v u s2 x y H2 I2 rx ry q => hr a b pins s2 σ H2 x y v u Q I2 rx ry q (hs _ _))

def rIxL (K : PySem.W.Frag) : R2 := fun x y H Q => ∃ p xs i v, x = .ref p ∧ y = .int i ∧ SqL K H p xs ∧ atI xs i = some v ∧ Q v H
def rIxT (K : PySem.W.Frag) : R2 := fun x y H Q => ∃ p xs i v, x = .ref p ∧ y = .int i ∧ SqT K H p xs ∧ atI xs i = some v ∧ Q v H
theorem ix_list : IxR X (rIxL X.K) := by
  intro value slice pins s σ H x y v u Q I rx ry h hs
  obtain ⟨p, xs, i, z, rfl, rfl, hq, he, q⟩ := h
  cases rx
  obtain ⟨t, rfl⟩ := ry
  obtain ⟨its, r, pl, hz⟩ := I.list hq
  obtain ⟨j, h1, h2, h3, h4, h5⟩ := atI_get he
  obtain ⟨w, ew, rw'⟩ := r.get h2
  have hl := r.length
  have hn := line63
  have fin : EP X pins σ Q w s := ⟨z, H, I, rw', q⟩
  by_cases h0 : 0 ≤ i
  · have hj : i.toNat = j := by
      rw [seqIndex_of h0 h5] at h1
      exact Option.some.inj h1
    exact item_listR pl.isList h0 (by omega) (by rw [hj]; simpa using ew) fin hs
  · have hj : (i + (its.toArray.size : Int)).toNat = j := by
      rw [seqIndex_neg (by omega) h4] at h1
      rw [List.size_toArray, ← hl]
      exact Option.some.inj h1
    exact subscriptTail_builtinR (x := w) pl.isList.typeIs slot_list_getitem.lookup
      (wpAny_getItem_list_neg (Q := fun r s' => r = w ∧ EP X pins σ Q r s') pl.isList (by omega) (by rw [List.size_toArray] <;> omega) (by omega) (by rw [hj]; simpa using ew) ⟨rfl, fin⟩) hs
theorem ix_tup : IxR X (rIxT X.K) := by
  intro value slice pins s σ H x y v u Q I rx ry h hs
  obtain ⟨p, xs, i, z, rfl, rfl, hq, he, q⟩ := h
  cases rx
  obtain ⟨t, rfl⟩ := ry
  obtain ⟨its, r, pl, hz⟩ := I.tuple hq
  obtain ⟨j, h1, h2, h3, h4, h5⟩ := atI_get he
  obtain ⟨w, ew, rw'⟩ := r.get h2
  have hl := r.length
  have hn := line63
  have fin : EP X pins σ Q w s := ⟨z, H, I, rw', q⟩
  exact subscriptTail_builtinR (x := w) pl.typeIs slot_tuple_getitem.lookup
    (getItem_tuple (j := j) (Q := fun r s' => r = w ∧ EP X pins σ Q r s') pl (by omega) (by omega) (by rw [List.size_toArray, ← hl]; exact h1) (by simpa using ew) ⟨rfl, fin⟩) hs
/-! ### xs[i] = v, any sign -/
/-! ### slices -/
/-! ### in, not in: flat items -/
/-! ### len, list(x), tuple(x) of any list or tuple that is read -/
theorem call_len_seq : CallR X (.builtin "len") (fun xs H Q => ∃ p ys, xs = [.ref p] ∧ (SqL X.K H p ys ∨ SqT X.K H p ys) ∧ Q (.int ys.length) H) := by
  intro pins s σ H xs us Q I r h
  obtain ⟨p, ys, rfl, hq, q⟩ := h
  obtain ⟨u, rfl, rx⟩ := vals1 r
  cases rx
  have hn := line63
  rcases hq with hq | hq
  · obtain ⟨its, r', pl, hz⟩ := I.list hq
    have hlen := r'.length
    exact Calls.call_len_list pl.isList (by simp only [List.size_toArray] <;> omega) ⟨.int ys.length, H, I.tok _, ⟨s.toks + 1, by rw [List.size_toArray, hlen]⟩, q⟩
  · obtain ⟨its, r', pl, hz⟩ := I.tuple hq
    have hlen := r'.length
    exact len_tuple pl (by simp only [List.size_toArray] <;> omega) ⟨.int ys.length, H, I.tok _, ⟨s.toks + 1, by rw [List.size_toArray, hlen]⟩, q⟩
theorem call_list_of : CallR X (.type "list") (fun xs H Q => ∃ p ys, xs = [.ref p] ∧ (SqL X.K H p ys ∨ SqT X.K H p ys) ∧ ∀ l, H l = none → Q (.ref l) (upd H l (.lst ys))) := by
  intro pins s σ H xs us Q I r h
  obtain ⟨p, ys, rfl, hq, q⟩ := h
  obtain ⟨u, rfl, rx⟩ := vals1 r
  cases rx
  have fin : ∀ (its : List Value), Vals ys its → ys.length ≤ sizeLine → ∀ (h' : Heap) (c' : Nat), (∀ b o', s.heap.get? b = some o' → h'.get? b = some o') →
      h'.get? s.heap.objs.size = some { cls := .type "list", dict := none, data := .seq its.toArray c', slots := #[] } → EP X pins σ Q (.ref s.heap.objs.size) { s with heap := h' } := fun its r' hz h' c' kp e =>
    ⟨.ref s.heap.objs.size, _, I.laid (t' := s.toks) kp (Nat.le_refl _) (show ObjOk X.prog X.w _ h' _ (.lst ys) from ⟨hz, its, c', r', e⟩), rfl, q _ (I.hok.fresh (Nat.le_refl _))⟩
  rcases hq with hq | hq
  · obtain ⟨its, r', pl, hz⟩ := I.list hq
    have hlen := r'.length
    obtain ⟨o, ho, hc, n, hd⟩ := pl.isList
    exact call_list_seq p (.inl rfl) ho hc hd (fun h' c' kp e => fin its r' hz h' c' kp e) (by simp only [List.size_toArray] <;> omega)
  · obtain ⟨its, r', pl, hz⟩ := I.tuple hq
    have hlen := r'.length
    obtain ⟨o, ho, hc, n, hd⟩ := pl
    exact call_list_seq p (.inr rfl) ho hc hd (fun h' c' kp e => fin its r' hz h' c' kp e) (by simp only [List.size_toArray] <;> omega)
/-! ### the call of a builtin's method: o.m(..) -/
/-- the value is of that builtin type -/
def tyV (K : PySem.W.Frag) (T : String) (x : V) (H : Hp) : Prop := match x with
  | .str _ => T = "str"
  | .int _ => T = "int"
  | .ref p => (T = "list" ∧ ∃ xs, SqL K H p xs) ∨ (T = "tuple" ∧ ∃ o, K.lookup p = some o ∧ o.cls = .type "tuple" ∧ o.dict = none) ∨
      (T = "dict" ∧ ((∃ kvs, H p = some (.dK kvs)) ∨ ∃ kvs, H p = some (.dT kvs))) ∨ (T = "set" ∧ ∃ S n, H p = some (.set S n))
  | _ => False
theorem tyV_is {pins : List (Addr × Obj)} {σ : St} {H : Hp} {s : Shared} {T : String} {x : V} {v : Value} (I : Inv X pins σ H s) (r : RelV x v) (ty : tyV X.K T x H) :
    s.TypeIs v T ∧ ∀ a, v = .ref a → ∃ ob, s.heap.get? a = some ob ∧ ob.dict = none := by
  cases x with
  | str z =>
    obtain ⟨t, rfl⟩ := r
    cases (show T = "str" from ty)
    exact ⟨typeIs_str s z t, fun _ e => nomatch e⟩
  | int i =>
    obtain ⟨t, rfl⟩ := r
    cases (show T = "int" from ty)
    exact ⟨typeIs_int s i t, fun _ e => nomatch e⟩
  | ref p =>
    cases r
    rcases ty with ⟨rfl, xs, hq⟩ | ⟨rfl, o, hk, hc, hd⟩ | ⟨rfl, hk⟩ | ⟨rfl, S, n, hk⟩
    · obtain ⟨its, _, pl, _⟩ := I.list hq
      refine ⟨pl.isList.typeIs, fun a e => ?_⟩
      cases e
      obtain ⟨o, n, e, c, hd, _⟩ := pl
      exact ⟨o, e, hd⟩
    · refine ⟨⟨o, I.kIn p o hk, hc⟩, fun a e => ?_⟩
      cases e
      exact ⟨o, I.kIn _ o hk, hd⟩
    · have z : ∃ o, s.heap.get? p = some o ∧ o.ExactDict := by
        rcases hk with ⟨kvs, hk⟩ | ⟨kvs, hk⟩
        · obtain ⟨_, _, _, _, o, _, _, e, ex, _⟩ := I.hok p _ hk
          exact ⟨o, e, ex⟩
        · obtain ⟨_, _, _, _, o, _, _, e, ex, _⟩ := I.hok p _ hk
          exact ⟨o, e, ex⟩
      obtain ⟨o, e, ex⟩ := z
      refine ⟨⟨o, e, ex.1⟩, fun a e2 => ?_⟩
      cases e2
      exact ⟨o, e, ex.2.1⟩
    · obtain ⟨o, _, _, _, e, ex, _⟩ := I.hok p _ hk
      refine ⟨⟨o, e, ex.1⟩, fun a e2 => ?_⟩
      cases e2
      exact ⟨o, e, ex.2.1⟩
  | _ => exact False.elim ty
def tBM (K : PySem.W.Frag) (T : String) (r : V → List V → Hp → VK → Prop) (to : TE) (t : TA) : TE := fun σ H Q => to σ H fun x H1 => tyV K T x H1 ∧ t σ H1 fun xs H2 => r x xs H2 Q
variable {o e : Expr} {es : List Expr} {to : TE} {t : TA} {name : Str} {apos cpos : Pos} {T id : String} {r : V → List V → Hp → VK → Prop}
theorem pe_bm (pa : PlainAttrs T) (slot : Slot T name id) (hty : typeOf (.builtin id) = pure (.type "method_descriptor")) (hm : MtR X id r) (ho : PE X o to) (ha : PA X (e :: es) t)
    (hbase : attributeBase o name X.env (eval o X.env) = eval o X.env := by rfl)
    (hfew : ((backTo cpos (starEach (e :: es) X.env)).all (fun x => !x.1) && (backToKw cpos (keywordEach [] X.env)).all (fun x => x.1.isSome)
      && decide ((e :: es).length + ([] : List Keyword).length + (if ([] : List Keyword).isEmpty then 0 else 1) < 30)) = true := by rfl)
    (hline : (apos.endLine == cpos.line) = true := by rfl) (hs : starEach (e :: es) X.env = (false, eval e X.env) :: starEach es X.env := by rfl) (hplain : (backTo cpos (starEach es X.env)).any (·.1) = false := by rfl) :
    PE X (.Call (.Attribute o name apos) (e :: es) [] cpos) (tBM X.K T r to t) := by
  intro pins s σ H Q I h
  refine wpAny_Call_method_late hbase hfew hline rfl (thn (ho pins s σ H _ I h) fun v s1 ⟨x, H1, I1, r1, ty, q1⟩ => ?_)
  obtain ⟨h1, h2⟩ := tyV_is I1 r1 ty
  refine ⟨T, id, pa, slot, hty, h1, h2, ?_⟩
  have hA := ha cpos pins s1 σ H1 _ I1 q1
  rw [hs] at hA ⊢
  refine Calls.callWith_builtin (by show (false || (backTo cpos (starEach es X.env)).any (·.1)) = false; rw [hplain] <;> rfl) (Calls.evalArgs_plain ?_)
  exact thn hA fun us s2 ⟨vs, H2, I2, r2, q2⟩ => hm pins s2 σ H2 x vs v us Q I2 r1 r2 q2
/- xs.append(e), list.index on a module's tuple .. are MtR facts of 06m -/
end
end L2

namespace L2
open PySem PySem.Spec PyProof.Rows

def MtM (X : Cx) (id : String) (r : V → List V → Hp → VK → Prop) : Prop :=
  ∀ (pins : List (Addr × Obj)) (s : Shared) (σ : St) (H : Hp) (x : V) (xs : List V) (v : Value) (us : List Value) (Q : VK), Inv X pins σ H s → RelV x v → Vals xs us → r x xs H Q →
    wpAny (model X.prog X.w) X.A (call (.builtin id) (v :: us)) (EP X pins σ Q) X.xe s

/-! ### lists of values -/
theorem Vals.one : ∀ {x : V} {us : List Value}, Vals [x] us → ∃ u, us = [u] ∧ RelV x u
  | _, _, .cons r .nil => ⟨_, rfl, r⟩
section
variable {X : Cx} {pins : List (Addr × Obj)} {σ : St} {H : Hp} {s : Shared} {l b : Addr} {xs ys zs : List V}

/-! ### the two steps: a tracked list is rewritten, a new list is laid -/
theorem Inv.lset {its its' : List Value} {n : Nat} {f : Array Value → Array Value} {t' : Nat} (I : Inv X pins σ H s) (hH : H l = some (.lst xs))
    (e : s.heap.get? l = some { cls := .type "list", data := .seq its.toArray n }) (hf : f its.toArray = its'.toArray) (hv : Vals ys its') (hz : ys.length ≤ sizeLine) :
    Inv X pins σ (upd H l (.lst ys)) { s with heap := s.heap.update l (Obj.mapSeq f), toks := t' } := by
  have q := PySem.IsL.update e f
  rw [hf] at q
  refine I.write (x := l) (e := l) (by rw [hH]; exact trivial) (.inl rfl) (fun b' u hb hu => (Heap.get?_update_other s.heap (Obj.mapSeq f) (Ne.symm hb)).trans hu) ⟨_, q⟩ ?_
  exact ⟨hz, its', _, hv, q⟩
theorem Inv.lstM (I : Inv X pins σ H s) (hH : H l = some (.lst xs)) : xs.length ≤ sizeLine ∧ ∃ (its : List Value) (n : Nat), Vals xs its ∧ xs.length = its.length ∧ s.heap.get? l = some { cls := .type "list", data := .seq its.toArray n } := by
  obtain ⟨z, its, n, r, e⟩ := I.hok l _ hH
  exact ⟨z, its, n, r, r.length, e⟩

end

section
variable {X : Cx}

/-! ### methods -/
def rAppend : V → List V → Hp → VK → Prop := fun x vs H Q => ∃ l xs y, x = .ref l ∧ vs = [y] ∧ H l = some (.lst xs) ∧ xs.length < sizeLine ∧ Q .non (upd H l (.lst (xs ++ [y])))
theorem mt_append : MtM X "list.append" rAppend := by
  intro pins s σ H x vs v us Q I rx rv h
  obtain ⟨l, xs, y, rfl, rfl, hH, hz, q⟩ := h
  cases rx
  obtain ⟨u, rfl, ru⟩ := rv.one
  obtain ⟨z, its, n, r, hl, e⟩ := I.lstM hH
  refine call_meets F.slot_list_append ⟨_, e, rfl⟩ F.entry_list_append (F.args_list_append_2 _ _) (PySem.list_append l its.toArray n u (by rw [List.size_toArray]; omega)) ⟨e, ?_⟩
  refine ⟨.non, _, I.lset (its' := its ++ [u]) hH e (by simp) (r.append (.cons ru .nil)) ?_, rfl, q⟩
  rw [List.length_append, List.length_singleton]
  omega

/-! ### list + list, list += list, list * int -/
/-! ### del xs[i] -/
end

/-! ### xs[a:b] = ys -/
section
variable {prog : Program} {w : World} {A : Around} {E : Value → Shared → Prop} {s : Shared}
end

section
variable {X : Cx}
end
end L2

namespace Att
open PySem PySem.W PySem.Calls PyProof.Rows

/-! ### the script -/
theorem ints_of_wellAll {P : Params} {h : Heap} : ∀ (ns : List Int) (vs : List Value), WellAll P h vs (ns.map WData.int) → IntsAre vs ns := by
  intro ns
  induction ns with
  | nil =>
    intro vs w
    rw [List.map_nil] at w
    cases w
    exact .nil
  | cons n ns ih =>
    intro vs w
    rw [List.map_cons] at w
    cases w with
    | cons a b =>
      cases a
      exact .cons _ _ (ih _ b)

theorem script_of {l : OpenLaw} {n : Nat} (hn : l.most = some n) {P : Params} {h : Heap} {args : List WData} {vals : List Value}
    (hpre : l.row.toRowW.claim.pre args = true) (hwl : WellAll P h vals args) :
    ∃ a vs ns, vals = [Value.ref a] ∧ args = [WData.list (ns.map WData.int)] ∧ h.get? a = some { cls := .type "list", data := .seq vs.toArray } ∧ IntsAre vs ns ∧ ns.length ≤ n := by
  have hsh : WShape.hasAll [] args [.list .int] = true := (pre_splitW hpre).1
  have hc : l.pre.holds [] { args := args } = true := (pre_splitW hpre).2
  obtain ⟨d, r, rfl, h1, h2⟩ := hasAllW_cons hsh
  obtain rfl := hasAllW_nil h2
  obtain ⟨xs, rfl, h3⟩ := hasW_list h1
  obtain ⟨ns, rfl⟩ := items_int h3
  have hlen : ns.length ≤ n := by
    unfold OpenLaw.pre at hc
    have h4 : (WTm.not (.lt (.lit (.int (n : Int))) (.len (.arg 0)))).holds [] { args := [.list (ns.map .int)] } = true := by
      have h4 := (holds_andW hc).1
      rw [hn] at h4
      exact h4
    have h5 := condW_of h4 (w_not (w_lt w_lit (w_len_list (w_arg rfl))))
    rw [List.length_map] at h5
    refine Nat.le_of_not_lt fun q => ?_
    have q' : (n : Int) < ((ns.length : Nat) : Int) := by omega
    first
      | (rw [decide_eq_true q'] at h5; exact absurd h5 (by decide))
      | (simp at h5; omega)
  cases hwl with
  | cons w1 w2 =>
    cases w2
    cases w1 with
    | list ho hall => exact ⟨_, _, ns, rfl, rfl, ho, ints_of_wellAll ns _ hall, hlen⟩

theorem post_true (l : OpenLaw) (args : List WData) : l.row.toRowW.claim.post args (.bool true) args = true :=
  postW_of (r := l.row.toRowW) (X := (true == true))
    (show WShape.has [] (.bool true) .bool = true by first | rfl | decide | simp [WShape.has, WShape.arms, WShape.armsAll])
    (show (WTm.eq .res (.lit (.bool true))).value [] { args := args, res := some (.bool true), after := args } = some (.bool (true == true)) from w_eq_bool (w_res rfl) w_lit) rfl

/-! ### the attachment: holds_open's last premise (the goal 'hc' behind k_head) from a wpAny of the law's body -/
/-- the same from a codeAny of the CALL (for a layer whose function contracts speak of calls) -/
theorem attach_call {l : OpenLaw} {n : Nat} {q : Program} {loose : List Str} {XP : (Str → Option Value) → Heap → Prop} {YP : World → Heap → Prop} {d : DefRec}
    (hn : l.most = some n) (hdf : d.params.defaults = [])
    (call : ∀ (w : World) (s₀ s₁ : Shared) (mg mb : Str → Option Value) (fa : Addr) (o : Obj) (pm cd doc : Value) (a : Addr) (vs : List Value) (ns : List Int),
      Ground q loose [] XP w s₀ mg mb s₁.heap → YP w s₁.heap →
      s₁.heap.get? fa = some o → o.data = .func (docDef d.name d.params d.body d.scope pm cd doc) → s₁.heap.CodeRec cd d.name → mg d.name = some (.ref fa) →
      s₁.heap.get? a = some { cls := .type "list", data := .seq vs.toArray } → IntsAre vs ns → ns.length ≤ n → s₁.gens = #[] →
      codeAny (model l.prog w) callerA (.call (.ref fa) ⟨[.ref a], []⟩) (fun r s' => r = .ok (.ret (.bool true)) ∧ OldK s₁.heap s'.heap ∧ s'.os = s₁.os ∧ AllBare s'.gens) s₁) :
    WalkO q loose XP YP l.row.toRowW d [] (fun f vs => PySem.call f vs) := by
  intro w s₀ s₁ mg mb G Y fa o pm cd doc dV kV ho hd hcd hD hmg hg args vals as hpre hlay hrd hwl hlo
  obtain rfl : dV = .none := Dflts.none hD hdf
  obtain rfl : kV = .none := Dflts.noKw hD
  obtain ⟨a, vs, ns, rfl, rfl, hobj, hints, hlen⟩ := script_of hn hpre hwl
  refine enter_call (codeAny_mono (call w s₀ s₁ mg mb fa o pm cd doc a vs ns G Y ho (fd_plain hd) hcd hmg hobj hints hlen hg) fun r s' hq => ?_)
  obtain ⟨rfl, h2, h3, h4⟩ := hq
  exact ⟨.inl ⟨.bool true, .bool true, [], rfl, fun _ => rfl, .bool true, post_true l _, fun _ => ⟨List.Pairwise.nil, fun _ hm => (nomatch hm)⟩⟩, h2, h3, h4⟩

/-! ### rules over ANY heap (no ledger) from facts about the written part K: the library's own take a ledger (News) for what they write -/
section
variable {prog : Program} {w : World} {A : Around} {E : Value → Shared → Prop} {s : Shared} {K : Frag}

/-! the whole heap as the ledger: makes every rule that writes through a ledger a rule over any heap -/
def ledger (h : Heap) (L d : Addr) : List (Addr × Obj) := (List.range h.objs.size).filterMap fun a => if a = L ∨ a = d then none else (h.get? a).map fun o => (a, o)
end
end Att

namespace L2
open PySem PySem.Spec PyProof.Rows

theorem vals_ints : ∀ {vs : List Value} {ns : List Int}, IntsAre vs ns → Vals (ns.map V.int) vs
  | _, _, .nil => .nil
  | _, _, .cons n t h => .cons ⟨t, rfl⟩ (vals_ints h)

/-- nothing is tracked but the script, known to the object (or it is an object of the module) -/
def Only (H : Hp) : Prop := ∀ b, H b = none ∨ ∃ o xs, H b = some (.frz o (.lst xs))

/-- THE HEAD: the law's promise, at the heap behind the top. F, the promise of the law's def, may use that base is part of the heap (so K.In base, base.Ns mainGlobals mg stand in Mod) -/
theorem law_call {P : Program} {w : World} {K : PySem.W.Frag} {mg mb : Str → Option Value} {CX : CXT} {k : Nat} {fa a : Addr} {fd : FuncData} {x : Str} {sp : Sp} {s₁ : Shared} {vs : List Value} {ns : List Int}
    (KX : K.In s₁.heap) (hns : s₁.heap.Ns mainGlobals mg) (hb : s₁.heap.Ns builtinsNs mb) (hbb : ∀ x : Str, x ≠ "__name__" → mb x = bootBuiltins x) (hlim : s₁.heap.NoLimit) (hg : s₁.gens = #[])
    (ha : s₁.heap.get? a = some { cls := .type "list", data := .seq vs.toArray }) (hi : IntsAre vs ns) (hl : ns.length ≤ sizeLine) (hr : Room k callerA)
    (F : ∀ base : Heap, K.In base → base.Ns mainGlobals mg → FnOk P w K mg base CX k fa fd [x] sp) (hbind : ∀ (s : Shared) (u : Value), BindsTo s fd ⟨[u], []⟩ [(x, u)])
    (hsp : ∀ H : Hp, Only H → SqL K H a (ns.map V.int) → sp [.ref a] H (fun v _ => v = .bl true) fun _ _ _ => False)
    (hCX : ∀ H e s', CX [] H s₁ (fun _ _ _ => False) e s' → False) :
    codeAny (model P w) callerA (.call (.ref fa) ⟨[.ref a], []⟩) (fun r s' => r = .ok (.ret (.bool true)) ∧ OldK s₁.heap s'.heap ∧ s'.os = s₁.os ∧ AllBare s'.gens) s₁ := by
  have rv := vals_ints hi
  have lenV := hi.length
  -- from an abstract heap in which nothing but the script may be tracked
  have core : ∀ H : Hp, Only H → SqL K H a (ns.map V.int) → HOk P w H s₁.heap → (∀ b, H b ≠ none → b = a) → (H a ≠ none → K.lookup a = none) →
      codeAny (model P w) callerA (.call (.ref fa) ⟨[.ref a], []⟩) (fun r s' => r = .ok (.ret (.bool true)) ∧ OldK s₁.heap s'.heap ∧ s'.os = s₁.os ∧ AllBare s'.gens) s₁ := by
    intro H hO hS hok hA hK
    have base_of : ∀ {b : Addr} {o : Obj}, s₁.heap.get? b = some o → H b = none → (hidT s₁.heap H).get? b = some o := fun e n => hidT_get e n
    have noA : ∀ {b : Addr} {o : Obj} {es : Array DictEntry} {ep : Nat}, s₁.heap.get? b = some o → o.data = .dict es ep → H b = none := fun {b o es ep} e d => by
      cases q : H b with
      | none => rfl
      | some u =>
        have e' : b = a := hA b (by rw [q]; simp)
        subst e'
        rw [ha] at e; cases e
        have d' : Data.seq vs.toArray _ = Data.dict es ep := d
        cases d'
    have nsK : ∀ {b : Addr} {m : Str → Option Value}, s₁.heap.Ns b m → (hidT s₁.heap H).Ns b m := fun {b m} ⟨o, es, ep, e, d, r⟩ => ⟨o, es, ep, base_of e (noA e d), d, r⟩
    have hKb : K.In (hidT s₁.heap H) := fun b o e => base_of (KX b o e) (by
      cases q : H b with
      | none => rfl
      | some u =>
        have e' : b = a := hA b (by rw [q]; simp)
        subst e'
        rw [hK (by rw [q]; simp)] at e; cases e)
    have hM : Mod K mg (hidT s₁.heap H) := ⟨hKb, nsK hns, ⟨mb, nsK hb, hbb⟩, let ⟨mc, h1, h2⟩ := hlim; ⟨mc, nsK h1, h2⟩⟩
    have e0 : Env0 P w K mg (hidT s₁.heap H) callerA [] s₁ H := ⟨rfl, hM, fun b o e => of_hidT e, Nat.le_of_eq (hidT_size _ _), trivial, fun b hb => absurd (show b ∈ ([] : List Addr) from hb) (by simp), hok, .of_eq hg⟩
    refine codeAny_mono ((F _ hKb (nsK hns)).run callerA [] s₁ H ⟨[.ref a], []⟩ [.ref a] [.ref a] _ _ hr e0 (hbind s₁ (.ref a)) (.cons rfl .nil) (hsp H hO hS)) fun r s' h => ?_
    cases r with
    | error e => exact (hCX H e s' h).elim
    | ok fl =>
      cases fl with
      | next => exact False.elim h
      | brk => exact False.elim h
      | cont => exact False.elim h
      | ret u =>
        obtain ⟨v, H', os, bare, un, hok', r', q⟩ := h
        have q' : v = .bl true := q
        subst q'
        obtain rfl : u = Value.bool true := r'
        refine ⟨rfl, OldK.of_keep fun b o e => ?_, os, bare⟩
        cases q : H b with
        | none => exact un.keep b o e q (by intro z; exact absurd (show b ∈ ([] : List Addr) from z) (by simp)) (by simp)
        | some u =>
          rcases hO b with z | ⟨ob, xs, z⟩
          · rw [q] at z; cases z
          · have z2 := un.frzs b ob _ z
            obtain ⟨e1, _⟩ := hok b _ z
            obtain ⟨e2, _⟩ := hok' b _ z2
            rw [e] at e1; cases e1
            exact e2
  cases hk : K.lookup a with
  | some o =>
    -- the script is one of the module's own objects
    have e := KX a o hk
    rw [ha] at e
    cases e
    refine core (fun _ => none) (fun _ => .inl rfl) (.inr ⟨_, vs.toArray, _, hk, rfl, rfl, rfl, by rw [List.size_toArray, lenV]; exact hl, by simpa using rv⟩) (fun b u z => by have z' : (none : Option HO) = some u := z; cases z') (fun b z => absurd rfl z) fun z => absurd rfl z
  | none =>
    refine core (fun b => if b = a then some (.frz { cls := .type "list", data := .seq vs.toArray } (.lst (ns.map V.int))) else none) (fun b => ?_) (.inl (.inr ⟨{ cls := .type "list", data := .seq vs.toArray }, if_pos rfl⟩)) (fun b u z => ?_) (fun b z => ?_) fun _ => hk
    · by_cases hb : b = a
      · exact .inr ⟨_, _, if_pos hb⟩
      · exact .inl (if_neg hb)
    · by_cases hb : b = a
      · have z' := (if_pos hb).symm.trans z
        cases z'
        subst hb
        exact ⟨ha, by rw [List.length_map]; exact hl, vs, _, rv, ha⟩
      · have z' := (if_neg hb).symm.trans z
        cases z'
    · by_cases hb : b = a
      · exact hb
      · exact absurd (if_neg hb) z
end L2

namespace L2
open PySem PySem.Spec PyProof.Rows

abbrev KOf {K : PySem.W.Frag} {h : Heap} (_ : K.In h) : PySem.W.Frag := K

/-- the goal that k_head leaves (case hc), from the law's promise. F gives the function object fd (K's own) once, then the promise over every base -/
theorem walk_of {l : PySem.W.OpenLaw} {n k : Nat} {q : Program} {loose : List Str} {XP : (Str → Option Value) → Heap → Prop} {YP : World → Heap → Prop} {d : DefRec} {K : Params → PySem.W.Frag} {CX : World → CXT} {sp : World → Sp} {x : Str}
    (hn : l.most = some n) (hn2 : n ≤ sizeLine) (hdf : d.params.defaults = []) (hr : Room k callerA)
    (hY : ∀ (w : World) (h : Heap), YP w h → (K w.params).In h)
    (F : ∀ (w : World) (mg : Str → Option Value) (fa : Addr) (h : Heap), (K w.params).In h → h.Ns mainGlobals mg → mg d.name = some (.ref fa) →
      ∃ fd : FuncData, (∀ (s : Shared) (u : Value), BindsTo s fd ⟨[u], []⟩ [(x, u)]) ∧
        ∀ base : Heap, (K w.params).In base → base.Ns mainGlobals mg → FnOk l.prog w (K w.params) mg base (CX w) k fa fd [x] (sp w))
    (hsp : ∀ (w : World) (H : Hp) (a : Addr) (ns : List Int), ns.length ≤ n → Only H → SqL (K w.params) H a (ns.map V.int) → sp w [.ref a] H (fun v _ => v = .bl true) fun _ _ _ => False)
    (hCX : ∀ (w : World) (H : Hp) (s : Shared) (e : Value) (s' : Shared), CX w [] H s (fun _ _ _ => False) e s' → False) :
    PySem.W.WalkO q loose XP YP l.row.toRowW d [] (fun f vs => PySem.call f vs) := by
  refine Att.attach_call hn hdf fun w s₀ s₁ mg mb fa o pm cd doc a vs ns G Y ho hd hcd hmg hobj hints hlen hg => ?_
  have KX := hY w _ Y
  obtain ⟨fd, hb, hF⟩ := F w mg fa _ KX G.T.g hmg
  exact law_call KX G.T.g G.T.b G.T.builtins G.T.nolimit hg hobj hints (Nat.le_trans hlen hn2) hr hF hb (fun H hO hS => hsp w H a ns hlen hO hS) fun H e s' => hCX w H s₁ e s'
end L2



/-! SHORT WORDS over the layer: a def of the text, its body, what a loop and a test want. -/
namespace L2
open PySem PySem.Spec PyProof.Rows

/-! ### the text by places -/
def defArgs (s : Stmt) : Arguments := match s with
  | .FunctionDef _ a _ _ _ _ _ _ _ _ => a
  | _ => { posonlyargs := [], args := [], vararg := none, kwonlyargs := [], kw_defaults := [], kwarg := none, defaults := [] }
def defBody (s : Stmt) : List Stmt := match s with
  | .FunctionDef _ _ b _ _ _ _ _ _ _ => b
  | _ => []
def defScope (s : Stmt) : Scope := match s with
  | .FunctionDef _ _ _ _ _ _ sc _ _ _ => sc
  | _ => { kind := .function, names := [], isGenerator := false, isCoroutine := false }

/-! ### no exception leaves a def -/
/-! ### a def (or method) of the text as it stands behind the top -/
structure Fun (K : PySem.W.Frag) (x qual : Str) (st : Stmt) (f : Addr) (fd : FuncData) : Prop where
  ex : ∃ (oc : Value) (od : Option Addr) (kV doc pm : Value) (an : Option Addr) (cdv ct : Value) (osl : Array (Option Value)),
    fd = PySem.W.fnOf x qual (defArgs st) (defBody st) (defScope st) .none kV doc pm an cdv ct ∧ K.lookup f = some ⟨oc, od, .func fd, osl⟩ ∧ PySem.W.codeIn K cdv qual = true
  kp : PySem.W.keepIn K (.ref f) = true
section
variable {P : Program} {w : World} {K : PySem.W.Frag} {mg : Str → Option Value} {base : Heap}
/-- how its arguments bind (no defaults): h is «fun _ _ _ _ _ _ us hl => match us, hl with | [_, _], _ => rfl», one _ a parameter -/
theorem Fun.binds {x qual : Str} {st : Stmt} {f : Addr} {fd : FuncData} {ps : List Str} (F : Fun K x qual st f fd)
    (h : ∀ (kV doc pm : Value) (an : Option Addr) (cdv ct : Value) (us : List Value), us.length = ps.length → bindArgs (PySem.W.fnOf x qual (defArgs st) (defBody st) (defScope st) .none kV doc pm an cdv ct) ⟨us, []⟩ = pure (ps.zip us)) : Binds K fd ps [] := by
  obtain ⟨oc, od, kV, doc, pm, an, cdv, ct, osl, rfl, lk, hcd⟩ := F.ex
  exact .all (h kV doc pm an cdv ct)
theorem fun_mk {x qual : Str} {st : Stmt} {f : Addr} {oc : Value} {od an : Option Addr} {osl : Array (Option Value)} {kV doc pm cdv ct : Value} (l : K.lookup f = some ⟨oc, od, .func (PySem.W.fnOf x qual (defArgs st) (defBody st) (defScope st) .none kV doc pm an cdv ct), osl⟩)
    (c : PySem.W.codeIn K cdv qual = true) (k : PySem.W.keepIn K (.ref f) = true) : Fun K x qual st f (PySem.W.fnOf x qual (defArgs st) (defBody st) (defScope st) .none kV doc pm an cdv ct) := ⟨⟨oc, od, kV, doc, pm, an, cdv, ct, osl, rfl, l, c⟩, k⟩
end
theorem hu_of {A : Around} {k : Nat} (hr : Room k A) : A.units + 1 < cLine := Nat.lt_of_le_of_lt (Nat.add_le_add_left (by decide : 1 ≤ 64) _) hr.units
theorem small1000 {n : Nat} (h : n ≤ 1000) : n < sizeLine := Nat.lt_of_le_of_lt h (by decide)

/-! ### expressions in short: the name that stands in the i-th slot -/
section
variable {X : Cx}
theorem pv (i : Nat) {x : Str} {pos : Pos} (hN : X.N[i]? = some x := by rfl) (hv : Vis X.env.scope x := by first | exact Or.inl rfl | exact Or.inr (Or.inl rfl) | exact Or.inr (Or.inr rfl)) (hd : (x == ("__debug__" : Str)) = false := by decide)
    (hcd : (x == ("__classdict__" : Str)) = false := by decide) : PE X (.Name x pos) (tVar i) := pe_var hN hv hd hcd
end

/-! ### tests -/
theorem iteF {A B : Prop} (h : B) : if false = true then A else B := by
  rw [if_neg Bool.false_ne_true]
  exact h
theorem iteT {A B : Prop} (h : A) : if true = true then A else B := by
  rw [if_pos rfl]
  exact h
theorem ite2 {c A B : Prop} [Decidable c] (h1 : c → A) (h2 : ¬ c → B) : if c then A else B := by
  by_cases h : c
  · rw [if_pos h]
    exact h1 h
  · rw [if_neg h]
    exact h2 h
theorem iteNS {c A B : Prop} [Decidable c] (hc : c) (h : B) : if (!decide c) = true then A else B := by
  rw [decide_eq_true hc]
  exact iteF h

/-! ### heaps -/
/-- all that was tracked is as it was -/
def Same (H H' : Hp) : Prop := ∀ b o, H b = some o → H' b = some o
theorem Same.refl (H : Hp) : Same H H := fun _ _ h => h
theorem Same.trans {H H1 H2 : Hp} (a : Same H H1) (b : Same H1 H2) : Same H H2 := fun c o h => b c o (a c o h)
theorem Same.free {H H' : Hp} (e : Same H H') {l : Addr} (h : H' l = Option.none) : H l = Option.none := by
  cases q : H l with
  | none => rfl
  | some o =>
    rw [e l o q] at h
    cases h
theorem Same.seq {K : PySem.W.Frag} {H H' : Hp} {a : Addr} {xs : List V} (e : Same H H') (h : SqL K H a xs) : SqL K H' a xs := by
  rcases h with (h | ⟨o, h⟩) | h
  · exact .inl (.inl (e _ _ h))
  · exact .inl (.inr ⟨o, e _ _ h⟩)
  · exact .inr h

end L2

namespace L2
open PySem PySem.Spec PyProof.Rows

/-! ### lists of pairs as tables -/
section
variable {κ : Type} [DecidableEq κ]
def valV (kvs : List (κ × V)) (k : κ) : Option V := (kvs.find? fun kv => decide (kv.1 = k)).map (·.2)
/-- in its place, or at the end -/
def putK (kvs : List (κ × V)) (k : κ) (v : V) : List (κ × V) :=
  if (kvs.any fun kv => decide (kv.1 = k)) = true then kvs.map (fun kv => if kv.1 = k then (kv.1, v) else kv) else kvs ++ [(k, v)]
theorem valV_pos {p : κ × V} {r : List (κ × V)} {k : κ} (e : p.1 = k) : valV (p :: r) k = some p.2 := by simp [valV, List.find?_cons, e]
theorem valV_neg {p : κ × V} {r : List (κ × V)} {k : κ} (e : ¬ p.1 = k) : valV (p :: r) k = valV r k := by simp [valV, List.find?_cons, e]
theorem valV_any (k : κ) : ∀ kvs : List (κ × V), (kvs.any fun kv => decide (kv.1 = k)) = (valV kvs k).isSome
  | [] => rfl
  | p :: r => by
    rw [List.any_cons]
    by_cases e : p.1 = k
    · simp only [valV_pos e, decide_eq_true e, Bool.true_or, Option.isSome_some]
    · rw [valV_neg e, decide_eq_false e, Bool.false_or]; exact valV_any k r
theorem length_putK (kvs : List (κ × V)) (k : κ) (v : V) : (putK kvs k v).length ≤ kvs.length + 1 := by
  unfold putK
  split
  · rw [List.length_map]; omega
  · rw [List.length_append, List.length_cons, List.length_nil]; omega
theorem RelO.isSome_eq {o : Option V} {u : Option Value} (r : RelO o u) : o.isSome = u.isSome := by
  cases o with
  | none => cases u with
    | none => rfl
    | some _ => exact (show False from r).elim
  | some _ => cases u with
    | none => exact (show False from r).elim
    | some _ => rfl
theorem KV.any {kvs : List (κ × V)} {vs : List (κ × Value)} (r : KV kvs vs) (k : κ) : (kvs.any fun kv => decide (kv.1 = k)) = vs.any fun kv => decide (kv.1 = k) := by
  unfold KV at r
  induction r with
  | nil => rfl
  | cons h t ih => rw [List.any_cons, List.any_cons, ih, h.1]
theorem KV.repl {kvs : List (κ × V)} {vs : List (κ × Value)} (r : KV kvs vs) (k : κ) {y : V} {u : Value} (ry : RelV y u) :
    KV (kvs.map fun kv => if kv.1 = k then (kv.1, y) else kv) (vs.map fun kv => if kv.1 = k then (kv.1, u) else kv) := by
  unfold KV at r ⊢
  induction r with
  | nil => exact .nil
  | @cons p q ps qs h t ih =>
    rw [List.map_cons, List.map_cons]
    refine .cons ?_ ih
    obtain ⟨h1, h2⟩ := h
    by_cases e : p.1 = k
    · rw [if_pos e, if_pos (h1.symm.trans e)]; exact ⟨h1, ry⟩
    · rw [if_neg e, if_neg (fun z => e (h1.trans z))]; exact ⟨h1, h2⟩
theorem KV.put {kvs : List (κ × V)} {vs : List (κ × Value)} (r : KV kvs vs) (k : κ) {y : V} {u : Value} (ry : RelV y u) : KV (putK kvs k y) (stored vs k u) := by
  unfold putK stored
  rw [r.any k]
  by_cases e : (vs.any fun kv => decide (kv.1 = k)) = true
  · rw [if_pos e, if_pos e]; exact r.repl k ry
  · rw [if_neg e, if_neg e]; exact Paired.snoc r ⟨rfl, ry⟩
theorem KV.length {kvs : List (κ × V)} {vs : List (κ × Value)} (r : KV kvs vs) : kvs.length = vs.length := Paired.length r
end


/-! ### a tracked dict, its keys ints and texts or tuples of these -/
theorem kV_is {P : Program} {w : World} {k : Key} {u : Value} (r : RelV (kV k) u) : (mixKind P w).is k u = true := by
  cases k with
  | inl i => obtain ⟨t, e⟩ := (show ∃ t, u = Value.int i t from r); subst e; exact mixKind_int P w i t
  | inr x => obtain ⟨t, e⟩ := (show ∃ t, u = Value.str x t from r); subst e; exact mixKind_str P w x t
theorem items_are {P : Program} {w : World} : ∀ {ks : List Key} {us : List Value}, Vals (ks.map kV) us → ItemsAre (mixKind P w) ks us
  | [], _, r => by rw [List.map_nil] at r; cases r; exact .nil
  | k :: ks, _, r => by
    rw [List.map_cons] at r
    cases r with
    | cons h t => exact .cons (kV_is h) (items_are t)

/-- raw entries of a dict with tuple keys -/
abbrev KT (H : Hp) : List (List Key × V) → List (List Key × Addr × Value) → Prop := Paired fun p q => p.1 = q.1 ∧ H q.2.1 = some (.tup (p.1.map kV)) ∧ RelV p.2 q.2.2
theorem KT.val {H : Hp} {kvs : List (List Key × V)} {xs : List (List Key × Addr × Value)} (r : KT H kvs xs) (k : List Key) : RelO (valV kvs k) ((atKey xs k).map (·.2)) := by
  induction r with
  | nil => exact True.intro
  | @cons p q ps qs h t ih =>
    obtain ⟨h1, _, h2⟩ := h
    by_cases e : p.1 = k
    · have e' : q.1 = k := h1.symm.trans e
      have b : atKey (q :: qs) k = some q.2 := by simp [atKey, List.find?_cons, e']
      rw [valV_pos e, b]; exact h2
    · have e' : ¬ q.1 = k := fun z => e (h1.trans z)
      have b : atKey (q :: qs) k = atKey qs k := by simp [atKey, List.find?_cons, e']
      rw [valV_neg e, b]; exact ih
theorem KT.repl {H : Hp} {kvs : List (List Key × V)} {xs : List (List Key × Addr × Value)} (r : KT H kvs xs) (k : List Key) {y : V} {u : Value} (ry : RelV y u) :
    KT H (kvs.map fun kv => if kv.1 = k then (kv.1, y) else kv) (xs.map (putAt k u)) := by
  induction r with
  | nil => exact .nil
  | @cons p q ps qs h t ih =>
    rw [List.map_cons, List.map_cons]
    refine .cons ?_ ih
    obtain ⟨h1, h2, h3⟩ := h
    unfold putAt
    by_cases e : p.1 = k
    · rw [if_pos e, if_pos (h1.symm.trans e)]; exact ⟨h1, h2, ry⟩
    · rw [if_neg e, if_neg (fun z => e (h1.trans z))]; exact ⟨h1, h2, h3⟩
theorem KT.put {H : Hp} {kvs : List (List Key × V)} {xs : List (List Key × Addr × Value)} (r : KT H kvs xs) (k : List Key) {b : Addr} {y : V} {u : Value} (hb : H b = some (.tup (k.map kV))) (ry : RelV y u) :
    KT H (putK kvs k y) (storedH xs k b u) := by
  have e : (kvs.any fun kv => decide (kv.1 = k)) = (atKey xs k).isSome := by
    rw [valV_any, (r.val k).isSome_eq, Option.isSome_map]
  unfold putK storedH
  rw [e]
  by_cases q : (atKey xs k).isSome = true
  · rw [if_pos q, if_pos q]; exact r.repl k ry
  · rw [if_neg q, if_neg q]; exact Paired.snoc r ⟨rfl, hb, ry⟩
theorem KT.keeps {H H' : Hp} {kvs : List (List Key × V)} {xs : List (List Key × Addr × Value)} (r : KT H kvs xs) (ht : ∀ b ys, H b = some (.tup ys) → H' b = some (.tup ys)) : KT H' kvs xs :=
  Paired.mapP r fun _ _ z => ⟨z.1, ht _ _ z.2.1, z.2.2⟩

section
variable {P : Program} {w : World} {H : Hp} {h : Heap} {a : Addr}
theorem rd_of {u : HO} (ok : HOk P w H h) (e : Rd H a u) : ObjOk P w H h a u := e.ok ok
theorem dk_rd {kvs : List (Key × V)} (ok : HOk P w H h) (e : Rd H a (.dK kvs)) : kvs.length ≤ sizeLine ∧ (a == sysModules) = false ∧ ∃ vs, KV kvs vs ∧ h.DictOf (mixKind P w) a vs :=
  show ObjOk P w H h a (.dK kvs) from rd_of ok e
theorem dk_of {kvs : List (Key × V)} (ok : HOk P w H h) (e : H a = some (.dK kvs)) : kvs.length ≤ sizeLine ∧ (a == sysModules) = false ∧ ∃ vs, KV kvs vs ∧ h.DictOf (mixKind P w) a vs := dk_rd ok (.inl e)
/-- a tracked tuple of ints and texts is a key -/
theorem key_of {ks : List Key} (ok : HOk P w H h) (e : H a = some (.tup (ks.map kV))) : (tupleKind (mixKind P w)).is h ks a := by
  obtain ⟨_, its, r, o, h1, h2, n, h3⟩ := (show ObjOk P w H h a (.tup (ks.map kV)) from ok a _ e)
  exact ⟨o, its.toArray, n, h1, h2, h3, by simpa using items_are r⟩
theorem dt_rd {kvs : List (List Key × V)} (ok : HOk P w H h) (e : Rd H a (.dT kvs)) : kvs.length ≤ sizeLine ∧ (a == sysModules) = false ∧
    ∃ xs, KT H kvs xs ∧ h.DictOfH (tupleKind (mixKind P w)) a xs := by
  obtain ⟨z, y, xs, r, o, es, ep, h1, h2, h3, h4, h5⟩ := (show ObjOk P w H h a (.dT kvs) from rd_of ok e)
  refine ⟨z, y, xs, r, o, es, ep, h1, h2, h3, h4, fun x hx => ?_, h5⟩
  have all : ∀ {l : List (List Key × V)} {m : List (List Key × Addr × Value)}, KT H l m → ∀ x ∈ m, (tupleKind (mixKind P w)).is h x.1 x.2.1 := by
    intro l m q
    induction q with
    | nil => intro x hx; exact nomatch hx
    | @cons p q ps qs hq t ih =>
      intro x hx
      rcases List.mem_cons.mp hx with e | hx
      · subst e
        exact key_of ok (by rw [← hq.1]; exact hq.2.1)
      · exact ih x hx
  exact all r x hx
theorem dt_of {kvs : List (List Key × V)} (ok : HOk P w H h) (e : H a = some (.dT kvs)) : kvs.length ≤ sizeLine ∧ (a == sysModules) = false ∧
    ∃ xs, KT H kvs xs ∧ h.DictOfH (tupleKind (mixKind P w)) a xs := dt_rd ok (.inl e)
end

/-- the heap behind a[y] = v -/
def DPut (H : Hp) (a : Addr) (y v : V) (H' : Hp) : Prop :=
  (∃ kvs k, H a = some (.dK kvs) ∧ y = kV k ∧ kvs.length < sizeLine ∧ H' = upd H a (.dK (putK kvs k v))) ∨
  ∃ kvs k b, H a = some (.dT kvs) ∧ y = .ref b ∧ H b = some (.tup (k.map kV)) ∧ kvs.length < sizeLine ∧ H' = upd H a (.dT (putK kvs k v))
theorem DPut.t {H : Hp} {a b : Addr} {kvs : List (List Key × V)} {k : List Key} {v : V} (e : H a = some (.dT kvs)) (eb : H b = some (.tup (k.map kV))) (hl : kvs.length < sizeLine) :
    DPut H a (.ref b) v (upd H a (.dT (putK kvs k v))) := .inr ⟨kvs, k, b, e, rfl, eb, hl, rfl⟩


section
variable {X : Cx} {pins : List (Addr × Obj)} {σ : St} {H : Hp} {s : Shared} {a : Addr} {y v : V} {u r : Value} {o : Option V} {A : Around} {E : Value → Shared → Prop}

theorem Inv.big (I : Inv X pins σ H s) : sysModules < s.heap.objs.size := by
  have h : mainGlobals < s.heap.objs.size := (I.mod.glob.keeps I.bk).lt
  exact Nat.lt_trans (by decide) h

/-- a dict's object is replaced -/
theorem d_write {h' : Heap} {t' : Nat} {ob : HO} (I : Inv X pins σ H s) (mu : Mut (H a)) (hs : Heap.SameBut a s.heap h') (he : ∃ q, h'.get? a = some q) (new : ObjOk X.prog X.w (upd H a ob) h' a ob) :
    Inv X pins σ (upd H a ob) { s with heap := h', toks := t' } :=
  I.write (x := a) (e := a) mu (.inl rfl) (fun b q hb z => (hs.2 b hb).trans z) he new
theorem dk_new {P : Program} {w : World} {H' : Hp} {h' : Heap} {kvs : List (Key × V)} {vs : List (Key × Value)} (z : kvs.length ≤ sizeLine) (hd : (a == sysModules) = false) (rel : KV kvs vs) (dd : h'.DictOf (mixKind P w) a vs) :
    ObjOk P w H' h' a (.dK kvs) := ⟨z, hd, vs, rel, dd⟩
/-- d[y] = v -/
theorem d_setItem {H' : Hp} {Q : Unit → Shared → Prop} (hu : A.units + 1 < cLine) (I : Inv X pins σ H s) (g : DPut H a y v H') (ry : RelV y u) (rv : RelV v r) (h : ∀ s', Inv X pins σ H' s' → Q () s') :
    wpAny (model X.prog X.w) A (setItem (.ref a) u r) Q E s := by
  rcases g with ⟨kvs, k, e, ey, l, eH⟩ | ⟨kvs, k, b, e, ey, eb, l, eH⟩
  · subst ey eH
    obtain ⟨z, hd, vs, rel, dd⟩ := dk_of I.hok e
    have hz : vs.length ≤ sizeLine := by rw [← rel.length]; exact z
    have hl : (putK kvs k v).length ≤ sizeLine := by have := length_putK kvs k v; omega
    refine wpAny_setItem_pairs (hsz := hz) (kV_is ry) dd fun h' dd' hs => h _ ?_
    have he : ∃ q, h'.get? a = some q := let ⟨q, _, _, hq, _⟩ := dd'; ⟨q, hq⟩
    exact d_write I (by rw [e]; exact True.intro) hs he (dk_new hl hd (rel.put k rv) dd')
  · subst ey eH
    cases (show u = Value.ref b from ry)
    obtain ⟨z, hd, xs, rel, dd⟩ := dt_of I.hok e
    have hz : xs.length ≤ sizeLine := by rw [← Paired.length rel]; exact z
    have hl : (putK kvs k v).length ≤ sizeLine := by have := length_putK kvs k v; omega
    refine wpAny_setItem_heap (hsz := hz) (tupleKind_room_in1 hu) (key_of I.hok eb) dd fun h' dd' hs => h _ ?_
    obtain ⟨q, es, ep, hq, h2, h3, h4, _, h5⟩ := dd'
    refine d_write I (by rw [e]; exact True.intro) hs ⟨q, hq⟩ ⟨hl, hd, _, (rel.put k eb rv).keeps fun c ys ec => ?_, q, es, ep, hq, h2, h3, h4, h5⟩
    rw [upd_ne (ne_of ec e (fun z => nomatch z))]
    exact ec
end

section
variable {X : Cx} {pins : List (Addr × Obj)} {σ : St} {H : Hp} {s : Shared} {a : Addr} {kvs : List (Key × V)} {k : Key} {u : Value} {A : Around} {E : Value → Shared → Prop}
end


/-! ### readings and rules -/
/-- d[y] = v -/
def sDPut (td ty tv : TE) : TS := fun D σ H => tv σ H fun v H1 => td σ H1 fun x H2 => ty σ H2 fun y H3 => ∃ a H4, x = .ref a ∧ DPut H3 a y v H4 ∧ D.nx σ H4
section
variable {X : Cx} {o i e value : Expr} {pos pos' tpos : Pos} {td ty tv : TE}
theorem ps_dput (hu : X.A.units + 1 < cLine) (ho : PE X o td) (hi : PE X i ty) (hv : PE X value tv) (hs : swapsWith value (some (.Subscript o i pos')) pos.line X.env = pure false) :
    PS X (.Assign [.Subscript o i pos'] value pos) (sDPut td ty tv) := by
  intro pins s σ H D I h
  refine wpAny_Assign_Subscript (thn (hv pins s σ H _ I h) fun r s1 ⟨v, H1, I1, rv, q1⟩ => thn (ho pins s1 σ H1 _ I1 q1) fun u s2 ⟨x, H2, I2, rx, q2⟩ => thn (hi pins s2 σ H2 _ I2 q2) fun iv s3 ⟨y, H3, I3, ry, a, H4, ex, g, q3⟩ => ?_) hs
  subst ex
  obtain rfl : u = Value.ref a := rx
  exact d_setItem hu I3 g ry rv fun s4 I4 => ⟨σ, H4, I4, q3⟩
end


/-! ### displays -/
theorem dt_empty {P : Program} {w : World} {H : Hp} (h : Heap) (hb : sysModules < h.objs.size) : ObjOk P w H (h.push { cls := .type "dict", data := .dict #[] }) h.objs.size (.dT []) :=
  ⟨Nat.zero_le _, beq_eq_false_iff_ne.mpr (Ne.symm (Nat.ne_of_lt hb)), [], .nil, _, #[], 0, Heap.get?_push_size _ rfl, ⟨rfl, rfl, rfl⟩, rfl, rfl, List.nodup_nil⟩
def tDNewT : TE := fun _ H Q => ∀ p, H p = none → Q (.ref p) (upd H p (.dT []))
section
variable {X : Cx} {pos : Pos}
theorem pe_dnewT : PE X (.Dict [] [] pos) tDNewT := fun pins s σ H Q I h =>
  wpAny_Dict_empty ⟨.ref s.heap.objs.size, _, I.laid (a := s.heap.objs.size) (o := .dT []) (t' := s.toks) (fun _ _ q => Heap.get?_push_of_some _ q) (Nat.le_refl _) (dt_empty s.heap I.big), rfl, h _ (I.hok.fresh (Nat.le_refl _))⟩
end

/-! ### methods -/
/-- a method call o.m(e) of a built-in, with one argument: what must be seen of the text -/
structure M1 (X : Cx) (o : Expr) (m : Str) (apos : Pos) (e : Expr) (cpos : Pos) : Prop where
  base : attributeBase o m X.env (eval o X.env) = eval o X.env
  few : ((backTo cpos (starEach [e] X.env)).all (fun x => !x.1) && (backToKw cpos (keywordEach [] X.env)).all (fun x => x.1.isSome)
    && decide (([e] : List Expr).length + ([] : List Keyword).length + (if ([] : List Keyword).isEmpty then 0 else 1) < 30)) = true
  line : (apos.endLine == cpos.line) = true
  trees : backTo cpos (starEach [e] X.env) = [(false, eval e X.env)]
structure M2 (X : Cx) (o : Expr) (m : Str) (apos : Pos) (e f : Expr) (cpos : Pos) : Prop where
  base : attributeBase o m X.env (eval o X.env) = eval o X.env
  few : ((backTo cpos (starEach [e, f] X.env)).all (fun x => !x.1) && (backToKw cpos (keywordEach [] X.env)).all (fun x => x.1.isSome)
    && decide (([e, f] : List Expr).length + ([] : List Keyword).length + (if ([] : List Keyword).isEmpty then 0 else 1) < 30)) = true
  line : (apos.endLine == cpos.line) = true
  trees : backTo cpos (starEach [e, f] X.env) = [(false, eval e X.env), (false, eval f X.env)]

section
variable {X : Cx} {pins : List (Addr × Obj)} {σ : St} {H : Hp} {s : Shared} {a : Addr} {y d : V} {u r : Value} {o : Option V} {A : Around} {E : Value → Shared → Prop}
end

section
variable {X : Cx} {o e f : Expr} {apos cpos : Pos} {td ty tx : TE}
end

/-! ### dict(d): a copy -/
section
variable {X : Cx} {pins : List (Addr × Obj)} {σ : St} {H : Hp} {s : Shared} {a : Addr} {kvs : List (Key × V)} {A : Around} {E : Value → Shared → Prop}
end


section
variable {X : Cx} {pins : List (Addr × Obj)} {σ : St} {H : Hp} {s : Shared} {a : Addr} {y : V} {u : Value} {A : Around} {E : Value → Shared → Prop}
end
end L2


namespace L2
open PySem PySem.Spec PyProof.Rows
section
variable {X : Cx}
end
/-! ### a dict's pairs: keys that differ -/
section
variable {κ : Type} [DecidableEq κ]
end
end L2

namespace L3
open PySem PySem.Spec PyProof.Rows L2

/-! ### deep data at a value -/
mutual
def Den (K : PySem.W.Frag) (H : Hp) : PyData → V → Prop
  | .none, v => v = .non
  | .bool b, v => v = .bl b
  | .int i, v => v = .int i
  | .str x, v => v = .str x
  | .tuple ds, v => ∃ a xs, v = .ref a ∧ SqT K H a xs ∧ Dens K H ds xs
  | .list ds, v => ∃ a xs, v = .ref a ∧ SqL K H a xs ∧ Dens K H ds xs
  | .dict _, _ => False
def Dens (K : PySem.W.Frag) (H : Hp) : List PyData → List V → Prop
  | [], xs => xs = []
  | d :: ds, xs => ∃ x r, xs = x :: r ∧ Den K H d x ∧ Dens K H ds r
end

section
variable {K : PySem.W.Frag} {H H' : Hp} {a : Addr} {xs : List V}
theorem same_seqT (e : Same H H') (h : SqT K H a xs) : SqT K H' a xs := by
  rcases h with (h | ⟨o, h⟩) | h
  · exact .inl (.inl (e _ _ h))
  · exact .inl (.inr ⟨o, e _ _ h⟩)
  · exact .inr h
theorem same_new {p : Addr} (h : H p = none) (o : HO) : Same H (upd H p o) := fun b u q => by rw [upd_ne (ne_of_none q h)]; exact q
/-- what a write at a list leaves -/
theorem upd_seqT {p : Addr} {ys : List V} {o : HO} (hp : H p = some (.lst ys)) (h : SqT K H a xs) : SqT K (upd H p o) a xs := by
  rcases h with (h | ⟨u, h⟩) | h
  · exact .inl (.inl (by rw [upd_ne (ne_of h hp (by intro z; cases z))]; exact h))
  · exact .inl (.inr ⟨u, by rw [upd_ne (ne_of h hp (by intro z; cases z))]; exact h⟩)
  · exact .inr h
end

mutual
/-- no list inside -/
def nol : PyData → Bool
  | .list _ => false
  | .tuple ds => nols ds
  | .dict _ => false
  | _ => true
def nols : List PyData → Bool
  | [] => true
  | d :: ds => nol d && nols ds
end

mutual
theorem Den.same {K : PySem.W.Frag} {H H' : Hp} (e : Same H H') : ∀ (d : PyData) (v : V), Den K H d v → Den K H' d v
  | .none, v, h => by simpa only [Den] using h
  | .bool b, v, h => by simpa only [Den] using h
  | .int i, v, h => by simpa only [Den] using h
  | .str x, v, h => by simpa only [Den] using h
  | .tuple ds, v, h => by
    simp only [Den] at h ⊢
    obtain ⟨a, xs, e1, e2, e3⟩ := h
    exact ⟨a, xs, e1, same_seqT e e2, Dens.same e ds xs e3⟩
  | .list ds, v, h => by
    simp only [Den] at h ⊢
    obtain ⟨a, xs, e1, e2, e3⟩ := h
    exact ⟨a, xs, e1, e.seq e2, Dens.same e ds xs e3⟩
  | .dict _, v, h => by simp only [Den] at h
theorem Dens.same {K : PySem.W.Frag} {H H' : Hp} (e : Same H H') : ∀ (ds : List PyData) (xs : List V), Dens K H ds xs → Dens K H' ds xs
  | [], xs, h => by simpa only [Dens] using h
  | d :: ds, xs, h => by
    simp only [Dens] at h ⊢
    obtain ⟨x, r, e1, e2, e3⟩ := h
    exact ⟨x, r, e1, Den.same e d x e2, Dens.same e ds r e3⟩
end
mutual
theorem Den.upd {K : PySem.W.Frag} {H : Hp} {p : Addr} {ys : List V} {o : HO} (hp : H p = some (.lst ys)) : ∀ (d : PyData) (v : V), nol d = true → Den K H d v → Den K (upd H p o) d v
  | .none, v, _, h => by simpa only [Den] using h
  | .bool b, v, _, h => by simpa only [Den] using h
  | .int i, v, _, h => by simpa only [Den] using h
  | .str x, v, _, h => by simpa only [Den] using h
  | .tuple ds, v, n, h => by
    simp only [Den] at h ⊢
    simp only [nol] at n
    obtain ⟨a, xs, e1, e2, e3⟩ := h
    exact ⟨a, xs, e1, upd_seqT hp e2, Dens.upd hp ds xs n e3⟩
  | .list ds, v, n, h => by simp only [nol] at n; cases n
  | .dict _, v, n, h => by simp only [nol] at n; cases n
theorem Dens.upd {K : PySem.W.Frag} {H : Hp} {p : Addr} {ys : List V} {o : HO} (hp : H p = some (.lst ys)) : ∀ (ds : List PyData) (xs : List V), nols ds = true → Dens K H ds xs → Dens K (upd H p o) ds xs
  | [], xs, _, h => by simpa only [Dens] using h
  | d :: ds, xs, n, h => by
    simp only [nols, Bool.and_eq_true] at n
    simp only [Dens] at h ⊢
    obtain ⟨x, r, e1, e2, e3⟩ := h
    exact ⟨x, r, e1, Den.upd hp d x n.1 e2, Dens.upd hp ds r n.2 e3⟩
end
section
variable {K : PySem.W.Frag} {H : Hp}
theorem Dens.nil : Dens K H [] [] := by simp only [Dens]
theorem Dens.cons {d : PyData} {ds : List PyData} {x : V} {r : List V} (h : Den K H d x) (t : Dens K H ds r) : Dens K H (d :: ds) (x :: r) := by
  simp only [Dens]; exact ⟨x, r, rfl, h, t⟩
theorem Dens.length : ∀ {ds : List PyData} {xs : List V}, Dens K H ds xs → xs.length = ds.length
  | [], xs, h => by simp only [Dens] at h; subst h; rfl
  | d :: ds, xs, h => by
    simp only [Dens] at h
    obtain ⟨x, r, rfl, _, t⟩ := h
    simp only [List.length_cons, Dens.length t]
theorem Dens.append : ∀ {ds es : List PyData} {xs ys : List V}, Dens K H ds xs → Dens K H es ys → Dens K H (ds ++ es) (xs ++ ys)
  | [], es, xs, ys, h, k => by simp only [Dens] at h; subst h; exact k
  | d :: ds, es, xs, ys, h, k => by
    simp only [Dens] at h
    obtain ⟨x, r, rfl, e, t⟩ := h
    exact Dens.cons e (Dens.append t k)
theorem Dens.at : ∀ {ds : List PyData} {xs : List V} {i : Nat} {d : PyData}, Dens K H ds xs → ds[i]? = some d → ∃ x, xs[i]? = some x ∧ Den K H d x
  | [], xs, i, d, h, e => by simp at e
  | d' :: ds, xs, i, d, h, e => by
    simp only [Dens] at h
    obtain ⟨y, r, rfl, f, t⟩ := h
    cases i with
    | zero => simp at e; subst e; exact ⟨y, rfl, f⟩
    | succ i =>
      obtain ⟨x, e1, e2⟩ := Dens.at (i := i) t (by simpa using e)
      exact ⟨x, by simpa using e1, e2⟩
theorem den_int {i : Int} : Den K H (.int i) (.int i) := by simp only [Den]
theorem den_non : Den K H .none .non := by simp only [Den]
theorem den_tup {a : Addr} {xs : List V} {ds : List PyData} (h : SqT K H a xs) (t : Dens K H ds xs) : Den K H (.tuple ds) (.ref a) := by simp only [Den]; exact ⟨a, xs, rfl, h, t⟩
theorem den_lst {a : Addr} {xs : List V} {ds : List PyData} (h : SqL K H a xs) (t : Dens K H ds xs) : Den K H (.list ds) (.ref a) := by simp only [Den]; exact ⟨a, xs, rfl, h, t⟩
theorem Den.tup_of {v : V} {ds : List PyData} (h : Den K H (.tuple ds) v) : ∃ a xs, v = .ref a ∧ SqT K H a xs ∧ Dens K H ds xs := by simpa only [Den] using h
theorem Den.lst_of {v : V} {ds : List PyData} (h : Den K H (.list ds) v) : ∃ a xs, v = .ref a ∧ SqL K H a xs ∧ Dens K H ds xs := by simpa only [Den] using h
theorem Den.int_of {v : V} {i : Int} (h : Den K H (.int i) v) : v = .int i := by simpa only [Den] using h
theorem Den.bl_of {v : V} {i : Bool} (h : Den K H (.bool i) v) : v = .bl i := by simpa only [Den] using h
theorem Den.str_of {v : V} {i : Str} (h : Den K H (.str i) v) : v = .str i := by simpa only [Den] using h
theorem Den.non_of {v : V} (h : Den K H .none v) : v = .non := by simpa only [Den] using h
theorem Dens.two {d e : PyData} {xs : List V} (h : Dens K H [d, e] xs) : ∃ x y, xs = [x, y] ∧ Den K H d x ∧ Den K H e y := by
  simp only [Dens] at h
  obtain ⟨x, r, rfl, h1, y, r', rfl, h2, rfl⟩ := h
  exact ⟨x, y, rfl, h1, h2⟩
theorem Dens.three {d e f : PyData} {xs : List V} (h : Dens K H [d, e, f] xs) : ∃ x y z, xs = [x, y, z] ∧ Den K H d x ∧ Den K H e y ∧ Den K H f z := by
  simp only [Dens] at h
  obtain ⟨x, r, rfl, h1, y, r', rfl, h2, z, r'', rfl, h3, rfl⟩ := h
  exact ⟨x, y, z, rfl, h1, h2, h3⟩
end

/-! ### the heap holds it -/
mutual
theorem Den.reads {X : Cx} {pins : List (Addr × Obj)} {σ : L2.St} {H : Hp} {s : Shared} (I : Inv X pins σ H s) : ∀ (d : PyData) (v : V) (u : Value), Den X.K H d v → RelV v u → ∃ as, Reads s.heap u d as
  | .none, v, u, h, r => by simp only [Den] at h; subst h; cases r; exact ⟨_, .none⟩
  | .bool b, v, u, h, r => by simp only [Den] at h; subst h; cases r; exact ⟨_, .bool b⟩
  | .int i, v, u, h, r => by simp only [Den] at h; subst h; obtain ⟨t, rfl⟩ := r; exact ⟨_, .int i t⟩
  | .str x, v, u, h, r => by simp only [Den] at h; subst h; obtain ⟨t, rfl⟩ := r; exact ⟨_, .str x t⟩
  | .tuple ds, v, u, h, r => by
    simp only [Den] at h
    obtain ⟨a, xs, rfl, h1, h2⟩ := h
    cases r
    obtain ⟨its, rv, ⟨o, e1, e2, n, e3⟩, _⟩ := I.tuple h1
    obtain ⟨as, q⟩ := Dens.reads I ds xs its h2 rv
    exact ⟨_, .tuple e1 e2 e3 q⟩
  | .list ds, v, u, h, r => by
    simp only [Den] at h
    obtain ⟨a, xs, rfl, h1, h2⟩ := h
    cases r
    obtain ⟨its, rv, p, _⟩ := I.list h1
    obtain ⟨o, e1, e2, n, e3⟩ := p.isList
    obtain ⟨as, q⟩ := Dens.reads I ds xs its h2 rv
    exact ⟨_, .list e1 e2 e3 q⟩
  | .dict _, v, u, h, r => by simp only [Den] at h
theorem Dens.reads {X : Cx} {pins : List (Addr × Obj)} {σ : L2.St} {H : Hp} {s : Shared} (I : Inv X pins σ H s) : ∀ (ds : List PyData) (xs : List V) (us : List Value), Dens X.K H ds xs → Vals xs us → ∃ as, ReadsAll s.heap us ds as
  | [], xs, us, h, r => by simp only [Dens] at h; subst h; cases r; exact ⟨_, .nil⟩
  | d :: ds, xs, us, h, r => by
    simp only [Dens] at h
    obtain ⟨x, r', rfl, h1, h2⟩ := h
    cases r with
    | cons q t =>
      obtain ⟨as, e1⟩ := Den.reads I d x _ h1 q
      obtain ⟨bs, e2⟩ := Dens.reads I ds r' _ h2 t
      exact ⟨_, .cons e1 e2⟩
end

/-! ### == and != of deep data -/
def shp (d : PyData) : Bool := d.canLay0 && decide (d.depth ≤ 32)
def rEqD (K : PySem.W.Frag) (neg : Bool) : R2 := fun x y H Q => ∃ d e, Den K H d x ∧ Den K H e y ∧ shp d = true ∧ shp e = true ∧ Q (.bl (if neg then !PyData.eqv d e else PyData.eqv d e)) H
section
variable {X : Cx}
theorem shp_can {d : PyData} (h : shp d = true) : d.canLay0 = true := (Bool.and_eq_true_iff.mp h).1
theorem shp_dep {d : PyData} (h : shp d = true) : d.depth ≤ 32 := of_decide_eq_true (Bool.and_eq_true_iff.mp h).2
theorem op_eqD (hu : X.A.units + 40 < cLine) : OpR X (compareOp .Eq) (rEqD X.K false) := by
  intro pins s σ H x y v u Q I rx ry h
  obtain ⟨d, e, h1, h2, s1, s2, q⟩ := h
  obtain ⟨as, r1⟩ := Den.reads I d x v h1 rx
  obtain ⟨bs, r2⟩ := Den.reads I e y u h2 ry
  exact SeqAt.rcAt_reads r1 r2 (shp_can s1) (shp_can s2) (by have := shp_dep s1; omega) X.prog X.w X.xe _ ⟨.bl _, H, I, rfl, q⟩
theorem op_neD (hu : X.A.units + 40 < cLine) : OpR X (compareOp .NotEq) (rEqD X.K true) := by
  intro pins s σ H x y v u Q I rx ry h
  obtain ⟨d, e, h1, h2, s1, s2, q⟩ := h
  obtain ⟨as, r1⟩ := Den.reads I d x v h1 rx
  obtain ⟨bs, r2⟩ := Den.reads I e y u h2 ry
  exact SeqAt.rcNeAt_reads r1 r2 (shp_can s1) (shp_can s2) (by have := shp_dep s1; omega) X.prog X.w X.xe _ ⟨.bl _, H, I, rfl, q⟩

/-! ### in, not in -/
theorem in1_units {A : Around} : A.in1.units = A.units + 1 := rfl
/-- what an item answers, told by the heap -/
theorem mem_D {pins : List (Addr × Obj)} {σ : L2.St} {H : Hp} {s : Shared} {x : V} {v : Value} {d : PyData} (I : Inv X pins σ H s) (rx : RelV x v) (hd : Den X.K H d x) (sd : shp d = true) (hu : X.A.units + 40 < cLine) :
    ∀ {es : List PyData} {xs : List V} {us : List Value}, Dens X.K H es xs → Vals xs us → (∀ e ∈ es, shp e = true) →
      ∃ f : Value → Bool, (∀ u ∈ us, SeqAt.EqAt X.A.in1 s u v (f u)) ∧ us.any f = es.any fun e => PyData.eqv e d := by
  classical
  intro es xs us h r hs
  obtain ⟨as, rd⟩ := Den.reads I d x v hd rx
  refine ⟨fun u => decide (∃ e as, e ∈ es ∧ Reads s.heap u e as ∧ PyData.eqv e d = true), ?_, ?_⟩
  · intro u hu'
    -- u reads some e
    have : ∀ {es' : List PyData} {xs' : List V} {us' : List Value}, Dens X.K H es' xs' → Vals xs' us' → u ∈ us' → ∃ e ∈ es', ∃ as, Reads s.heap u e as := by
      intro es'
      induction es' with
      | nil => intro xs' us' h r m; simp only [Dens] at h; subst h; cases r; cases m
      | cons e es' ih =>
        intro xs' us' h r m
        simp only [Dens] at h
        obtain ⟨y, t, rfl, h1, h2⟩ := h
        cases r with
        | cons q t' =>
          rcases List.mem_cons.mp m with rfl | m
          · obtain ⟨as, z⟩ := Den.reads I e y _ h1 q
            exact ⟨e, List.mem_cons_self, as, z⟩
          · obtain ⟨e', m', z⟩ := ih h2 t' m
            exact ⟨e', List.mem_cons_of_mem _ m', z⟩
    obtain ⟨e, me, as', re⟩ := this h r hu'
    have q := SeqAt.eqAt_reads e d X.A.in1 s u v as' as re rd (shp_can (hs e me)) (shp_can sd) (by have := shp_dep sd; rw [in1_units]; omega)
    have ee : decide (∃ e as, e ∈ es ∧ Reads s.heap u e as ∧ PyData.eqv e d = true) = PyData.eqv e d := by
      cases z : PyData.eqv e d with
      | true => exact decide_eq_true ⟨e, as', me, re, z⟩
      | false =>
        refine decide_eq_false ?_
        rintro ⟨e', as'', me', re', z'⟩
        have := SeqAt.Reads.unique e e' u _ _ (shp_can (hs e me)) re re'
        subst this
        rw [z] at z'; cases z'
    show SeqAt.EqAt X.A.in1 s u v (decide (∃ e as, e ∈ es ∧ Reads s.heap u e as ∧ PyData.eqv e d = true))
    rw [ee]; exact q
  · apply Bool.eq_iff_iff.mpr
    rw [List.any_eq_true, List.any_eq_true]
    constructor
    · rintro ⟨u, mu, z⟩
      obtain ⟨e, as', me, _, z⟩ := of_decide_eq_true z
      exact ⟨e, me, z⟩
    · rintro ⟨e, me, z⟩
      obtain ⟨i, hi, rfl⟩ := List.getElem_of_mem me
      obtain ⟨y, ey, dy⟩ := Dens.at (i := i) h (List.getElem?_eq_getElem hi)
      obtain ⟨u, eu, ru⟩ := r.get ey
      obtain ⟨as', re⟩ := Den.reads I _ y u dy ru
      exact ⟨u, List.mem_of_getElem? eu, decide_eq_true ⟨_, as', me, re, z⟩⟩
def rInD (K : PySem.W.Frag) (neg : Bool) : R2 := fun x y H Q => ∃ d es p xs, y = .ref p ∧ (SqL K H p xs ∨ SqT K H p xs) ∧ Dens K H es xs ∧ Den K H d x ∧ shp d = true ∧ (∀ e ∈ es, shp e = true) ∧
  Q (.bl (if neg then !(es.any fun e => PyData.eqv e d) else es.any fun e => PyData.eqv e d)) H
theorem op_notinD (hu : X.A.units + 40 < cLine) : OpR X (compareOp .NotIn) (rInD X.K true) := by
  intro pins s σ H x y v u Q I rx ry h
  obtain ⟨d, es, p, xs, rfl, hq, hx, hd, sd, se, q⟩ := h
  cases ry
  rcases hq with hq | hq
  · obtain ⟨its, r, pl, hz⟩ := I.list hq
    obtain ⟨f, h1, h2⟩ := mem_D I rx hd sd hu hx r se
    refine SeqAt.notIn_listAt f pl.isList (fun w hw => h1 w (by simpa using hw)) ⟨.bl _, H, I, rfl, ?_⟩
    rw [show its.toArray.any f = its.any f by simp, h2]
    exact q
  · obtain ⟨its, r, pl, hz⟩ := I.tuple hq
    obtain ⟨f, h1, h2⟩ := mem_D I rx hd sd hu hx r se
    refine SeqAt.notIn_tupleAt f pl (fun w hw => h1 w (by simpa using hw)) ⟨.bl _, H, I, rfl, ?_⟩
    rw [show its.toArray.any f = its.any f by simp, h2]
    exact q

/-! ### isinstance -/
theorem relv_ty {n : String} : ∀ u, RelV (.ty n) u → u = .type n := fun _ r => r
/-! ### // by a positive divisor of up to 2 ^ 200 -/
def CDivB (i j : Int) : Prop := 0 < j ∧ j < 2 ^ 200
theorem log_lt {j : Int} (h : 0 < j) (h2 : j < 2 ^ 200) : j.natAbs.log2 < 9000 := by
  have e : j.natAbs < 2 ^ 200 := by
    have : ((2 : Int) ^ 200) = ((2 ^ 200 : Nat) : Int) := by norm_cast
    omega
  have := (Nat.log2_lt (show j.natAbs ≠ 0 by omega)).mpr e
  omega
theorem op_fdivB : OpR X (binaryOp .FloorDiv) (rI CDivB fun i j => .int (i / j)) := opI fun i j _ _ _ _ _ hc q => by
  have h1 : (0 : Int) < j := hc.1
  exact floordiv_int (by omega) (by rw [Int.fdiv_eq_ediv_of_nonneg i (by omega)]; exact q) (.inl (PyProof.noPylong_of_log2 (log_lt hc.1 hc.2)))
/-- // by any divisor but nought, of less than 2 ^ 200 -/
def CDivZ (i j : Int) : Prop := j ≠ 0 ∧ j.natAbs < 2 ^ 200
theorem op_fdivZ : OpR X (binaryOp .FloorDiv) (rI CDivZ fun i j => .int (i.fdiv j)) := opI fun i j _ _ _ _ _ hc q => by
  refine floordiv_int hc.1 q (.inl (PyProof.noPylong_of_log2 ?_))
  have := (Nat.log2_lt (show j.natAbs ≠ 0 by have := hc.1; omega)).mpr hc.2
  omega
end
end L3

namespace L3
open PySem PySem.Spec PyProof.Rows PySem.Calls L2

/-! ### isinstance of an exception: its object by its class alone -/
section
variable {prog : Program} {w : World} {A : Around} {E : Value → Shared → Prop} {s : Shared} {K : PySem.W.Frag} {x C : Addr}
end
end L3

namespace L3
open PySem PySem.Spec PyProof.Rows PySem.Calls L2

abbrev bmV : List Value := [.type "ValueError", .type "Exception", .type "BaseException", .type "object"]
/-- an own error class of the text, under ValueError -/
structure ExcC (K : PySem.W.Frag) (mg : Str → Option Value) (x : Str) (C : Addr) : Prop where
  nm : mg x = some (.ref C)
  ex : PySem.W.excIn K C bmV "ValueError.__new__" = true
theorem ExcC.own {K : PySem.W.Frag} {mg : Str → Option Value} {x : Str} {C : Addr} {h : Heap} (Z : ExcC K mg x C) (X : K.In h) : OwnCls x C bmV "ValueError.__new__" mg h := by
  constructor
  · exact Z.nm
  have z := Z.ex
  unfold PySem.W.excIn at z
  split at z
  case h_2 => cases z
  rename_i dc cd sl ho
  split at z
  case h_2 => cases z
  rename_i C1 tl k0 k1 k2 k3 nid k5 e1 e2
  simp only [Bool.and_eq_true, beq_iff_eq, Bool.not_eq_true'] at z
  obtain ⟨⟨⟨⟨⟨z1, z2⟩, z3⟩, z4⟩, z5⟩, z6⟩ := z
  subst z1 z2
  obtain ⟨c1, c2, c3, c4, c5, c6, c7, c8, c9, c10, c11⟩ := cd
  dsimp only at e1 z3 z5 z6
  subst e1 z3
  have e3 : sl = #[k0, k1, k2, k3, some (.builtin "ValueError.__new__"), k5] := by
    cases sl with
    | mk l => simp only at e2; rw [e2]
  subst e3
  exact ⟨tl, c4, c1, c5, c2, c6, c7, c8, c9, c10, dc, k0, k1, k2, k3, k5, _, X _ _ ho, .of_isNs (PySem.W.isNs_of_in X z5), PySem.W.nsMap_none_of_in X z5 z6, PySem.W.tail_of_in X z4⟩

/-! ### how an exception lies behind a call -/
def CXE (P : Program) (w : World) : CXT := fun outer H s E e s' =>
  ∃ (ea : Addr) (cls a0 : Value) (H' : Hp) (B : Heap), e = .ref ea ∧ E cls none H' ∧ s'.os = s.os ∧ AllBare s'.gens ∧ Heap.FlyingW B outer ea cls a0 s'.heap ∧ HOk P w H' B ∧
    Un (frs outer) [] H H' s.heap s'.heap ∧ ∀ b o, s.heap.get? b = some o → b ∉ frs outer → ∃ o', B.get? b = some o' ∧ (H b = none → o' = o)

theorem passF {P : Program} {w : World} {X : Cx} : Passes (CXE P w) X (fun _ _ _ => False) := fun _ _ _ _ _ _ _ h => by
  obtain ⟨_, _, _, _, _, _, f, _⟩ := h
  exact f.elim

section
variable {P : Program} {w : World} {K : PySem.W.Frag} {mg : Str → Option Value} {base : Heap} {N : List Str} {qual : Str} {scope : Scope} {f : Addr} {cd : Value} {A : Around} {outer : List Env} {s0 s : Shared} {H0 H : Hp} {E : XK}
  {pins : List (Addr × Obj)} {σ : L2.St}

theorem frs_cons {env : Env} {L : Addr} (h : env.frame = some L) : frs (env :: outer) = L :: frs outer := by
  unfold frs; rw [List.filterMap_cons, h]
/-- an exception just made leaves the def -/
theorem raise_xe {C e : Addr} {h' : Heap} {args : List Value} (I : Inv (cxOf (CXE P w) P w K mg base N qual scope f cd A outer s0 H0 E) pins σ H s) (hx : Heap.MadeExcOf s.heap h' e (.ref C) args) (hE : E (.ref C) none H) :
    (cxOf (CXE P w) P w K mg base N qual scope f cd A outer s0 H0 E).xe (.ref e) { s with heap := h' } := by
  have efr : frs (envOfC qual scope s0.heap.objs.size f cd :: outer) = s0.heap.objs.size :: frs outer := frs_cons rfl
  have hb : ∀ b o, s.heap.get? b = some o → b ∉ s0.heap.objs.size :: frs outer → (PySem.W.hideAll s.heap (s0.heap.objs.size :: frs outer)).get? b = some o := fun b o e n => PySem.W.hideAll_get _ e n
  have nfr : ∀ b u, H b = some u → b ∉ s0.heap.objs.size :: frs outer := fun b u e m => by
    have := I.stkFree b (by show b ∈ frs (envOfC qual scope s0.heap.objs.size f cd :: outer); rw [efr]; exact m)
    rw [e] at this; cases this
  have old : ∀ b o, s0.heap.get? b = some o → b ∉ frs outer → b ∉ s0.heap.objs.size :: frs outer := fun b o e n m => by
    rcases List.mem_cons.mp m with z | z
    · exact absurd (Heap.lt_size e) (by rw [z]; exact Nat.lt_irrefl _)
    · exact n z
  have hst : s.heap.FunFrames base (envOfC qual scope s0.heap.objs.size f cd :: outer) := I.stack
  refine wpAny_leaves_madeW (base := PySem.W.hideAll s.heap (s0.heap.objs.size :: frs outer)) (h := s.heap) (outer := outer) (L := s0.heap.objs.size) I.ok.frames rfl (fun b o q => PySem.W.of_hideAll _ q)
    (PySem.W.funFrames_hide hst fun env he b hb => ?_) hx fun h2 t x1 _ _ x4 => ?_
  · rw [← efr]; exact List.mem_filterMap.mpr ⟨env, he, hb⟩
  have up : s.heap.UpToSlots h2 := (Heap.UpToSlots.of_keeps hx.keeps).trans x4
  have I0 := I.base
  refine ⟨e, .ref C, .ref t, H, _, rfl, hE, I.os, I.bare, x1, fun b u q => (I.hok b u q).stay (fun c v hc z => hb c v z ?_) (fun _ z => z) fun _ _ z => z, ⟨fun b o q n hf _ => ?_, fun b o q n hf _ => ?_, fun b o q n hx => I0.free b o q n hx, fun b o q _ => ?_, I0.tups, I0.frzs, I0.tbls⟩, fun b o q hf => ?_⟩
  · rcases hc with rfl | hc
    · exact nfr c u q
    · exact nfr c _ hc
  · exact x1.1 b o (hb b o (I0.keep b o q n hf (by simp [cxOf])) (old b o q hf))
  · obtain ⟨sl, e1⟩ := I0.slot b o q n hf (by simp [cxOf])
    obtain ⟨_, o2, e2, nd⟩ := hst.mem (b := b) (by show b ∈ frs _; rw [efr]; exact List.mem_cons_of_mem _ hf)
    rw [e1] at e2; cases e2
    obtain ⟨sl2, e3⟩ := up b _ e1 nd
    exact ⟨sl2, e3⟩
  · obtain ⟨o1, e1⟩ := I0.there b o q (by simp [cxOf])
    by_cases hf : b ∈ frs outer
    · obtain ⟨_, o2, e2, nd⟩ := hst.mem (b := b) (by show b ∈ frs _; rw [efr]; exact List.mem_cons_of_mem _ hf)
      obtain ⟨sl2, e3⟩ := up b _ e2 nd
      exact ⟨_, e3⟩
    · exact ⟨o1, x1.1 b o1 (hb b o1 e1 (old b o q hf))⟩
  · obtain ⟨o1, e1⟩ := I0.there b o q (by simp [cxOf])
    refine ⟨o1, hb b o1 e1 (old b o q hf), fun n => ?_⟩
    have e2 := I0.keep b o q n hf (by simp [cxOf])
    have e3 : s.heap.get? b = some o := e2
    rw [e1] at e3; cases e3; rfl

/-- an exception of a callee leaves the def -/
theorem pass_xe {e : Value} {s' : Shared} (I : Inv (cxOf (CXE P w) P w K mg base N qual scope f cd A outer s0 H0 E) pins σ H s) (h : CXE P w (envOfC qual scope s0.heap.objs.size f cd :: outer) H s E e s') :
    (cxOf (CXE P w) P w K mg base N qual scope f cd A outer s0 H0 E).xe e s' := by
  obtain ⟨ea, cls, a0, H', B, rfl, hE, os, bare, fl, hok, un, st⟩ := h
  have efr : frs (envOfC qual scope s0.heap.objs.size f cd :: outer) = s0.heap.objs.size :: frs outer := frs_cons rfl
  rw [efr] at un st
  have I0 := I.base
  have old : ∀ b o, s0.heap.get? b = some o → b ∉ frs outer → b ∉ s0.heap.objs.size :: frs outer := fun b o e n m => by
    rcases List.mem_cons.mp m with z | z
    · exact absurd (Heap.lt_size e) (by rw [z]; exact Nat.lt_irrefl _)
    · exact n z
  have hst := fl.2.2.1
  refine wpAny_leaves_onW (outer := outer) (L := s0.heap.objs.size) I.ok.frames rfl fl fun h2 x1 x4 => ?_
  refine ⟨ea, cls, a0, H', B, rfl, hE, os.trans I.os, bare, x1, hok, ⟨fun b o q n hf _ => ?_, fun b o q n hf _ => ?_, fun b o q n hx => ?_, fun b o q _ => ?_, fun b xs q => un.tups b xs (I0.tups b xs q), fun b o u q => un.frzs b o u (I0.frzs b o u q), fun b ps q => ?_⟩, fun b o q hf => ?_⟩
  · have e1 : s.heap.get? b = some o := I0.keep b o q n hf (by simp [cxOf])
    obtain ⟨o', e2, e3⟩ := st b o e1 (old b o q hf)
    rw [e3 (I0.free b o q n (by simp [cxOf]))] at e2
    exact x1.1 b o e2
  · obtain ⟨sl, e1⟩ := I0.slot b o q n hf (by simp [cxOf])
    obtain ⟨sl1, e2⟩ := un.slot b _ e1 (I0.free b o q n (by simp [cxOf])) (List.mem_cons_of_mem _ hf) (by simp)
    obtain ⟨_, o2, e3, nd⟩ := hst.mem (b := b) (by show b ∈ frs _; rw [efr]; exact List.mem_cons_of_mem _ hf)
    rw [e2] at e3; cases e3
    obtain ⟨sl2, e4⟩ := x4 b _ e2 nd
    exact ⟨sl2, e4⟩
  · obtain ⟨o1, e1⟩ := I0.there b o q (by simp [cxOf])
    exact un.free b o1 e1 (I0.free b o q n (by simp [cxOf])) (by simp)
  · obtain ⟨o1, e1⟩ := I0.there b o q (by simp [cxOf])
    by_cases hf : b ∈ frs outer
    · obtain ⟨_, o2, e3, nd⟩ := hst.mem (b := b) (by show b ∈ frs _; rw [efr]; exact List.mem_cons_of_mem _ hf)
      obtain ⟨sl2, e4⟩ := x4 b _ e3 nd
      exact ⟨_, e4⟩
    · obtain ⟨o', e2, _⟩ := st b o1 e1 (old b o q hf)
      exact ⟨o', x1.1 b o' e2⟩
  · obtain ⟨m1, e1⟩ := I0.tbls b ps q
    obtain ⟨m2, e2⟩ := un.tbls b _ e1
    exact ⟨m1 ++ m2, by rw [e2, Array.append_assoc]⟩
  · obtain ⟨o1, e1⟩ := I0.there b o q (by simp [cxOf])
    obtain ⟨o', e2, e3⟩ := st b o1 e1 (old b o q hf)
    refine ⟨o', e2, fun n => ?_⟩
    rw [e3 (I0.free b o q n (by simp [cxOf]))]
    have e4 : s.heap.get? b = some o := I0.keep b o q n hf (by simp [cxOf])
    rw [e1] at e4; cases e4; rfl
theorem passX : Passes (CXE P w) (cxOf (CXE P w) P w K mg base N qual scope f cd A outer s0 H0 E) E := fun _ _ _ _ _ _ I h => pass_xe I h
/-- raise C(e, ..) of an own class -/
def tRaise (t : TA) (C : Addr) (E : XK) : TS := fun _ σ H => t σ H fun vs H1 => vs.length ≤ sizeLine ∧ E (.ref C) none H1
theorem ps_raise {x : Str} {C : Addr} {e : Expr} {es : List Expr} {t : TA} {np cpos pos : Pos} (Z : ExcC K mg x C) (ha : PA (cxOf (CXE P w) P w K mg base N qual scope f cd A outer s0 H0 E) (e :: es) t) (hk : scope.kind = .function)
    (hx : scope.names.lookup x = some .globalImplicit) (hh : A.handled = none)
    (he : starEach (e :: es) (envOfC qual scope s0.heap.objs.size f cd) = (false, eval e (envOfC qual scope s0.heap.objs.size f cd)) :: starEach es (envOfC qual scope s0.heap.objs.size f cd) := by rfl)
    (hpl : (backTo cpos (starEach es (envOfC qual scope s0.heap.objs.size f cd))).any (·.1) = false := by rfl) (hd : (x == ("__debug__" : Str)) = false := by decide) :
    PS (cxOf (CXE P w) P w K mg base N qual scope f cd A outer s0 H0 E) (.Raise (some (.Call (.Name x np) (e :: es) [] cpos)) none pos) (tRaise t C E) := by
  intro pins s σ H D I h
  have O := Z.own I.mod.kin
  obtain ⟨tl, N1, nm, q, bs, hdct, sn, sub, ab, col, dd, k0, k1, k2, k3, k5, mN, hC, hN, hni, T⟩ := O.obj
  refine wpAny_Raise_call_subT (C := C) (nm := nm) (q := q) (N := N1) (bs := bs) (bm := tl) (hdct := hdct) (sn := sn) (sub := sub) (ab := ab) (col := col) (dd := dd) (k0 := k0) (k1 := k1) (k2 := k2) (k3 := k3) (k5 := k5)
    PySem.F.excBase_ValueError (mN := mN) (T.hasType PySem.F.excBase_ValueError.hasBase) hh ?_ hni ?_
  · show (backTo cpos (starEach (e :: es) (envOfC qual scope s0.heap.objs.size f cd))).any (·.1) = false
    rw [he]
    show (false || (backTo cpos (starEach es (envOfC qual scope s0.heap.objs.size f cd))).any (·.1)) = false
    rw [hpl]; rfl
  refine ld_glob I hx Z.nm ⟨rfl, ?_⟩ hd
  have h1 := ha cpos pins s σ H _ I h
  show wpAny _ _ (evalArgs (.ref C) true (backTo cpos (starEach (e :: es) (envOfC qual scope s0.heap.objs.size f cd))) []) _ _ s
  have h2 : wpAny (model P w) (A.deeper (envOfC qual scope s0.heap.objs.size f cd)) (spliced (backTo cpos (starEach (e :: es) (envOfC qual scope s0.heap.objs.size f cd)))) _ _ s := h1
  rw [he] at h2 ⊢
  refine Calls.evalArgs_plain (wpAny_mono h2 (fun us s2 z => ?_) fun _ _ y => y)
  obtain ⟨vs, H2, I2, r, zl, zE⟩ := z
  exact ⟨rfl, by rw [← r.length]; exact zl, I2.bk _ _ hC, hN.keeps I2.bk, T.keeps I2.bk, fun h' e hm => raise_xe I2 hm zE⟩
end
end L3

namespace L3
open PySem PySem.Spec PyProof.Rows PySem.Calls L2

/-! ### a clause takes the exception -/
abbrev Cx.caught (X : Cx) (e : Addr) : Cx := { X with A := X.A.mark (some (.ref e)), calm := false, xe := fun _ _ => False }

section
variable {X : Cx} {pins : List (Addr × Obj)} {σ : L2.St} {H H' : Hp} {s : Shared}
end
end L3

namespace L3
open PySem PySem.Spec PyProof.Rows PySem.Calls L2
section
variable {X : Cx}
end
end L3

namespace L3
open PySem PySem.Spec PyProof.Rows PySem.Calls L2

/-! ### defs: their objects, what they promise, calls -/
/-- a def of the text stands under its name -/
def Src (K : PySem.W.Frag) (mg : Str → Option Value) (x : Str) (st : Stmt) : Prop := ∃ f fd, Fun K x x st f fd ∧ mg x = some (.ref f)
/-- a def that may be called: it keeps sp, k calls deep -/
def Cal (P : Program) (w : World) (K : PySem.W.Frag) (mg : Str → Option Value) (base : Heap) (k : Nat) (x : Str) (ps : List Str) (sp : Sp) : Prop :=
  ∃ f fd, FnOk P w K mg base (CXE P w) k f fd ps sp ∧ Binds K fd ps [] ∧ PySem.W.keepIn K (.ref f) = true ∧ mg x = some (.ref f)
section
variable {P : Program} {w : World} {K : PySem.W.Frag} {mg : Str → Option Value} {base : Heap} {x : Str} {st : Stmt} {k : Nat} {ps N : List Str} {sp : Sp}
theorem Src.cal (S : Src K mg x st) (ok : ∀ f fd, Fun K x x st f fd → FnOk P w K mg base (CXE P w) k f fd ps sp)
    (hb : ∀ (kV doc pm : Value) (an : Option Addr) (cdv ct : Value) (us : List Value), us.length = ps.length → bindArgs (PySem.W.fnOf x x (defArgs st) (defBody st) (defScope st) .none kV doc pm an cdv ct) ⟨us, []⟩ = pure (ps.zip us)) :
    Cal P w K mg base k x ps sp := by
  obtain ⟨f, fd, F, e⟩ := S
  exact ⟨f, fd, ok f fd F, F.binds hb, F.kp, e⟩
/-- a def that may raise -/
theorem okX {f : Addr} {fd : FuncData} (F : Fun K x x st f fd) (S : FnScope N ps (defScope st)) (len : ∀ vs H Q E, sp vs H Q E → vs.length = ps.length)
    (hbody : ∀ (cdv : Value) (A : Around) (outer : List Env) (s : Shared) (H : Hp) (vs : List V) (Q : VK) (E : XK), Room k (A.deeper (envOfC x (defScope st) s.heap.objs.size f cdv)) → sp vs H Q E →
      ∃ t, PSs (cxOf (CXE P w) P w K mg base N x (defScope st) f cdv A outer s H E) (defBody st) t ∧ t { nx := fun _ H' => Q .non H', rt := Q } (start N vs) H) : FnOk P w K mg base (CXE P w) (k + 1) f fd ps sp := by
  obtain ⟨oc, od, kV, doc, pm, an, cdv, ct, osl, rfl, lk, hcd⟩ := F.ex
  exact fn_of lk hcd S len fun A outer s H vs Q E hr hsp => hbody cdv A outer s H vs Q E hr hsp
/-- a def that raises nothing -/
theorem okN {f : Addr} {fd : FuncData} (F : Fun K x x st f fd) (S : FnScope N ps (defScope st)) (len : ∀ vs H Q E, sp vs H Q E → vs.length = ps.length)
    (hbody : ∀ (cdv : Value) (A : Around) (outer : List Env) (s : Shared) (H : Hp) (vs : List V) (Q : VK) (E : XK), Room k (A.deeper (envOfC x (defScope st) s.heap.objs.size f cdv)) → sp vs H Q E →
      ∃ t, PSs (cxOf (CXE P w) P w K mg base N x (defScope st) f cdv A outer s H E).nox (defBody st) t ∧ t { nx := fun _ H' => Q .non H', rt := Q } (start N vs) H) : FnOk P w K mg base (CXE P w) (k + 1) f fd ps sp := by
  refine okX F S len fun cdv A outer s H vs Q E hr hsp => ?_
  obtain ⟨t, h, q⟩ := hbody cdv A outer s H vs Q E hr hsp
  exact ⟨t, h.nox, q⟩
end
section
variable {X : Cx} {k : Nat} {x : Str} {ps : List Str} {sp : Sp} {e : Expr} {es : List Expr} {t : TA} {p pos : Pos} {E : XK}
/-- f(..) of a def that raises nothing here -/
theorem pe_c (c : Cal X.prog X.w X.K X.mg X.base k x ps sp) (hr : Room k X.A) (ha : PA X (e :: es) t) (hg : Gl X x := by rfl) (hdb : (x == ("__debug__" : Str)) = false := by decide)
    (he : starEach (e :: es) X.env = (false, eval e X.env) :: starEach es X.env := by rfl) (hpl : (backTo pos (starEach es X.env)).any (·.1) = false := by rfl) :
    PE X (.Call (.Name x p) (e :: es) [] pos) (tCall sp [] (fun _ _ _ => False) t) := by
  obtain ⟨f, fd, F, hb, hk, hm⟩ := c
  exact pe_call F hr hg hm hk hb .nil passF ha hdb he hpl
/-- f(..) of a def that may raise: the exception goes on -/
theorem pe_cX (c : Cal X.prog X.w X.K X.mg X.base k x ps sp) (hr : Room k X.A) (hx : Passes (CXE X.prog X.w) X E) (ha : PA X (e :: es) t) (hg : Gl X x := by rfl) (hdb : (x == ("__debug__" : Str)) = false := by decide)
    (he : starEach (e :: es) X.env = (false, eval e X.env) :: starEach es X.env := by rfl) (hpl : (backTo pos (starEach es X.env)).any (·.1) = false := by rfl) :
    PE X (.Call (.Name x p) (e :: es) [] pos) (tCall sp [] E t) := by
  obtain ⟨f, fd, F, hb, hk, hm⟩ := c
  exact pe_call F hr hg hm hk hb .nil hx ha hdb he hpl
end

/-! ### a def called within a clause (an exception is being handled) -/
end L3

namespace L3
open PySem PySem.Spec PyProof.Rows PySem.Calls L2

/-! ### an object of the heap that was made behind s is taken into the abstract heap -/
theorem Inv.adopt {X : Cx} {pins : List (Addr × Obj)} {σ : L2.St} {H H' : Hp} {s s' : Shared} {a : Addr} {o : HO} {ch : List Addr} (I : Inv X pins σ H s) (ho : s'.os = s.os) (un : Un (frs X.stack) ch H H' s.heap s'.heap) (hok : HOk X.prog X.w H' s'.heap) (hg : AllBare s'.gens)
    (hch : ∀ b ∈ ch, (b ∈ X.ex ∨ X.s₀.heap.objs.size ≤ b) ∧ b ≠ X.env.locals ∧ (∀ x c, X.env.cells.lookup x = some c → c ≠ b) ∧ ∀ p ∈ X.pn ++ pins, p.1 ≠ b)
    (hs : s.heap.get? a = none) (h0 : H' a = none) (new : ObjOk X.prog X.w (upd H' a o) s'.heap a o) : Inv X pins σ (upd H' a o) s' := by
  refine I.call' (ch := ch) ho ⟨un.keep, un.slot, fun b ob q n hx => ?_, un.there, fun b xs q => ?_, fun b ob u q => ?_, fun b ps q => ?_⟩ (fun b u e => ?_) hg hch
  · have ne : b ≠ a := fun z => by rw [z, hs] at q; cases q
    rw [upd_ne ne]; exact un.free b ob q n hx
  · have e := un.tups b xs q
    rw [upd_ne (ne_of_none e h0)]; exact e
  · have e := un.frzs b ob u q
    rw [upd_ne (ne_of_none e h0)]; exact e
  · obtain ⟨m, e⟩ := un.tbls b ps q
    exact ⟨m, by rw [upd_ne (ne_of_none e h0)]; exact e⟩
  · by_cases hb : b = a
    · subst hb
      rw [upd_same] at e; cases e
      exact new
    · rw [upd_ne hb] at e
      exact (hok b u e).stay (fun c v _ q => q) (fun c q => by rw [upd_ne (ne_of_none q h0)]; exact q) fun c xs q => by rw [upd_ne (ne_of_none q h0)]; exact q

/-! ### a list comprehension -/
/-- the context of its block -/
def cxI (X : Cx) (scope : Scope) (cl : List (Str × Addr)) (N : List Str) (s : Shared) (H : Hp) (C : Addr) (fp : List Addr) : Cx where
  prog := X.prog
  w := X.w
  K := X.K
  mg := X.mg
  base := X.base
  A := X.A
  N := N
  s₀ := s
  H₀ := H
  env := compEnvC scope cl C X.env
  outer := X.stack
  stack := X.stack
  ex := fp
  fn := fun _ => false
  calm := X.calm
  pn := X.pn
  xe := fun _ _ => False
/-- the names that the block sees: its own, then those of around (with their slots there) -/
def sI (tgs : List Str) (caps : List (Str × Nat)) (σ : L2.St) : L2.St := tgs.map (fun _ => none) ++ caps.map fun c => (σ[c.2]?).join
def nI (tgs : List Str) (caps : List (Str × Nat)) : List Str := tgs ++ caps.map (·.1)
structure CompS (X : Cx) (scope : Scope) (cl : List (Str × Addr)) (tgs : List Str) (caps : List (Str × Nat)) : Prop where
  kind : scope.kind = .function
  nocell : ∀ y ∈ scope.names, y.2 ≠ .cell
  locs : ∀ y ∈ scope.names, y.2 = .local → scope.names.lookup y.1 = some .local
  clos : closureFor scope X.env = pure cl
  sub : ∀ x c, cl.lookup x = some c → X.env.cells.lookup x = some c
  has : ∀ x, ((relabel scope X.env).names.lookup x = some .cell ∨ (relabel scope X.env).names.lookup x = some .free) → ∃ c, cl.lookup x = some c
  cap : ∀ c ∈ caps, X.N[c.2]? = some c.1 ∧ X.env.scope.names.lookup c.1 = some .cell ∧ (relabel scope X.env).names.lookup c.1 = some .cell

def lobj (its : List Value) (n : Nat) : Obj := { cls := .type "list", data := .seq its.toArray n }

theorem comp_loop {prog : Program} {w : World} {A : Around} {R : Result → Shared → Prop} {s : Shared} {elt tg iter : Expr} {ifs : List Expr} {scope : Scope} {pos : Pos} {it acc : Value} {env : Env} (J : Nat → Shared → Prop)
    (turn : ∀ n s, J n s → wpAny (model prog w) A (pyNext it) (fun r s1 => match r with
      | none => R (.ok .next) s1
      | some v => wpAny (model prog w) A (letOwnedTupleGo tg it v) (fun _ s2 => wpAny (model prog w) A (assign tg env v) (fun _ s3 =>
          wpAny (model prog w) A (forIn ifs true fun c r => if r = true then do let ok ← isTrue c env (eval c env); pure (ForInStep.yield ok) else pure (ForInStep.yield r)) (fun ok s4 =>
            if ok = true then wpAny (model prog w) A (eval elt env) (fun x s5 => wpAny (model prog w) A (call (.builtin "list.append") [acc, x]) (fun _ s6 => ∃ m, m < n ∧ J m s6) (fun _ _ => False) s5) (fun _ _ => False) s4
            else ∃ m, m < n ∧ J m s4) (fun _ _ => False) s3) (fun _ _ => False) s2) (fun _ _ => False) s1) (fun _ _ => False) s)
    (n : Nat) (h : J n s) : codeAny (model prog w) A (.compLoop (.ListComp elt [⟨tg, iter, ifs, 0⟩] scope pos) 0 it acc env) R s := by
  refine codeAny_loop rfl J (fun n s hJ => ?_) n h
  have no : ∀ (x : Value) (s' : Shared), (fun (_ : Value) (_ : Shared) => False) x s' → (notedBy (model prog w) A env fun e s' => R (.error e) s') x s' := fun _ _ z => z.elim
  show wpAny (model prog w) A (Sem.onRaise (compTurn (.ListComp elt [⟨tg, iter, ifs, 0⟩] scope pos) 0 it acc env) (fun y => do noteFrame y env; theTreesLotGoes y)) _ _ s
  refine wpAny_noted ?_
  rw [compTurn_list]
  refine wpAny_bind (wpAny_standAt (wpAny_bind (wpAny_mono (turn n s hJ) (fun r s1 h1 => ?_) no)))
  cases r with
  | none => exact wpAny_pure h1
  | some v =>
    refine wpAny_bind (wpAny_mono h1 (fun _ s2 h2 => ?_) no)
    refine wpAny_bind (wpAny_mono h2 (fun _ s3 h3 => ?_) no)
    refine wpAny_bind (wpAny_mono h3 (fun ok s4 h4 => ?_) no)
    cases ok with
    | false => exact wpAny_pure ⟨rfl, h4⟩
    | true =>
      rw [if_pos rfl] at h4
      refine wpAny_bind (wpAny_bind (wpAny_mono h4 (fun x s5 h5 => ?_) no))
      exact wpAny_bind (wpAny_mono h5 (fun _ s6 h6 => wpAny_pure (wpAny_pure ⟨rfl, h6⟩)) no)

/-- W: what holds between two turns: the turn, a measure, the list so far, the block's names, the heap -/
def tCompAt (J : It) (g : TG) (tc : TT) (te : TE) (Q : VK) (σ0 : L2.St) (H1 : Hp) : Prop := ∃ W : Nat → Nat → List V → L2.St → Hp → Prop, (∃ m, W 0 m [] σ0 H1) ∧ ∀ i m ys σ' H', W i m ys σ' H' →
  (J.stop i H' ∧ ys.length ≤ sizeLine ∧ ∀ p, H' p = none → Q (.ref p) (upd H' p (.lst ys))) ∨
  (J.go i H' ∧ ys.length < sizeLine ∧ ∃ Nx : List V → L2.St → Hp → Prop, (∀ ys' σ2 H2, Nx ys' σ2 H2 → ∃ m', m' < m ∧ W (i + 1) m' ys' σ2 H2) ∧ ∀ x H2, J.yld i H' x H2 → g x σ' H2 fun σ2 H3 => tc σ2 H3 fun b H4 =>
    if b = true then te σ2 H4 fun y H5 => Nx (ys ++ [y]) σ2 H5 else Nx ys σ2 H4)
def tComp (wi : TI) (g : TG) (tc : TT) (te : TE) (s0 : L2.St → L2.St) : TE := fun σ H Q => wi σ H fun J H1 => tCompAt J g tc te Q (s0 σ) H1

section
variable {X : Cx} {scope : Scope} {cl : List (Str × Addr)} {tgs : List Str} {caps : List (Str × Nat)} {pins : List (Addr × Obj)} {σ : L2.St} {H : Hp} {s : Shared}
theorem sI_get {j : Nat} {x : Str} {v : V} (h1 : (nI tgs caps)[j]? = some x) (h2 : (sI tgs caps σ)[j]? = some (some v)) : ∃ c ∈ caps, c.1 = x ∧ σ[c.2]? = some (some v) := by
  unfold nI at h1
  unfold sI at h2
  by_cases hj : j < tgs.length
  · rw [List.getElem?_append_left (by simpa using hj), List.getElem?_map] at h2
    cases e : tgs[j]? with
    | none => rw [e] at h2; cases h2
    | some y => rw [e] at h2; cases h2
  · rw [List.getElem?_append_right (by simpa using hj)] at h1 h2
    rw [List.length_map] at h2
    rw [List.getElem?_map] at h1 h2
    cases e : caps[j - tgs.length]? with
    | none => rw [e] at h1; cases h1
    | some c =>
      rw [e] at h1 h2
      refine ⟨c, List.mem_of_getElem? e, Option.some.inj h1, ?_⟩
      have h3 : (σ[c.2]?).join = some v := Option.some.inj h2
      cases z : σ[c.2]? with
      | none => rw [z] at h3; cases h3
      | some o => rw [z] at h3; rw [show o = some v from h3]
/-- the block's entry -/
theorem inv_block (S : CompS X scope cl tgs caps) {fp : List Addr} {h' : Heap} (I : Inv X pins σ H s) (f2 : ∀ b ∈ fp, FpOk X pins H b) (hlt : ∀ b ∈ fp, b < s.heap.objs.size) (hns : h'.Ns (s.heap.objs.size + 1) (fun _ => none))
    (hk : ∀ b o, s.heap.get? b = some o → h'.get? b = some o) (hacc : h'.get? s.heap.objs.size = some (lobj [] 0)) {t' : Nat} :
    Inv (cxI X scope cl (nI tgs caps) s H (s.heap.objs.size + 1) fp) (pins ++ [(s.heap.objs.size, lobj [] 0)]) (sI tgs caps σ) H { s with heap := h', toks := t' } := by
  have hC : H (s.heap.objs.size + 1) = none := I.hok.fresh (Nat.le_succ _)
  have hA : H s.heap.objs.size = none := I.hok.fresh (Nat.le_refl _)
  have cc : ∀ x c, cl.lookup x = some c → c < s.heap.objs.size := fun x c e => by
    obtain ⟨v, q⟩ := I.cell x c (S.sub x c e)
    exact q.lt
  have nfs : ∀ b, s.heap.objs.size ≤ b → b ∉ frs X.stack := fun b hb m => by
    obtain ⟨_, o, e, _⟩ := I.stack.mem m
    exact absurd (Nat.lt_of_lt_of_le (Heap.lt_size e) hb) (Nat.lt_irrefl _)
  refine ⟨⟨I.mod, S.kind, I.ok.glob, I.ok.blt, Nat.le_succ _, fun x y c h1 h2 => I.ok.inj x y c (S.sub x c h1) (S.sub y c h2), S.has, fun x c z => absurd (show false = true from z) Bool.false_ne_true, I.ok.hd, I.ok.frames, .inl rfl, fun b hb => ⟨?_, fun x c e => (f2 b hb).2.2.2.2.1 x c (S.sub x c e)⟩, I.bs, Nat.le_trans I.ok.bsz I.sz, fun b o e hb => ?_, fun b hb m => ?_, I.stack, I.stkFree⟩,
    rfl, I.bare, Un.kept hk, ⟨_, hns, fun j x v h1 h2 h3 => ?_⟩, fun x c e => ?_, hC, fun x c e => I.freeC x c (S.sub x c e), fun p hp => ?_, I.hok.kept hk, ?_⟩
  · exact Nat.ne_of_lt (Nat.lt_succ_of_lt (hlt b hb))
  · rcases (f2 b hb).2.2.2.1 with z | z
    · exact I.ok.noex b o e z
    · exact absurd (Nat.lt_of_lt_of_le (Heap.lt_size e) (Nat.le_trans I.ok.bsz z)) (Nat.lt_irrefl _)
  · rcases List.mem_cons.mp (I.stkSub b m) with z | z
    · exact (f2 b hb).2.1 z
    · exact (f2 b hb).2.2.1 z
  · obtain ⟨c, hc, rfl, e⟩ := sI_get h1 h2
    obtain ⟨g1, g2, g3⟩ := S.cap c hc
    obtain ⟨m, hn, hl⟩ := I.loc
    obtain ⟨u, r, l⟩ := hl c.2 c.1 v g1 e (.inr (.inl g2))
    refine ⟨u, r, .inr ⟨.inl g3, ?_⟩⟩
    rcases l with ⟨k, _⟩ | ⟨k, a, e1, z⟩
    · have k' : X.env.scope.names.lookup c.1 = some .local := k
      rw [g2] at k'; cases k'
    · obtain ⟨a', e2⟩ := S.has c.1 (.inl g3)
      have e3 := S.sub _ _ e2
      rw [e1] at e3; cases e3
      obtain ⟨o, z1, z2⟩ := z
      exact ⟨a, e2, o, hk _ _ z1, z2⟩
  · obtain ⟨v, o, z1, z2⟩ := I.cell x c (S.sub x c e)
    exact ⟨v, o, hk _ _ z1, z2⟩
  · have hp' : p ∈ X.pn ++ pins ∨ p = (s.heap.objs.size, lobj [] 0) := by
      have : p ∈ X.pn ++ (pins ++ [(s.heap.objs.size, lobj [] 0)]) := hp
      rw [← List.append_assoc] at this
      rcases List.mem_append.mp this with z | z
      · exact .inl z
      · exact .inr (by simpa using z)
    rcases hp' with z | rfl
    · obtain ⟨e, n, ne, nf, d⟩ := I.pin p z
      have lt := Heap.lt_size e
      refine ⟨hk _ _ e, n, Nat.ne_of_lt (Nat.lt_succ_of_lt lt), fun m => ?_, d⟩
      rcases List.mem_cons.mp (I.stkSub _ m) with y | y
      · exact ne y
      · exact nf y
    · exact ⟨hacc, hA, Nat.ne_of_lt (Nat.lt_succ_self _), nfs _ (Nat.le_refl _), fun v z => by cases z⟩
  · show (sI tgs caps σ).length = (nI tgs caps).length
    simp [sI, nI]

theorem vals_snoc {ys : List V} {its : List Value} {y : V} {u : Value} (h : Vals ys its) (r : RelV y u) : Vals (ys ++ [y]) (its ++ [u]) := h.append (.cons r .nil)
theorem comp_run {elt tg iter : Expr} {ifs : List Expr} {g : TG} {tc : TT} {te : TE} {pos : Pos} {it : Addr} {fp : List Addr} {tn : Nat → Heap → Prop} {J : It} {Q : VK} {RR : Value → Addr → Result → Shared → Prop} {E : Value → Shared → Prop} (hcalm : X.calm = true) (S : CompS X scope cl tgs caps)
    (hg : ∀ s H C fp, PG (cxI X scope cl (nI tgs caps) s H C fp) tg g)
    (hc : (ifs = [] ∧ tc = fun _ H Q => Q true H) ∨ ∃ c, ifs = [c] ∧ ∀ s H C fp, PT (cxI X scope cl (nI tgs caps) s H C fp) c tc)
    (he : ∀ s H C fp, PE (cxI X scope cl (nI tgs caps) s H C fp) elt te)
    (I : Inv X pins σ H s) (T : Turn X.prog X.w X.K tg J fp it tn) (st : tn 0 s.heap) (f2 : ∀ b ∈ fp, FpOk X pins H b)
    (hW : tCompAt J g tc te Q (sI tgs caps σ) H)
    (hend : ∀ p C ys H' s' m, Inv X pins σ (upd H' p (.lst ys)) s' → Q (.ref p) (upd H' p (.lst ys)) → s'.heap.Ns C m → FpOk X pins (upd H' p (.lst ys)) C → RR (.ref p) C (.ok .next) s') :
    wpAny (model X.prog X.w) X.A (newList []) (fun acc s3 => wpAny (model X.prog X.w) X.A (newFunctionEnv scope X.env.globals cl [] X.env.qual none .none (some X.env)) (fun cenv s4 =>
      codeAny (model X.prog X.w) X.A (.compStart (.ListComp elt [⟨tg, iter, ifs, 0⟩] scope pos) 0 (.ref it) acc { cenv with scope := relabel scope X.env }) (RR acc cenv.locals) s4) E s3) E s := by
  have hlt : ∀ b ∈ fp, b < s.heap.objs.size := fun b hb => by
    obtain ⟨o, e, _⟩ := T.obj _ _ st b hb
    exact Heap.lt_size e
  refine wpAny_newObj_type (wpAny_newFunctionEnv S.nocell (by intro y hy; simp at hy) (fun h1 hns1 hsb1 => ?_) S.kind)
  dsimp only at hns1 hsb1 ⊢
  have hC : (s.heap.push { cls := .type "list", dict := none, data := .seq ([] : List Value).toArray }).objs.size = s.heap.objs.size + 1 := Heap.size_push ..
  have old : ∀ b o, s.heap.get? b = some o → h1.get? b = some o := fun b o e =>
    hsb1.extBut b o (by rw [hC]; exact Nat.ne_of_lt (Nat.lt_succ_of_lt (Heap.lt_size e))) (Heap.get?_push_of_some _ (Heap.get?_push_of_some _ e))
  have hacc : h1.get? s.heap.objs.size = some (lobj [] 0) :=
    hsb1.extBut _ _ (by rw [hC]; exact Nat.ne_of_lt (Nat.lt_succ_self _)) (Heap.get?_push_of_some _ (Heap.get?_push_size _ rfl))
  rw [hC] at hns1 ⊢
  obtain ⟨W, ⟨m0, w0⟩, turn⟩ := hW
  have hns2 : h1.Ns (s.heap.objs.size + 1) (fun _ => none) := hns1
  have I4 := inv_block S I f2 hlt hns2 old hacc (t' := s.toks + ([] : List (Str × Value)).length)
  have st4 : tn 0 h1 := T.keep _ _ _ st fun b _ o e => old b o e
  -- the iterator's objects, seen from the block
  have fpI : ∀ {H' : Hp} {o : Obj}, (∀ b ∈ fp, H' b = none) → ∀ b ∈ fp, FpOk (cxI X scope cl (nI tgs caps) s H (s.heap.objs.size + 1) fp) (pins ++ [(s.heap.objs.size, o)]) H' b := fun {H' o} hn b hb => by
    obtain ⟨g0, g1, g2, g3, g4, g5⟩ := f2 b hb
    refine ⟨hn b hb, Nat.ne_of_lt (Nat.lt_succ_of_lt (hlt b hb)), fun m => ?_, .inl hb, fun x c e => g4 x c (S.sub x c e), fun p hp z => ?_⟩
    · rcases List.mem_cons.mp (I.stkSub _ m) with y | y
      · exact g1 y
      · exact g2 y
    · have hp' : p ∈ X.pn ++ (pins ++ [(s.heap.objs.size, o)]) := hp
      rw [← List.append_assoc] at hp'
      rcases List.mem_append.mp hp' with y | y
      · exact g5 p y z
      · have y' : p = (s.heap.objs.size, o) := by simpa using y
        rw [y'] at z
        exact absurd (hlt b hb) (by rw [← z]; exact Nat.lt_irrefl _)
  have loop : codeAny (model X.prog X.w) X.A (.compLoop (.ListComp elt [⟨tg, iter, ifs, 0⟩] scope pos) 0 (.ref it) (.ref s.heap.objs.size) (compEnvC scope cl (s.heap.objs.size + 1) X.env)) (RR (.ref s.heap.objs.size) (s.heap.objs.size + 1)) { s with heap := h1, toks := s.toks + ([] : List (Str × Value)).length } := by
    refine comp_loop (fun n s' => ∃ i ys its k σ' H', Inv (cxI X scope cl (nI tgs caps) s H (s.heap.objs.size + 1) fp) (pins ++ [(s.heap.objs.size, lobj its k)]) σ' H' s' ∧ Vals ys its ∧ tn i s'.heap ∧ (∀ b ∈ fp, H' b = none) ∧ W i n ys σ' H') ?_ m0
      ⟨0, [], [], 0, _, H, I4, .nil, st4, fun b hb => (f2 b hb).1, w0⟩
    rintro n s5 ⟨i, ys, its, k, σ5, H5, I5, v5, st5, fr5, w5⟩
    rcases turn i n ys σ5 H5 w5 with ⟨stop, hz, q⟩ | ⟨go, hz, Nx, hNx, step⟩
    · refine thn (T.done (cxI X scope cl (nI tgs caps) s H (s.heap.objs.size + 1) fp) rfl rfl rfl hcalm i _ s5 σ5 H5 _ I5 (fpI fr5) st5 stop) fun r s6 ⟨hr, I6⟩ => ?_
      subst hr
      obtain ⟨z1, z2, z3, z4, _⟩ := I6.pin (s.heap.objs.size, lobj its k) (by simp)
      obtain ⟨m, hn, _⟩ := I6.loc
      have hA : H5 s.heap.objs.size = none := z2
      refine hend s.heap.objs.size (s.heap.objs.size + 1) ys H5 s6 m (Inv.adopt I (ch := fp) I6.os I6.base I6.hok I6.bare (fun b hb => ⟨(f2 b hb).2.2.2.1, (f2 b hb).2.1, (f2 b hb).2.2.2.2.1, (f2 b hb).2.2.2.2.2⟩) (Heap.get?_none_of_le (Nat.le_refl _)) hA ⟨hz, its, k, v5, z1⟩) (q _ hA) hn ?_
      exact I.fpOk (Nat.le_succ _) (by rw [upd_ne (Nat.ne_of_gt (Nat.lt_succ_self _))]; exact I6.free)
    · refine thn (T.item (cxI X scope cl (nI tgs caps) s H (s.heap.objs.size + 1) fp) rfl rfl rfl hcalm i _ s5 σ5 H5 _ I5 (fpI fr5) st5 go) fun r s6 ⟨u, hr, h6⟩ => ?_
      subst hr
      refine thn h6 fun _ s7 ⟨x, H7, I7, r7, y7, st7, fr7⟩ => ?_
      have I7' := I7.pinned (fpI fr7) (T.obj _ _ st7)
      refine thn (hg _ _ _ _ _ s7 σ5 H7 x u _ I7' r7 (step x H7 y7)) fun _ s8 ⟨σ8, H8, I8, q8⟩ => ?_
      -- behind the tests and the element: the iterator and the list so far are as they were
      have back : ∀ {σ9 : L2.St} {H9 : Hp} {s9 : Shared}, Inv (cxI X scope cl (nI tgs caps) s H (s.heap.objs.size + 1) fp) ((pins ++ [(s.heap.objs.size, lobj its k)]) ++ pinsAt fp s7.heap) σ9 H9 s9 → tn (i + 1) s9.heap ∧ ∀ b ∈ fp, H9 b = none := fun {σ9 H9 s9} I9 => by
        refine ⟨T.keep _ _ _ st7 fun b hb o e => (I9.pin (b, o) (List.mem_append_right _ (List.mem_append_right _ (mem_pinsAt hb e)))).1, fun b hb => ?_⟩
        obtain ⟨o, e, d⟩ := T.obj _ _ st7 b hb
        exact (I9.pin (b, o) (List.mem_append_right _ (List.mem_append_right _ (mem_pinsAt hb e)))).2.1
      have tests : ∀ {Q' : Bool → Shared → Prop}, (∀ b s9 H9, Inv (cxI X scope cl (nI tgs caps) s H (s.heap.objs.size + 1) fp) ((pins ++ [(s.heap.objs.size, lobj its k)]) ++ pinsAt fp s7.heap) σ8 H9 s9 →
          (if b = true then te σ8 H9 fun y H5 => Nx (ys ++ [y]) σ8 H5 else Nx ys σ8 H9) → Q' b s9) →
          wpAny (model X.prog X.w) X.A (forIn ifs true fun c r => if r = true then do let ok ← isTrue c (compEnvC scope cl (s.heap.objs.size + 1) X.env) (eval c (compEnvC scope cl (s.heap.objs.size + 1) X.env)); pure (ForInStep.yield ok) else pure (ForInStep.yield r)) Q' (fun _ _ => False) s8 := fun {Q'} hQ => by
        rcases hc with ⟨rfl, rfl⟩ | ⟨c, rfl, hc⟩
        · exact wpAny_tests_nil (hQ true s8 H8 I8 q8)
        · refine wpAny_tests_one (thn (hc _ _ _ _ _ s8 σ8 H8 _ I8 q8) fun b s9 ⟨H9, I9, q9⟩ => hQ b s9 H9 I9 q9)
      refine tests fun b s9 H9 I9 q9 => ?_
      cases b with
      | false =>
        obtain ⟨m', hm, w9⟩ := hNx _ _ _ q9
        obtain ⟨b1, b2⟩ := back I9
        exact ⟨m', hm, i + 1, ys, its, k, σ8, H9, I9.unpinned, v5, b1, b2, w9⟩
      | true =>
        rw [if_pos rfl]
        rw [if_pos rfl] at q9
        refine thn (he _ _ _ _ _ s9 σ8 H9 _ I9 q9) fun u2 s10 ⟨y, H10, I10, r10, q10⟩ => ?_
        obtain ⟨m', hm, w10⟩ := hNx _ _ _ q10
        obtain ⟨b1, b2⟩ := back I10
        obtain ⟨z1, z2, z3, z4, _⟩ := I10.pin (s.heap.objs.size, lobj its k) (by simp)
        have hsz : its.toArray.size ≤ sizeLine := by rw [List.size_toArray, ← v5.length]; exact Nat.le_of_lt hz
        refine append_at (hsz := hsz) z1 fun h11 hs11 hD11 => ?_
        have I10u : Inv (cxI X scope cl (nI tgs caps) s H (s.heap.objs.size + 1) fp) pins σ8 H10 s10 := I10.unpinned.unpinned
        have I11 : Inv (cxI X scope cl (nI tgs caps) s H (s.heap.objs.size + 1) fp) pins σ8 H10 { s10 with heap := h11 } := by
          refine Inv.turned (t' := s10.toks) (it := s.heap.objs.size) I10u (fun b o hb e => (hs11.2 b hb).trans e) z2 z3 (.inr (Nat.le_refl _)) (fun x c e => ?_) (fun p hp z => ?_)
          · obtain ⟨v, q⟩ := I.cell x c (S.sub x c e)
            exact Nat.ne_of_lt q.lt
          · obtain ⟨e, _⟩ := I.pin p hp
            exact absurd (Heap.lt_size e) (by rw [z]; exact Nat.lt_irrefl _)
        have nacc : ∀ b ∈ fp, b ≠ s.heap.objs.size := fun b hb => Nat.ne_of_lt (hlt b hb)
        refine ⟨m', hm, i + 1, ys ++ [y], its ++ [u2], k + 1, σ8, H10, I11.pins_of fun p hp => ?_, vals_snoc v5 r10, T.keep _ _ _ b1 fun b hb o e => (hs11.2 b (nacc b hb)).trans e, b2, w10⟩
        rcases List.mem_append.mp hp with z | z
        · exact I11.pin p (List.mem_append_right _ z)
        · have e : p = (s.heap.objs.size, lobj (its ++ [u2]) (k + 1)) := by simpa using z
          subst e
          refine ⟨?_, z2, z3, z4, fun v z => by cases z⟩
          show h11.get? s.heap.objs.size = some (lobj (its ++ [u2]) (k + 1))
          rw [hD11]
          unfold lobj
          rw [List.push_toArray]
  exact codeAny_compStart_list loop (T.self _ 0 _ _ _ st4 loop)

section
variable {elt tg iter : Expr} {ifs : List Expr} {wi : TI} {g : TG} {tc : TT} {te : TE} {pos : Pos}
theorem pe_lc (hcalm : X.calm = true) (S : CompS X scope cl tgs caps) (hi : PI X tg iter wi) (hg : ∀ s H C fp, PG (cxI X scope cl (nI tgs caps) s H C fp) tg g)
    (hc : (ifs = [] ∧ tc = fun _ H Q => Q true H) ∨ ∃ c, ifs = [c] ∧ ∀ s H C fp, PT (cxI X scope cl (nI tgs caps) s H C fp) c tc)
    (he : ∀ s H C fp, PE (cxI X scope cl (nI tgs caps) s H C fp) elt te) (hs : ∀ x, foldedSetIterable iter X.env x = pure x := by intro _; rfl) :
    PE X (.ListComp elt [⟨tg, iter, ifs, 0⟩] scope pos) (tComp wi g tc te (sI tgs caps)) := by
  intro pins s σ H Q I h
  rw [eval_ListComp]
  refine wpAny_comprehension_free (use := none) rfl hs S.clos S.kind S.locs (thn (hi pins s σ H _ I h) fun v s1 h1 => thn h1 fun itv s2 h2 => ?_)
  obtain ⟨it, fp, tn, J, H2, rfl, I2, T, st2, f2, hW⟩ := h2
  refine comp_run hcalm S hg hc he I2 T st2 f2 hW fun p C ys H' s' m I3 q hn fk => ?_
  obtain ⟨g0, g1, g2, g3, g4, g5⟩ := fk
  exact ⟨m, hn, fun h' hs' => ⟨.ref p, _, Inv.turned (t' := s'.toks) I3 (fun b o hb e => (hs'.2 b hb).trans e) g0 g1 g3 g4 g5, rfl, q⟩⟩
/-- y = [..], y a plain local on the same row -/
theorem ps_lc {i : Nat} {y : Str} {py spos : Pos} (hcalm : X.calm = true) (S : CompS X scope cl tgs caps) (hN : X.N.Nodup) (hy : X.N[i]? = some y) (hl : X.env.scope.names.lookup y = some .local) (hi : PI X tg iter wi) (hg : ∀ s H C fp, PG (cxI X scope cl (nI tgs caps) s H C fp) tg g)
    (hc : (ifs = [] ∧ tc = fun _ H Q => Q true H) ∨ ∃ c, ifs = [c] ∧ ∀ s H C fp, PT (cxI X scope cl (nI tgs caps) s H C fp) c tc)
    (he : ∀ s H C fp, PE (cxI X scope cl (nI tgs caps) s H C fp) elt te) (hsw : swapsWith (.ListComp elt [⟨tg, iter, ifs, 0⟩] scope pos) (some (.Name y py)) spos.line X.env = pure true := by rfl) (hs : ∀ x, foldedSetIterable iter X.env x = pure x := by intro _; rfl) :
    PS X (.Assign [.Name y py] (.ListComp elt [⟨tg, iter, ifs, 0⟩] scope pos) spos) (fun D σ H => tComp wi g tc te (sI tgs caps) σ H fun v H1 => D.nx (σ.set i (some v)) H1) := by
  intro pins s σ H D I h
  rw [exec_Assign_Name_used _ _ _ _ hsw]
  refine wpAny_bind (wpAny_standAt (wpAny_bind ?_))
  show wpAny _ X.A (do let _ ← comprehension (.ListComp elt [⟨tg, iter, ifs, 0⟩] scope pos) scope X.env _ (newList []) false (eval iter X.env) (some (assign (.Name y py) X.env))) _ _ s
  refine wpAny_bind (wpAny_mono (wpAny_comprehension_free (use := some (assign (.Name y py) X.env)) (Q := fun _ s' => SP X pins D .next s') rfl hs S.clos S.kind S.locs (thn (hi pins s σ H _ I h) fun v s1 h1 => thn h1 fun itv s2 h2 => ?_)) (fun _ s' hq => wpAny_pure (wpAny_pure hq)) fun _ _ z => z)
  obtain ⟨it, fp, tn, J, H2, rfl, I2, T, st2, f2, hW⟩ := h2
  refine comp_run (Q := fun v H1 => D.nx (σ.set i (some v)) H1) hcalm S hg hc he I2 T st2 f2 hW fun p C ys H' s' m I3 q hn fk => ?_
  obtain ⟨g0, g1, g2, g3, g4, g5⟩ := fk
  show wpAny _ X.A (assign (.Name y py) X.env (.ref p)) _ _ s'
  refine wpAny_assign_Name (store_ok2 I3 hN hy (.inl hl) (v := .ref p) rfl (fun s4 I4 hsb => ?_) (.inr hl))
  obtain ⟨a, hsb, ha⟩ := hsb
  have hCa : C ≠ a := by
    rcases ha with rfl | ha
    · exact g1
    · exact fun z => g4 _ _ ha z.symm
  exact ⟨m, hn.sameBut hsb hCa, fun h' hs' => ⟨_, _, Inv.turned (t' := s4.toks) I4 (fun b o hb e => (hs'.2 b hb).trans e) g0 g1 g3 g4 g5, q⟩⟩
end

/-! ### the forms one uses -/
theorem comp_list {K : PySem.W.Frag} {a : Addr} {xs : List V} {g : TG} {tc : TT} {te : TE} {Q : VK} {σ0 : L2.St} {H0 : Hp} (Pv : Nat → List V → L2.St → Hp → Prop) (h0 : Pv 0 [] σ0 H0) (hx : xs.length ≤ sizeLine)
    (hl : ∀ i ys σ H, i ≤ xs.length → Pv i ys σ H → SqL K H a xs ∧ ys.length ≤ i)
    (hs : ∀ i x ys σ H, xs[i]? = some x → Pv i ys σ H → g x σ H fun σ2 H3 => tc σ2 H3 fun b H4 => if b = true then te σ2 H4 fun y H5 => Pv (i + 1) (ys ++ [y]) σ2 H5 else Pv (i + 1) ys σ2 H4)
    (hd : ∀ ys σ H, Pv xs.length ys σ H → ∀ p, H p = none → Q (.ref p) (upd H p (.lst ys))) :
    tCompAt (Itl K a) g tc te Q σ0 H0 := by
  refine ⟨fun i m ys σ H => m = xs.length - i ∧ i ≤ xs.length ∧ Pv i ys σ H, ⟨xs.length, by simp, Nat.zero_le _, h0⟩, ?_⟩
  rintro i m ys σ H ⟨rfl, hi, p⟩
  obtain ⟨q, hy⟩ := hl i ys σ H hi p
  by_cases hlt : i < xs.length
  · refine .inr ⟨⟨xs, xs[i], q, by simp [hlt]⟩, by omega, Pv (i + 1), fun ys' σ' H' p' => ⟨xs.length - (i + 1), by omega, rfl, hlt, p'⟩, fun x H' y => ?_⟩
    obtain ⟨rfl, y⟩ := y
    exact hs i x ys σ _ (y xs q) p
  · have e : i = xs.length := by omega
    subst e
    exact .inl ⟨⟨xs, q, Nat.le_refl _⟩, by omega, hd ys σ H p⟩
theorem comp_range {lo : Int} {n : Nat} {g : TG} {tc : TT} {te : TE} {Q : VK} {σ0 : L2.St} {H0 : Hp} (Pv : Nat → List V → L2.St → Hp → Prop) (h0 : Pv 0 [] σ0 H0) (hx : n ≤ sizeLine)
    (hl : ∀ i ys σ H, i ≤ n → Pv i ys σ H → ys.length ≤ i)
    (hs : ∀ i ys σ H, i < n → Pv i ys σ H → g (.int (lo + i)) σ H fun σ2 H3 => tc σ2 H3 fun b H4 => if b = true then te σ2 H4 fun y H5 => Pv (i + 1) (ys ++ [y]) σ2 H5 else Pv (i + 1) ys σ2 H4)
    (hd : ∀ ys σ H, Pv n ys σ H → ∀ p, H p = none → Q (.ref p) (upd H p (.lst ys))) :
    tCompAt (Itr lo n) g tc te Q σ0 H0 := by
  refine ⟨fun i m ys σ H => m = n - i ∧ i ≤ n ∧ Pv i ys σ H, ⟨n, by simp, Nat.zero_le _, h0⟩, ?_⟩
  rintro i m ys σ H ⟨rfl, hi, p⟩
  have hy := hl i ys σ H hi p
  by_cases hlt : i < n
  · refine .inr ⟨hlt, by omega, Pv (i + 1), fun ys' σ' H' p' => ⟨n - (i + 1), by omega, rfl, hlt, p'⟩, fun x H' y => ?_⟩
    obtain ⟨rfl, rfl⟩ := y
    exact hs i ys σ _ hlt p
  · have e : i = n := by omega
    subst e
    exact .inl ⟨Nat.le_refl _, by omega, hd ys σ H p⟩
end
end L3

namespace L3
open PySem PySem.Spec PyProof.Rows PySem.Calls L2
theorem b_abs : bootBuiltins "abs" = some (.builtin "abs") := by decide +kernel
theorem b_len : bootBuiltins "len" = some (.builtin "len") := by decide +kernel
theorem b_isi : bootBuiltins "isinstance" = some (.builtin "isinstance") := by decide +kernel
theorem b_int : bootBuiltins "int" = some (.type "int") := by decide +kernel
theorem b_bool : bootBuiltins "bool" = some (.type "bool") := by decide +kernel
theorem b_list : bootBuiltins "list" = some (.type "list") := by decide +kernel
theorem b_tuple : bootBuiltins "tuple" = some (.type "tuple") := by decide +kernel
/-- x = e at the i-th name -/
theorem sset (i : Nat) {X : Cx} {x : Str} {e : Expr} {te : TE} {pos pos' : Pos} (hN : X.N.Nodup) (he : PE X e te) (hi : X.N[i]? = some x := by rfl) (hx : Loc X.env.scope x := by first | exact Or.inl rfl | exact Or.inr rfl)
    (hs : swapsWith e (some (.Name x pos')) pos.line X.env = pure false := by rfl) (hf : X.fn x = true ∨ X.env.scope.names.lookup x = some .local := by first | exact .inl rfl | exact .inr rfl) : PS X (.Assign [.Name x pos'] e pos) (tAsg te (gName i)) :=
  ps_set (i := i) hN hi hx he hs hf
theorem a1 {X : Cx} {e : Expr} {te : TE} (h : PE X e te) (hs : starEach [e] X.env = (false, eval e X.env) :: starEach [] X.env := by rfl) : PA X [e] (tCons te tNil) := pa_cons h pa_nil hs
theorem a2 {X : Cx} {e f : Expr} {te tf : TE} (h : PE X e te) (k : PE X f tf) (hs : starEach [e, f] X.env = (false, eval e X.env) :: starEach [f] X.env := by rfl) (hs2 : starEach [f] X.env = (false, eval f X.env) :: starEach [] X.env := by rfl) : PA X [e, f] (tCons te (tCons tf tNil)) := pa_cons h (a1 k hs2) hs
theorem a3 {X : Cx} {e f g : Expr} {te tf tg : TE} (h : PE X e te) (k : PE X f tf) (l : PE X g tg) (hs : starEach [e, f, g] X.env = (false, eval e X.env) :: starEach [f, g] X.env := by rfl) (hs2 : starEach [f, g] X.env = (false, eval f X.env) :: starEach [g] X.env := by rfl)
    (hs3 : starEach [g] X.env = (false, eval g X.env) :: starEach [] X.env := by rfl) : PA X [e, f, g] (tCons te (tCons tf (tCons tg tNil))) := pa_cons h (a2 k l hs2 hs3) hs
/-- t[i], a tuple's item at a written place; xs[i] a list's -/
theorem ixT {X : Cx} {a b : Expr} {ta tb : TE} {pos : Pos} (ha : PE X a ta) (hb : PE X b tb) (hs : PlainIx b := by intro _ _; rfl) : PE X (.Subscript a b pos) (tOp (rIxT X.K) ta tb) := pe_ix ix_tup ha hb hs
theorem ixL {X : Cx} {a b : Expr} {ta tb : TE} {pos : Pos} (ha : PE X a ta) (hb : PE X b tb) (hs : PlainIx b := by intro _ _; rfl) : PE X (.Subscript a b pos) (tOp (rIxL X.K) ta tb) := pe_ix ix_list ha hb hs
theorem cmp {X : Cx} {op : CmpOp} {a b : Expr} {ta tb : TE} {pos : Pos} {r : R2} (ho : OpR X (compareOp op) r) (ha : PE X a ta) (hb : PE X b tb) (hm : behindInMarks op b = false := by rfl) : PT X (.Compare a [op] [b] pos) (tTest (tOp r ta tb)) := pt_cmpR ho ha hb hm
theorem cmpE {X : Cx} {op : CmpOp} {a b : Expr} {ta tb : TE} {pos : Pos} {r : R2} (ho : OpR X (compareOp op) r) (ha : PE X a ta) (hb : PE X b tb) (hm : behindInMarks op b = false := by rfl) : PE X (.Compare a [op] [b] pos) (tOp r ta tb) := pe_cmpR ho ha hb hm
/-- a test by a call of a def -/
theorem tval {X : Cx} {e : Expr} {t : TE} (h : PE X e t) (he : ∀ whole, isTrue e X.env whole = (do let v ← whole; standAt e.pos; holding [v] (truthy v)) := by intro _; rfl) : PT X e (tB t) := pt_val h he
theorem callB {X : Cx} {x : Str} {id : String} {p pos : Pos} {e : Expr} {es : List Expr} {r : List V → Hp → VK → Prop} {t : TA} (hv : bootBuiltins x = some (.builtin id)) (hc : CallR X (.builtin id) r) (hm : X.mg x = none) (ha : PA X (e :: es) t) (hg : Gl X x := by rfl) (hn : x ≠ "__name__" := by decide)
    (hdb : (x == ("__debug__" : Str)) = false := by decide) (he : starEach (e :: es) X.env = (false, eval e X.env) :: starEach es X.env := by rfl) (hpl : (backTo pos (starEach es X.env)).any (·.1) = false := by rfl) : PE X (.Call (.Name x p) (e :: es) [] pos) (tCB r t) :=
  pe_callB hc hg hm hv ha hn hdb he hpl
theorem callT {X : Cx} {x : Str} {T : String} {p pos : Pos} {e : Expr} {es : List Expr} {r : List V → Hp → VK → Prop} {t : TA} (hv : bootBuiltins x = some (.type T)) (hc : CallR X (.type T) r) (hm : X.mg x = none) (ha : PA X (e :: es) t) (hg : Gl X x := by rfl) (hn : x ≠ "__name__" := by decide)
    (hdb : (x == ("__debug__" : Str)) = false := by decide) (he : starEach (e :: es) X.env = (false, eval e X.env) :: starEach es X.env := by rfl) (hpl : (backTo pos (starEach es X.env)).any (·.1) = false := by rfl) : PE X (.Call (.Name x p) (e :: es) [] pos) (tCB r t) :=
  pe_callTy hc hg hm hv ha hn hdb he hpl
end L3
namespace Ma
theorem gcd_step {a b : Int} (ha : 0 ≤ a) (hb : 0 < b) : Int.gcd b (a % b) = Int.gcd a b := by
  obtain ⟨m, rfl⟩ := Int.eq_ofNat_of_zero_le ha
  obtain ⟨n, rfl⟩ := Int.eq_ofNat_of_zero_le (Int.le_of_lt hb)
  have e : ((m : Int) % (n : Int)) = ((m % n : Nat) : Int) := by norm_cast
  rw [e]
  show Nat.gcd n (m % n) = Nat.gcd m n
  rw [Nat.gcd_comm n, ← Nat.gcd_rec, Nat.gcd_comm]
theorem gcd_abs (a b : Int) : Int.gcd (if a < 0 then -a else a) (if b < 0 then -b else b) = Int.gcd a b := by
  have h : ∀ x : Int, (if x < 0 then -x else x).natAbs = x.natAbs := fun x => by split <;> omega
  show Nat.gcd _ _ = Nat.gcd _ _
  rw [h, h]
end Ma

namespace Ma
open PySem L2 L3
/-! ### points -/
abbrev Pt := Int × Int
def pt (p : Pt) : PyData := .tuple [.int p.1, .int p.2]
theorem shp_pt (p : Pt) : shp (pt p) = true := rfl
theorem nol_pt (p : Pt) : nol (pt p) = true := rfl
theorem nols_pts : ∀ ps : List Pt, nols (ps.map pt) = true
  | [] => rfl
  | p :: ps => by simp only [List.map_cons, nols, nol_pt, nols_pts ps, Bool.and_self]
theorem shp_pts (ps : List Pt) : ∀ e ∈ ps.map pt, shp e = true := fun e h => by
  obtain ⟨p, _, rfl⟩ := List.mem_map.mp h
  exact shp_pt p
theorem eqv_pt (p q : Pt) : PyData.eqv (pt p) (pt q) = decide (p = q) := by
  obtain ⟨a, b⟩ := p
  obtain ⟨c, d⟩ := q
  simp only [pt, PyData.eqv, PyData.eqvAll, Bool.and_true]
  by_cases h1 : a = c <;> by_cases h2 : b = d <;> simp [h1, h2]
theorem any_pt (ps : List Pt) (p : Pt) : ((ps.map pt).any fun e => PyData.eqv e (pt p)) = decide (p ∈ ps) := by
  induction ps with
  | nil => rfl
  | cons q ps ih =>
    rw [List.map_cons, List.any_cons, ih, eqv_pt]
    by_cases h : q = p
    · subst h; simp
    · have h' : ¬ p = q := fun z => h z.symm
      simp [h, h']
def cell (ns : List Int) (k : Int) : Int := ns.getD k.toNat 0
def pick (xs : List Int) (i : Int) : Int := xs.getD i.toNat 0
def ptBy (a b w : Int) : Pt :=
  if w = 0 then (a % 4, b % 4)
  else if w = 1 then (a % 7 - 3, b % 3 - 1)
  else if w = 2 then (a % 2000001 - 1000000, b % 2000001 - 1000000)
  else if w = 3 then (a % 41 - 20, 3 * (a % 41 - 20) + 5 * (b % 2) + 1)
  else if w = 4 then (pick [1000000, -1000000, 0, 1000000 - 1] (a % 4), pick [1000000, -1000000, 1, b % 9] (b % 4))
  else if b % 3 = 0 then (250000 * (a % 9 - 4), 100000 * (a % 9 - 4) + 7)
  else if b % 3 = 1 then (100000 * (a % 9 - 4), 7 - 200000 * (a % 9 - 4))
  else (1000 * (a % 9 - 4), 999999 - b / 3 % 5)
/-- within the bounds -/
def InB (p : Pt) : Prop := -1000000 ≤ p.1 ∧ p.1 ≤ 1000000 ∧ -1000000 ≤ p.2 ∧ p.2 ≤ 1000000
theorem four (i : Int) : i % 4 = 0 ∨ i % 4 = 1 ∨ i % 4 = 2 ∨ i % 4 = 3 := by omega
theorem ptBy_in (a b w : Int) : InB (ptBy a b w) := by
  unfold ptBy
  split
  · unfold InB; dsimp only; omega
  split
  · unfold InB; dsimp only; omega
  split
  · unfold InB; dsimp only; omega
  split
  · unfold InB; dsimp only; omega
  split
  · unfold InB pick
    dsimp only
    rcases four a with e | e | e | e <;> rcases four b with f | f | f | f <;> rw [e, f] <;> simp <;> omega
  split
  · unfold InB; dsimp only; omega
  split
  · unfold InB; dsimp only; omega
  · unfold InB; dsimp only; omega
/-! ### a law's points -/
def addP (ps : List Pt) (p : Pt) : List Pt := if p ∈ ps then ps else ps ++ [p]
def ptsN (ns : List Int) (st w : Int) : Nat → List Pt
  | 0 => []
  | k + 1 => addP (ptsN ns st w k) (ptBy (cell ns (st + 2 * k)) (cell ns (st + 2 * k + 1)) w)
def fill (ps : List Pt) (p : Pt) : List Pt := if ps.length < 2 ∧ p ∉ ps then ps ++ [p] else ps
def ptsBy (ns : List Int) (st : Int) (n : Nat) (w : Int) : List Pt := fill (fill (ptsN ns st w n) (7, 11)) (8, 11)
def stage (ps : List Pt) : Nat → List Pt
  | 0 => ps
  | 1 => fill ps (7, 11)
  | _ => fill (fill ps (7, 11)) (8, 11)
structure Good (ps : List Pt) : Prop where
  nd : ps.Nodup
  inb : ∀ p ∈ ps, InB p
theorem Good.snoc {ps : List Pt} {p : Pt} (h : Good ps) (hp : p ∉ ps) (hb : InB p) : Good (ps ++ [p]) := by
  refine ⟨List.nodup_append.mpr ⟨h.nd, by simp, fun a ha b hb' => ?_⟩, fun q hq => ?_⟩
  · have : b = p := by simpa using hb'
    subst this
    exact fun z => hp (z ▸ ha)
  · rcases List.mem_append.mp hq with z | z
    · exact h.inb q z
    · have : q = p := by simpa using z
      subst this; exact hb
theorem addP_good {ps : List Pt} {p : Pt} (h : Good ps) (hb : InB p) : Good (addP ps p) := by
  unfold addP
  split
  · exact h
  · rename_i hp; exact h.snoc hp hb
theorem fill_good {ps : List Pt} {p : Pt} (h : Good ps) (hb : InB p) : Good (fill ps p) := by
  unfold fill
  split
  · rename_i hp; exact h.snoc hp.2 hb
  · exact h
theorem ptsN_good (ns : List Int) (st w : Int) : ∀ n, Good (ptsN ns st w n)
  | 0 => ⟨List.nodup_nil, fun _ h => nomatch h⟩
  | n + 1 => addP_good (ptsN_good ns st w n) (ptBy_in _ _ _)
theorem ptsN_len (ns : List Int) (st w : Int) : ∀ n, (ptsN ns st w n).length ≤ n
  | 0 => Nat.le_refl _
  | n + 1 => by
    have := ptsN_len ns st w n
    show (addP _ _).length ≤ n + 1
    unfold addP
    split
    · omega
    · simp only [List.length_append, List.length_singleton]; omega
theorem fill_len {ps : List Pt} {p : Pt} {m : Nat} (h : ps.length ≤ m) (hm : 2 ≤ m) : (fill ps p).length ≤ m := by
  unfold fill
  split
  · rename_i hp; simp only [List.length_append, List.length_singleton]; omega
  · exact h
theorem ptsBy_good (ns : List Int) (st : Int) (n : Nat) (w : Int) : Good (ptsBy ns st n w) :=
  fill_good (fill_good (ptsN_good ns st w n) (by unfold InB; dsimp only; omega)) (by unfold InB; dsimp only; omega)
theorem ptsBy_len (ns : List Int) (st : Int) (n : Nat) (w : Int) : (ptsBy ns st n w).length ≤ max n 2 :=
  fill_len (fill_len (Nat.le_trans (ptsN_len ns st w n) (Nat.le_max_left _ _)) (Nat.le_max_right _ _)) (Nat.le_max_right _ _)
theorem ptsBy_two (ns : List Int) (st : Int) (n : Nat) (w : Int) : 2 ≤ (ptsBy ns st n w).length := by
  unfold ptsBy
  generalize ptsN ns st w n = ps
  match ps with
  | [] => decide
  | [p] =>
    by_cases h1 : p = (7, 11)
    · subst h1; decide
    · have e1 : fill [p] (7, 11) = [p, (7, 11)] := by unfold fill; rw [if_pos ⟨by simp, by simpa using fun z => h1 z.symm⟩]; rfl
      rw [e1]; unfold fill; rw [if_neg (by simp)]; simp
  | p :: q :: r =>
    have e0 : ∀ x : Pt, fill (p :: q :: r) x = p :: q :: r := fun x => by
      unfold fill
      exact if_neg fun z => by have := z.1; simp only [List.length_cons] at this; omega
    rw [e0, e0]; simp
end Ma
namespace L3
open PySem PySem.Spec PyProof.Rows PySem.Calls L2
section
variable {X : Cx}
theorem pe_mil {j1 j2 : Nat} {p1 p2 pos : Pos} : PE X (.BinOp (.Constant (.int 10) j1 p1) .Pow (.Constant (.int 6) j2 p2) pos) (tC (.int 1000000)) := by
  intro pins s σ H Q I h
  refine pe_op op_pow pe_int pe_int pins s σ H Q I ⟨10, 6, rfl, rfl, ⟨by decide, by decide, by decide⟩, ?_⟩
  exact h
theorem pe_nmil {j1 j2 : Nat} {p1 p2 pos pos2 : Pos} : PE X (.UnaryOp .USub (.BinOp (.Constant (.int 10) j1 p1) .Pow (.Constant (.int 6) j2 p2) pos) pos2) (tC (.int (-1000000))) := by
  intro pins s σ H Q I h
  exact pe_un un_neg pe_mil pins s σ H Q I ⟨1000000, rfl, h⟩
end
theorem atI4 (a b c d : Int) {i : Int} (h : i = 0 ∨ i = 1 ∨ i = 2 ∨ i = 3) : atI [V.int a, V.int b, V.int c, V.int d] i = some (.int (Ma.pick [a, b, c, d] i)) := by
  rcases h with rfl | rfl | rfl | rfl <;> rfl
/-- (a, b) handed back -/
theorem tup2 {K : PySem.W.Frag} {H0 H : Hp} {Q : VK} {a b : Int} {p : Ma.Pt} (hs : Same H0 H) (q : ∀ v H', Same H0 H' → Den K H' (Ma.pt p) v → Q v H') (e1 : a = p.1) (e2 : b = p.2) :
    ([V.int a, V.int b] : List V).length ≤ sizeLine ∧ ∀ r, H r = none → Q (.ref r) (upd H r (.tup [.int a, .int b])) := by
  subst e1 e2
  exact ⟨by show 2 ≤ sizeLine; decide, fun r hr => q _ _ (hs.trans (same_new hr _)) (den_tup (SqT.of upd_same) (Dens.cons den_int (Dens.cons den_int Dens.nil)))⟩
end L3

namespace L3
open PySem PySem.Spec PyProof.Rows PySem.Calls L2
/-! ### isinstance of deep data, of a caught exception -/
def tyD : PyData → Value
  | .none => .type "NoneType"
  | .bool _ => .type "bool"
  | .int _ => .type "int"
  | .str _ => .type "str"
  | .list _ => .type "list"
  | .tuple _ => .type "tuple"
  | .dict _ => .type "dict"
def rIsiD (K : PySem.W.Frag) : List V → Hp → VK → Prop := fun xs H Q => ∃ x cV c d b, xs = [x, cV] ∧ (∀ u, RelV cV u → u = c) ∧ Den K H d x ∧ PySem.W.kitOne K (tyD d) c = some b ∧ Q (.bl b) H
section
variable {X : Cx}
theorem call_isiD : CallR X (.builtin "isinstance") (rIsiD X.K) := by
  intro pins s σ H xs us Q I r h
  obtain ⟨x, cV, c, d, b, rfl, hc, hd, e, q⟩ := h
  obtain ⟨u, w', rfl, r1, r2⟩ := vals2 r
  rw [hc w' r2]
  have fin : ∀ tk, EP X pins σ Q (.bool b) { s with toks := tk } := fun tk => ⟨.bl b, H, I.tok tk, rfl, q⟩
  cases d with
  | none => obtain rfl := hd.non_of; cases r1; exact PySem.W.kia_one PySem.W.kitx_none I.kIn True.intro e (fun z => nomatch z) fin
  | bool y => obtain rfl := hd.bl_of; cases r1; exact PySem.W.kia_one PySem.W.kitx_bool I.kIn True.intro e (fun z => nomatch z) fin
  | int y => obtain rfl := hd.int_of; obtain ⟨t, rfl⟩ := r1; exact PySem.W.kia_one PySem.W.kitx_int I.kIn True.intro e (fun z => nomatch z) fin
  | str y => obtain rfl := hd.str_of; obtain ⟨t, rfl⟩ := r1; exact PySem.W.kia_one PySem.W.kitx_str I.kIn True.intro e (fun z => nomatch z) fin
  | list ds =>
    obtain ⟨a, ys, rfl, h1, _⟩ := hd.lst_of
    cases r1
    obtain ⟨its, _, p, _⟩ := I.list h1
    obtain ⟨o, e1, e2, _⟩ := p.isList
    exact PySem.W.kia_one PySem.W.kitx_list I.kIn ⟨o, e1, e2⟩ e (fun z => nomatch z) fin
  | tuple ds =>
    obtain ⟨a, ys, rfl, h1, _⟩ := hd.tup_of
    cases r1
    obtain ⟨its, _, ⟨o, e1, e2, _⟩, _⟩ := I.tuple h1
    exact PySem.W.kia_one PySem.W.kitx_tuple I.kIn ⟨o, e1, e2⟩ e (fun z => nomatch z) fin
  | dict _ => simp only [Den] at hd
theorem kit_ii (K : PySem.W.Frag) : PySem.W.kitOne K (.type "int") (.type "int") = some true := rfl
theorem kit_ib (K : PySem.W.Frag) : PySem.W.kitOne K (.type "int") (.type "bool") = some false := by rfl
theorem kit_tt (K : PySem.W.Frag) : PySem.W.kitOne K (.type "tuple") (.type "tuple") = some true := rfl
end
/-- a tuple of itup -/
def itup (ms : List Int) : PyData := .tuple (ms.map .int)
theorem dens_ints {K : PySem.W.Frag} {H : Hp} : ∀ (ms : List Int), Dens K H (ms.map .int) (ms.map V.int)
  | [] => Dens.nil
  | m :: ms => Dens.cons den_int (dens_ints ms)
theorem dens_ints_of {K : PySem.W.Frag} {H : Hp} : ∀ {ms : List Int} {xs : List V}, Dens K H (ms.map .int) xs → xs = ms.map V.int
  | [], xs, h => by simpa only [List.map_nil, Dens] using h
  | m :: ms, xs, h => by
    simp only [List.map_cons, Dens] at h
    obtain ⟨x, r, rfl, h1, h2⟩ := h
    rw [h1.int_of, dens_ints_of h2]; rfl
theorem canlay_ints : ∀ ms : List Int, PyData.canLayAll0 (ms.map .int) = true
  | [] => rfl
  | m :: ms => by simp only [List.map_cons, PyData.canLayAll0, PyData.canLay0, canlay_ints ms, Bool.and_self]
theorem dep_ints : ∀ ms : List Int, PyData.depthAll (ms.map .int) = 0
  | [] => rfl
  | m :: ms => by simp only [List.map_cons, PyData.depthAll, PyData.depth, dep_ints ms, Nat.max_self]
theorem shp_ints (ms : List Int) : shp (itup ms) = true := by
  unfold shp itup
  simp only [PyData.canLay0, canlay_ints, PyData.depth, dep_ints]
  decide
theorem nols_ints : ∀ ms : List Int, nols (ms.map .int) = true
  | [] => rfl
  | m :: ms => by simp only [List.map_cons, nols, nol, nols_ints ms, Bool.and_self]
theorem nol_ints (ms : List Int) : nol (itup ms) = true := nols_ints ms
theorem eqvAll_ints : ∀ ms ns : List Int, PyData.eqvAll (ms.map .int) (ns.map .int) = decide (ms = ns)
  | [], [] => rfl
  | [], n :: ns => by simp [PyData.eqvAll]
  | m :: ms, [] => by simp [PyData.eqvAll]
  | m :: ms, n :: ns => by
    simp only [List.map_cons, PyData.eqvAll, PyData.eqv, eqvAll_ints ms ns]
    by_cases h1 : m = n <;> by_cases h2 : ms = ns <;> simp [h1, h2]
theorem eqv_ints (ms ns : List Int) : PyData.eqv (itup ms) (itup ns) = decide (ms = ns) := eqvAll_ints ms ns
/-- a tuple of itup handed back -/
theorem tupN {K : PySem.W.Frag} {H0 H : Hp} {Q : VK} {ms : List Int} {d : PyData} (hs : Same H0 H) (q : ∀ v H', Same H0 H' → Den K H' d v → Q v H') (e : d = itup ms) (hl : ms.length ≤ 1000) :
    (ms.map V.int).length ≤ sizeLine ∧ ∀ r, H r = none → Q (.ref r) (upd H r (.tup (ms.map V.int))) := by
  subst e
  exact ⟨by rw [List.length_map]; exact Nat.le_of_lt (small1000 hl), fun r hr => q _ _ (hs.trans (same_new hr _)) (den_tup (SqT.of upd_same) (dens_ints ms))⟩
end L3

namespace Ma
open PySem L2 L3
/-! ### lines -/
structure Ln where
  a : Int
  b : Int
  c : Int
  deriving DecidableEq
def ln (l : Ln) : PyData := itup [l.a, l.b, l.c]
/-- the direction is told with a above nought, or a nought and b above nought -/
def neg (a b : Int) : Prop := a < 0 ∨ (a = 0 ∧ b < 0)
instance (a b : Int) : Decidable (neg a b) := inferInstanceAs (Decidable (_ ∨ _))
def Up (a b : Int) : Prop := 0 < a ∨ (a = 0 ∧ 0 < b)
def dirA (p q : Pt) : Int := if neg (q.2 - p.2) (p.1 - q.1) then -(q.2 - p.2) else q.2 - p.2
def dirB (p q : Pt) : Int := if neg (q.2 - p.2) (p.1 - q.1) then -(p.1 - q.1) else p.1 - q.1
def dirG (p q : Pt) : Int := (Int.gcd (q.2 - p.2) (p.1 - q.1) : Nat)
def lineOf (p q : Pt) : Ln := ⟨dirA p q / dirG p q, dirB p q / dirG p q, dirA p q / dirG p q * p.1 + dirB p q / dirG p q * p.2⟩
def On (l : Ln) (p : Pt) : Prop := l.a * p.1 + l.b * p.2 = l.c
/-- told as the document tells a line -/
structure Told (l : Ln) : Prop where
  up : Up l.a l.b
  co : Int.gcd l.a l.b = 1

theorem ne_dir {p q : Pt} (h : p ≠ q) : ¬ (q.2 - p.2 = 0 ∧ p.1 - q.1 = 0) := fun z => h (by
  obtain ⟨a, b⟩ := p
  obtain ⟨c, d⟩ := q
  simp only at z
  have e1 : a = c := by omega
  have e2 : b = d := by omega
  rw [e1, e2])
theorem gcd_pos' {a b : Int} (h : ¬ (a = 0 ∧ b = 0)) : 0 < Int.gcd a b := by
  rcases Nat.eq_zero_or_pos (Int.gcd a b) with z | z
  · rw [Int.gcd_eq_zero_iff] at z
    exact absurd z h
  · exact z
theorem dirG_pos {p q : Pt} (h : p ≠ q) : 0 < dirG p q := by
  have := gcd_pos' (ne_dir h)
  unfold dirG
  omega
theorem dirG_eq (p q : Pt) : dirG p q = (Int.gcd (dirA p q) (dirB p q) : Nat) := by
  unfold dirG dirA dirB
  split
  · rw [Int.gcd_neg, Int.neg_gcd]
  · rfl
theorem g_dvd_a (p q : Pt) : dirG p q ∣ dirA p q := by rw [dirG_eq]; exact Int.gcd_dvd_left ..
theorem g_dvd_b (p q : Pt) : dirG p q ∣ dirB p q := by rw [dirG_eq]; exact Int.gcd_dvd_right ..
theorem dir_up {p q : Pt} (h : p ≠ q) : Up (dirA p q) (dirB p q) := by
  have h0 := ne_dir h
  unfold dirA dirB Up
  by_cases c : neg (q.2 - p.2) (p.1 - q.1)
  · rw [if_pos c, if_pos c]
    unfold neg at c
    omega
  · rw [if_neg c, if_neg c]
    unfold neg at c
    omega
theorem lineOf_told {p q : Pt} (h : p ≠ q) : Told (lineOf p q) := by
  have hg := dirG_pos h
  constructor
  · obtain ⟨a', ea⟩ := g_dvd_a p q
    obtain ⟨b', eb⟩ := g_dvd_b p q
    have e1 : (lineOf p q).a = a' := by show dirA p q / dirG p q = a'; rw [ea]; exact Int.mul_ediv_cancel_left _ (by omega)
    have e2 : (lineOf p q).b = b' := by show dirB p q / dirG p q = b'; rw [eb]; exact Int.mul_ediv_cancel_left _ (by omega)
    rw [e1, e2]
    have u := dir_up h
    rw [ea, eb] at u
    rcases u with u | ⟨u1, u2⟩
    · exact .inl (Int.pos_of_mul_pos_right u hg)
    · refine .inr ⟨?_, Int.pos_of_mul_pos_right u2 hg⟩
      rcases Int.mul_eq_zero.mp u1 with z | z
      · omega
      · exact z
  · show Int.gcd (dirA p q / dirG p q) (dirB p q / dirG p q) = 1
    rw [dirG_eq]
    exact Int.gcd_ediv_gcd_ediv_gcd (by have := dirG_pos h; rw [dirG_eq] at this; omega)

theorem lineOf_l (p q : Pt) : On (lineOf p q) p := rfl
theorem lineOf_r {p q : Pt} (h : p ≠ q) : On (lineOf p q) q := by
  have hg := dirG_pos h
  obtain ⟨a', ea⟩ := g_dvd_a p q
  obtain ⟨b', eb⟩ := g_dvd_b p q
  have e1 : dirA p q / dirG p q = a' := by rw [ea]; exact Int.mul_ediv_cancel_left _ (by omega)
  have e2 : dirB p q / dirG p q = b' := by rw [eb]; exact Int.mul_ediv_cancel_left _ (by omega)
  have e3 : dirA p q * (q.1 - p.1) + dirB p q * (q.2 - p.2) = 0 := by
    unfold dirA dirB
    split
    · rw [Int.neg_mul, Int.neg_mul, ← Int.neg_add, show (p.1 - q.1) = -(q.1 - p.1) by omega, Int.neg_mul, Int.mul_comm (q.2 - p.2)]; omega
    · rw [show (p.1 - q.1) = -(q.1 - p.1) by omega, Int.neg_mul, Int.mul_comm (q.2 - p.2)]; omega
  have e4 : dirG p q * (a' * (q.1 - p.1) + b' * (q.2 - p.2)) = 0 := by
    rw [Int.mul_add, ← Int.mul_assoc, ← Int.mul_assoc, ← ea, ← eb]; exact e3
  have e5 : a' * (q.1 - p.1) + b' * (q.2 - p.2) = 0 := by
    rcases Int.mul_eq_zero.mp e4 with z | z
    · omega
    · exact z
  show dirA p q / dirG p q * q.1 + dirB p q / dirG p q * q.2 = dirA p q / dirG p q * p.1 + dirB p q / dirG p q * p.2
  rw [e1, e2]
  rw [Int.mul_sub, Int.mul_sub] at e5
  omega

theorem co_dvd {a b c : Int} (h : Int.gcd a b = 1) (d : a ∣ b * c) : a ∣ c := by
  rw [← Int.natAbs_dvd_natAbs] at d ⊢
  rw [Int.natAbs_mul] at d
  exact Nat.Coprime.dvd_of_dvd_mul_left h d
theorem co_eq {a b a' b' : Int} (h1 : Int.gcd a b = 1) (h2 : Int.gcd a' b' = 1) (u1 : Up a b) (u2 : Up a' b') (e : a * b' = b * a') : a = a' ∧ b = b' := by
  have d1 : a ∣ a' := co_dvd h1 ⟨b', e.symm⟩
  have d2 : a' ∣ a := by
    have : a' ∣ b' * a := ⟨b, by rw [Int.mul_comm b' a, e, Int.mul_comm]⟩
    exact co_dvd h2 this
  have p1 : 0 ≤ a := by unfold Up at u1; omega
  have p2 : 0 ≤ a' := by unfold Up at u2; omega
  have ea : a = a' := Int.dvd_antisymm p1 p2 d1 d2
  subst ea
  refine ⟨rfl, ?_⟩
  by_cases z : a = 0
  · subst z
    rw [Int.gcd_zero_left] at h1 h2
    unfold Up at u1 u2
    omega
  · rw [Int.mul_comm b a] at e
    exact (Int.eq_of_mul_eq_mul_left z e).symm
/-- through two points goes one told line -/
theorem line_unique {l : Ln} {r s : Pt} (T : Told l) (h : r ≠ s) (h1 : On l r) (h2 : On l s) : lineOf r s = l := by
  have T2 := lineOf_told h
  have o1 := lineOf_l r s
  have o2 := lineOf_r h
  -- both directions are across s - r
  have e1 : l.a * (r.1 - s.1) = l.b * (s.2 - r.2) := by
    unfold On at h1 h2
    rw [Int.mul_sub, Int.mul_sub]; omega
  have e2 : (lineOf r s).a * (r.1 - s.1) = (lineOf r s).b * (s.2 - r.2) := by
    unfold On at o1 o2
    rw [Int.mul_sub, Int.mul_sub]; omega
  have e3 : (lineOf r s).a * l.b = (lineOf r s).b * l.a := by
    have nd := ne_dir h
    by_cases z : r.1 - s.1 = 0
    · have z2 : s.2 - r.2 ≠ 0 := fun y => nd ⟨y, z⟩
      rw [z, Int.mul_zero] at e1 e2
      rcases Int.mul_eq_zero.mp e1.symm with y | y
      · rcases Int.mul_eq_zero.mp e2.symm with x | x
        · rw [x, y, Int.mul_zero, Int.zero_mul]
        · exact absurd x z2
      · exact absurd y z2
    · refine Int.eq_of_mul_eq_mul_left z ?_
      calc (r.1 - s.1) * ((lineOf r s).a * l.b) = ((lineOf r s).a * (r.1 - s.1)) * l.b := by rw [← Int.mul_assoc, Int.mul_comm (r.1 - s.1)]
        _ = (lineOf r s).b * (s.2 - r.2) * l.b := by rw [e2]
        _ = (lineOf r s).b * (l.b * (s.2 - r.2)) := by rw [Int.mul_assoc, Int.mul_comm l.b]
        _ = (lineOf r s).b * (l.a * (r.1 - s.1)) := by rw [e1]
        _ = (r.1 - s.1) * ((lineOf r s).b * l.a) := by rw [← Int.mul_assoc, Int.mul_comm]
  obtain ⟨ea, eb⟩ := co_eq T2.co T.co T2.up T.up e3
  have ec : (lineOf r s).c = l.c := by
    unfold On at h1 o1
    rw [← h1, ← o1, ea, eb]
  have : lineOf r s = ⟨(lineOf r s).a, (lineOf r s).b, (lineOf r s).c⟩ := rfl
  rw [this, ea, eb, ec]
theorem line_swap {p q : Pt} (h : p ≠ q) : lineOf q p = lineOf p q := line_unique (lineOf_told h) (Ne.symm h) (lineOf_r h) (lineOf_l p q)
/-- c's part -/
theorem gcd_c (p q : Pt) : (Int.gcd ((Int.gcd (dirA p q) (dirB p q) : Nat) : Int) (dirA p q * p.1 + dirB p q * p.2) : Nat) = Int.gcd (dirA p q) (dirB p q) := by
  have d : ((Int.gcd (dirA p q) (dirB p q) : Nat) : Int) ∣ dirA p q * p.1 + dirB p q * p.2 :=
    Int.dvd_add (Int.dvd_mul_of_dvd_left (Int.gcd_dvd_left ..)) (Int.dvd_mul_of_dvd_left (Int.gcd_dvd_right ..))
  have z := Int.gcd_eq_left (Int.natCast_nonneg _) d
  exact Int.ofNat.inj z
/-- the law's own way to the line -/
theorem line_law {p q : Pt} (h : p ≠ q) : lineOf p q = ⟨dirA p q / dirG p q, dirB p q / dirG p q, (dirA p q * p.1 + dirB p q * p.2) / dirG p q⟩ := by
  have e : (dirA p q * p.1 + dirB p q * p.2) / dirG p q = dirA p q / dirG p q * p.1 + dirB p q / dirG p q * p.2 := by
    rw [Int.add_ediv_of_dvd_left (Int.dvd_mul_of_dvd_left (g_dvd_a p q)), Int.mul_ediv_assoc' _ (g_dvd_a p q), Int.mul_ediv_assoc' _ (g_dvd_b p q)]
  rw [e]; rfl
/-- the program's own way: the divisor takes the sign -/
theorem line_prog {p q : Pt} (h : p ≠ q) {d : Int} (hd : d = if neg (q.2 - p.2) (p.1 - q.1) then -dirG p q else dirG p q) :
    (q.2 - p.2).fdiv d = (lineOf p q).a ∧ (p.1 - q.1).fdiv d = (lineOf p q).b := by
  have hg := dirG_pos h
  have d1 : dirG p q ∣ q.2 - p.2 := by unfold dirG; exact Int.gcd_dvd_left ..
  have d2 : dirG p q ∣ p.1 - q.1 := by unfold dirG; exact Int.gcd_dvd_right ..
  show _ = dirA p q / dirG p q ∧ _ = dirB p q / dirG p q
  unfold dirA dirB
  by_cases c : neg (q.2 - p.2) (p.1 - q.1)
  · rw [if_pos c] at hd
    rw [if_pos c, if_pos c, hd, Int.fdiv_eq_ediv_of_dvd (Int.neg_dvd.mpr d1), Int.fdiv_eq_ediv_of_dvd (Int.neg_dvd.mpr d2), Int.ediv_neg, Int.ediv_neg, Int.neg_ediv_of_dvd d1, Int.neg_ediv_of_dvd d2]
    exact ⟨rfl, rfl⟩
  · rw [if_neg c] at hd
    rw [if_neg c, if_neg c, hd, Int.fdiv_eq_ediv_of_dvd d1, Int.fdiv_eq_ediv_of_dvd d2]
    exact ⟨rfl, rfl⟩
/-! ### sizes -/
theorem dir_bd {p q : Pt} (hp : InB p) (hq : InB q) : -2000000 ≤ q.2 - p.2 ∧ q.2 - p.2 ≤ 2000000 ∧ -2000000 ≤ p.1 - q.1 ∧ p.1 - q.1 ≤ 2000000 := by
  unfold InB at hp hq; omega
theorem dirA_bd {p q : Pt} (hp : InB p) (hq : InB q) : -2000000 ≤ dirA p q ∧ dirA p q ≤ 2000000 ∧ -2000000 ≤ dirB p q ∧ dirB p q ≤ 2000000 := by
  have := dir_bd hp hq
  unfold dirA dirB
  split <;> omega
theorem dirG_bd {p q : Pt} (h : p ≠ q) (hp : InB p) (hq : InB q) : 0 < dirG p q ∧ dirG p q ≤ 2000000 := by
  have h0 := dirG_pos h
  refine ⟨h0, ?_⟩
  have h1 := dirA_bd hp hq
  have u := dir_up h
  have hz : ∀ x : Int, 0 < x → dirG p q ∣ x → dirG p q ≤ x := fun x hx d => Int.le_of_dvd hx d
  unfold Up at u
  rcases u with u | ⟨_, u⟩
  · have := hz _ u (g_dvd_a p q); omega
  · have := hz _ u (g_dvd_b p q); omega
theorem ediv_bd {a g m : Int} (hg : 0 < g) (h1 : -m ≤ a) (h2 : a ≤ m) (hm : 0 ≤ m) : -m ≤ a / g ∧ a / g ≤ m := by
  constructor
  · have : -m ≤ a / g ↔ -m * g ≤ a := Int.le_ediv_iff_mul_le hg
    rw [this]
    have : -m * g ≤ -m * 1 := Int.mul_le_mul_of_nonpos_left (by omega) (by omega)
    omega
  · have : a / g ≤ m := by
      rcases Int.lt_or_le a 0 with z | z
      · have := Int.ediv_neg_of_neg_of_pos z hg; omega
      · have := Int.ediv_le_self g z; omega
    exact this
theorem line_bd {p q : Pt} (h : p ≠ q) (hp : InB p) (hq : InB q) : -2000000 ≤ (lineOf p q).a ∧ (lineOf p q).a ≤ 2000000 ∧ -2000000 ≤ (lineOf p q).b ∧ (lineOf p q).b ≤ 2000000 := by
  have hg := dirG_bd h hp hq
  have hd := dirA_bd hp hq
  have e1 := ediv_bd (m := 2000000) hg.1 hd.1 hd.2.1 (by omega)
  have e2 := ediv_bd (m := 2000000) hg.1 hd.2.2.1 hd.2.2.2 (by omega)
  exact ⟨e1.1, e1.2, e2.1, e2.2⟩
end Ma

namespace L3
open PySem PySem.Spec PyProof.Rows PySem.Calls L2
section
variable {X : Cx}
theorem pe_ty {x : Str} {T : String} {pos : Pos} (hv : bootBuiltins x = some (.type T)) (hm : X.mg x = none) (hg : Gl X x := by rfl) (hn : x ≠ "__name__" := by decide) (hd : (x == ("__debug__" : Str)) = false := by decide) : PE X (.Name x pos) (tC (.ty T)) :=
  pe_bltn hg hm hv (v := .ty T) rfl hn hd
end
/-- a < 0 or a == 0 and b < 0 -/
theorem neg_rd {i j : Nat} {σ : L2.St} {H : Hp} {Q : Bool → Hp → Prop} {a b : Int} (h1 : σ[i]? = some (some (.int a))) (h2 : σ[j]? = some (some (.int b))) (q : Q (decide (Ma.neg a b)) H) :
    tOr (tTest (tOp (rI0 fun i j => .bl (decide (i < j))) (tVar i) (tC (.int 0)))) (tAnd (tTest (tOp rEq (tVar i) (tC (.int 0)))) (tTest (tOp (rI0 fun i j => .bl (decide (i < j))) (tVar j) (tC (.int 0))))) σ H Q := by
  refine ⟨_, h1, _, _, rfl, rfl, _, rfl, ite2 (fun c => ?_) (fun c => ?_)⟩
  · have c' : a < 0 := of_decide_eq_true c
    rw [decide_eq_true (show Ma.neg a b from .inl c')] at q
    exact q
  · have c' : ¬ a < 0 := of_decide_eq_false (Bool.eq_false_iff.mpr c)
    refine ⟨_, h1, rfl, _, rfl, ite2 (fun c2 => ?_) (fun c2 => ?_)⟩
    · have e : a = 0 := V.int.inj (of_decide_eq_true c2)
      refine ⟨_, h2, _, _, rfl, rfl, _, rfl, ?_⟩
      have z : decide (b < 0) = decide (Ma.neg a b) := by
        by_cases hb : b < 0
        · rw [decide_eq_true hb, decide_eq_true (show Ma.neg a b from .inr ⟨e, hb⟩)]
        · rw [decide_eq_false hb, decide_eq_false]
          unfold Ma.neg; omega
      rw [z]; exact q
    · have n : ¬ a = 0 := fun z => c2 (decide_eq_true (congrArg V.int z))
      rw [decide_eq_false (show ¬ Ma.neg a b by unfold Ma.neg; omega)] at q
      exact q
end L3
namespace Ma
theorem whole_eq {p q : Pt} {A B : Int} (hA : A = dirA p q) (hB : B = dirB p q) : ((Int.gcd ((Int.gcd A B : Nat) : Int) (A * p.1 + B * p.2) : Nat) : Int) = dirG p q := by
  subst hA hB
  rw [gcd_c, dirG_eq]
theorem whole_ok {p q : Pt} (h : p ≠ q) {A B : Int} (hA : A = dirA p q) (hB : B = dirB p q) : 0 < ((Int.gcd ((Int.gcd A B : Nat) : Int) (A * p.1 + B * p.2) : Nat) : Int) := by
  rw [whole_eq hA hB]; exact dirG_pos h
theorem whole_lt {p q : Pt} (h : p ≠ q) (hp : InB p) (hq : InB q) {A B : Int} (hA : A = dirA p q) (hB : B = dirB p q) : ((Int.gcd ((Int.gcd A B : Nat) : Int) (A * p.1 + B * p.2) : Nat) : Int) < 2 ^ 200 := by
  rw [whole_eq hA hB]
  have := (dirG_bd h hp hq).2
  have : (2000000 : Int) < 2 ^ 200 := by decide
  omega
theorem ln_law {p q : Pt} (h : p ≠ q) {A B : Int} (hA : A = dirA p q) (hB : B = dirB p q) {W : Int} (hW : W = ((Int.gcd ((Int.gcd A B : Nat) : Int) (A * p.1 + B * p.2) : Nat) : Int)) : ln (lineOf p q) = L3.itup [A / W, B / W, (A * p.1 + B * p.2) / W] := by
  rw [whole_eq hA hB] at hW
  subst hW hA hB
  rw [line_law h]; rfl
end Ma

namespace L3
open PySem PySem.Spec PyProof.Rows PySem.Calls L2
/-! ### what stands behind the top -/
section
variable {K : PySem.W.Frag} {h : Heap} {mg : Str → Option Value}
theorem src_mk {x : Str} {st : Stmt} {f : Addr} {oc : Value} {od an : Option Addr} {osl : Array (Option Value)} {kV doc pm cdv ct : Value} (X : K.In h) (G : h.Ns mainGlobals mg) (a : PySem.W.nsIn K mainGlobals x = some (some (.ref f)))
    (l : K.lookup f = some ⟨oc, od, .func (PySem.W.fnOf x x (defArgs st) (defBody st) (defScope st) .none kV doc pm an cdv ct), osl⟩) (c : PySem.W.codeIn K cdv x = true) (k : PySem.W.keepIn K (.ref f) = true) : Src K mg x st :=
  ⟨f, _, fun_mk l c k, PySem.W.mg_of X G a⟩
theorem excC_mk {x : Str} {C : Addr} (X : K.In h) (G : h.Ns mainGlobals mg) (a : PySem.W.nsIn K mainGlobals x = some (some (.ref C))) (e : PySem.W.excIn K C bmV "ValueError.__new__" = true) : ExcC K mg x C := ⟨PySem.W.mg_of X G a, e⟩
end
/-- the law's own def, at its address -/
theorem law_at {P : Program} {w : World} {K : PySem.W.Frag} {mg : Str → Option Value} {fa : Addr} {st : Stmt} {k : Nat} {sp : Sp} (S : Src K mg "law" st) (hfa : mg "law" = some (.ref fa))
    (hb : ∀ (kV doc pm : Value) (an : Option Addr) (cdv ct : Value) (u : Value), bindArgs (PySem.W.fnOf "law" "law" (defArgs st) (defBody st) (defScope st) .none kV doc pm an cdv ct) ⟨[u], []⟩ = pure [(("script" : Str), u)])
    (ok : ∀ (base : Heap) f fd, Fun K "law" "law" st f fd → FnOk P w K mg base (CXE P w) k f fd ["script"] sp) :
    ∃ fd : FuncData, (∀ (s : Shared) (v : Value), BindsTo s fd ⟨[v], []⟩ [("script", v)]) ∧ ∀ base : Heap, K.In base → base.Ns mainGlobals mg → FnOk P w K mg base (CXE P w) k fa fd ["script"] sp := by
  obtain ⟨f, fd, F, e⟩ := S
  have z := e.symm.trans hfa
  cases z
  obtain ⟨oc, od, kV, doc, pm, an, cdv, ct, osl, rfl, lk, hcd⟩ := id F.ex
  exact ⟨_, fun s v => .of_eq (hb kV doc pm an cdv ct v), fun base _ _ => ok base _ _ F⟩
theorem cxe_no {P : Program} {w : World} {o : List Env} {H : Hp} {s : Shared} {e : Value} {s' : Shared} (h : CXE P w o H s (fun _ _ _ => False) e s') : False := by
  obtain ⟨_, _, _, _, _, _, f, _⟩ := h
  exact f
end L3

namespace Ma
open PySem L2 L3
/-! ### sizes of products -/
theorem mul_bd {a x A B : Int} (ha : -A ≤ a ∧ a ≤ A) (hx : -B ≤ x ∧ x ≤ B) : -(A * B) ≤ a * x ∧ a * x ≤ A * B := by
  have h : (a * x).natAbs ≤ (A * B).natAbs := by
    rw [Int.natAbs_mul, Int.natAbs_mul]
    exact Nat.mul_le_mul (by omega) (by omega)
  have p : 0 ≤ A * B := Int.mul_nonneg (by omega) (by omega)
  omega
/-- a line whose numbers are within the bounds of lines through points -/
structure LB (l : Ln) : Prop where
  a : -2000000 ≤ l.a ∧ l.a ≤ 2000000
  b : -2000000 ≤ l.b ∧ l.b ≤ 2000000
  c : -4000000000000 ≤ l.c ∧ l.c ≤ 4000000000000
theorem line_lb {p q : Pt} (h : p ≠ q) (hp : InB p) (hq : InB q) : LB (lineOf p q) := by
  have z := line_bd h hp hq
  have e1 := mul_bd (A := 2000000) (B := 1000000) (a := (lineOf p q).a) (x := p.1) ⟨z.1, z.2.1⟩ ⟨hp.1, hp.2.1⟩
  have e2 := mul_bd (A := 2000000) (B := 1000000) (a := (lineOf p q).b) (x := p.2) ⟨z.2.2.1, z.2.2.2⟩ ⟨hp.2.2.1, hp.2.2.2⟩
  refine ⟨⟨z.1, z.2.1⟩, ⟨z.2.2.1, z.2.2.2⟩, ?_⟩
  have e3 : (lineOf p q).a * p.1 + (lineOf p q).b * p.2 = (lineOf p q).c := lineOf_l p q
  omega
instance onDec (l : Ln) (p : Pt) : Decidable (On l p) := inferInstanceAs (Decidable (_ = _))
def off (l : Ln) (p : Pt) : Int := l.a * p.1 + l.b * p.2 - l.c
theorem off_bd {l : Ln} {p : Pt} (L : LB l) (hp : InB p) : -8000000000000 ≤ off l p ∧ off l p ≤ 8000000000000 := by
  have e1 := mul_bd (A := 2000000) (B := 1000000) (a := l.a) (x := p.1) L.a ⟨hp.1, hp.2.1⟩
  have e2 := mul_bd (A := 2000000) (B := 1000000) (a := l.b) (x := p.2) L.b ⟨hp.2.2.1, hp.2.2.2⟩
  have := L.c
  unfold off
  omega
theorem off_on {l : Ln} {p : Pt} : off l p = 0 ↔ On l p := by unfold off On; omega
def nn (l : Ln) : Int := l.a * l.a + l.b * l.b
theorem sq_nn (a : Int) : 0 ≤ a * a := by
  rcases Int.le_total 0 a with h | h
  · exact Int.mul_nonneg h h
  · have := Int.mul_nonneg (show 0 ≤ -a by omega) (show 0 ≤ -a by omega)
    rwa [Int.neg_mul_neg] at this
theorem sq_pos {a : Int} (h : a ≠ 0) : 0 < a * a := by
  have := sq_nn a
  have : a * a ≠ 0 := fun z => h (by rcases Int.mul_eq_zero.mp z with z | z <;> exact z)
  omega
theorem nn_pos {l : Ln} (u : Up l.a l.b) : 0 < nn l := by
  have h1 := sq_nn l.a
  have h2 := sq_nn l.b
  unfold nn
  rcases u with u | ⟨_, u⟩
  · have := sq_pos (a := l.a) (by omega); omega
  · have := sq_pos (a := l.b) (by omega); omega
theorem nn_bd {l : Ln} (L : LB l) : nn l ≤ 8000000000000 := by
  have e1 := mul_bd (A := 2000000) (B := 2000000) L.a L.a
  have e2 := mul_bd (A := 2000000) (B := 2000000) L.b L.b
  unfold nn; omega
/-! ### fractions in lowest terms -/
def gc (t b : Int) : Int := (Int.gcd t b : Nat)
def frac (t b : Int) : List Int := if b < 0 then [-(t / gc t b), -(b / gc t b)] else [t / gc t b, b / gc t b]
theorem gc_pos {t b : Int} (h : b ≠ 0) : 0 < gc t b := by
  have := gcd_pos' (a := t) (b := b) (fun z => h z.2)
  unfold gc; omega
theorem gc_l (t b : Int) : gc t b ∣ t := Int.gcd_dvd_left ..
theorem gc_r (t b : Int) : gc t b ∣ b := Int.gcd_dvd_right ..
theorem gc_le {t b : Int} (h : b ≠ 0) : gc t b ≤ b.natAbs := by
  have : gc t b ∣ ((b.natAbs : Nat) : Int) := Int.dvd_natAbs.mpr (gc_r t b)
  exact Int.le_of_dvd (by omega) this
theorem frac_pos {t b : Int} (h : 0 < b) : frac t b = [t / gc t b, b / gc t b] := by
  unfold frac; rw [if_neg (by omega)]
/-- the program's own way: the divisor takes the bottom's sign -/
theorem frac_prog {t b d : Int} (h : b ≠ 0) (hd : d = if b < 0 then -gc t b else gc t b) : frac t b = [t.fdiv d, b.fdiv d] := by
  unfold frac
  by_cases c : b < 0
  · rw [if_pos c] at hd ⊢
    rw [hd, Int.fdiv_eq_ediv_of_dvd (Int.neg_dvd.mpr (gc_l t b)), Int.fdiv_eq_ediv_of_dvd (Int.neg_dvd.mpr (gc_r t b)), Int.ediv_neg, Int.ediv_neg]
  · rw [if_neg c] at hd ⊢
    rw [hd, Int.fdiv_eq_ediv_of_dvd (gc_l t b), Int.fdiv_eq_ediv_of_dvd (gc_r t b)]
theorem frac_zero {b : Int} (h : 0 < b) : frac 0 b = [0, 1] := by
  rw [frac_pos h]
  have e : gc 0 b = b := by unfold gc; rw [Int.gcd_zero_left]; omega
  rw [e, Int.zero_ediv, Int.ediv_self (by omega)]
theorem frac_nought {t b : Int} (h : 0 < b) : frac t b = [0, 1] ↔ t = 0 := by
  constructor
  · intro e
    rw [frac_pos h] at e
    have e1 : t / gc t b = 0 := by injection e
    obtain ⟨k, hk⟩ := gc_l t b
    have e2 : t / gc t b = k := by
      have := gc_pos (t := t) (b := b) (by omega)
      calc t / gc t b = (gc t b * k) / gc t b := by rw [← hk]
        _ = k := Int.mul_ediv_cancel_left _ (by omega)
    rw [hk, ← e2, e1, Int.mul_zero]
  · rintro rfl; exact frac_zero h
def gapOf (l : Ln) (p : Pt) : List Int := frac (off l p * off l p) (nn l)
theorem gap_nought {l : Ln} {p : Pt} (u : Up l.a l.b) : gapOf l p = [0, 1] ↔ On l p := by
  unfold gapOf
  rw [frac_nought (nn_pos u), ← off_on]
  constructor
  · intro z; rcases Int.mul_eq_zero.mp z with z | z <;> exact z
  · intro z; rw [z]; rfl
end Ma

namespace L3
open PySem PySem.Spec PyProof.Rows PySem.Calls L2
/-! ### the same rules with the written part named (for a comprehension's block) -/
section
variable {X : Cx} (K : PySem.W.Frag)
theorem ixTk {a b : Expr} {ta tb : TE} {pos : Pos} (ha : PE X a ta) (hb : PE X b tb) (hs : PlainIx b := by intro _ _; rfl) (hK : X.K = K := by rfl) : PE X (.Subscript a b pos) (tOp (rIxT K) ta tb) := by subst hK; exact ixT ha hb hs
theorem ixLk {a b : Expr} {ta tb : TE} {pos : Pos} (ha : PE X a ta) (hb : PE X b tb) (hs : PlainIx b := by intro _ _; rfl) (hK : X.K = K := by rfl) : PE X (.Subscript a b pos) (tOp (rIxL K) ta tb) := by subst hK; exact ixL ha hb hs
theorem op_notinDk (hu : X.A.units + 40 < cLine) (hK : X.K = K := by rfl) : OpR X (compareOp .NotIn) (rInD K true) := by subst hK; exact op_notinD hu
end
def SubAll (cells : List (Str × Addr)) : List (Str × Addr) → Prop
  | [] => True
  | y :: r => cells.lookup y.1 = some y.2 ∧ SubAll cells r
theorem subAll_mem {cells : List (Str × Addr)} : ∀ {cl : List (Str × Addr)}, SubAll cells cl → ∀ y ∈ cl, cells.lookup y.1 = some y.2
  | [], _, _, h => nomatch h
  | y :: r, ⟨h1, h2⟩, z, h => by
    rcases List.mem_cons.mp h with e | h
    · subst e; exact h1
    · exact subAll_mem h2 z h
theorem compS_mk {X : Cx} {scope : Scope} {cl : List (Str × Addr)} {tgs : List Str} {caps : List (Str × Nat)} (k : scope.kind = .function) (c : scope.names.all (fun y => y.2 != .cell) = true) (l : scope.names.all (fun y => y.2 != .local || (scope.names.lookup y.1 == some .local)) = true)
    (clos : closureFor scope X.env = pure cl) (sub : SubAll X.env.cells cl) (has : (relabel scope X.env).names.all (fun y => (y.2 != .cell && y.2 != .free) || (cl.lookup y.1).isSome) = true)
    (cap : caps.all (fun c => X.N[c.2]? == some c.1 && X.env.scope.names.lookup c.1 == some .cell && (relabel scope X.env).names.lookup c.1 == some .cell) = true) : CompS X scope cl tgs caps where
  kind := k
  nocell := fun y hy e => by
    have z := List.all_eq_true.mp c y hy
    rw [e] at z; exact absurd z (by decide)
  locs := fun y hy e => by
    have z := List.all_eq_true.mp l y hy
    rw [e] at z
    simpa using z
  clos := clos
  sub := fun x c e => subAll_mem sub (x, c) (PySem.mem_of_lookup e)
  has := fun x e => by
    rcases e with e | e
    · have z := List.all_eq_true.mp has _ (PySem.mem_of_lookup e)
      exact Option.isSome_iff_exists.mp (by simpa using z)
    · have z := List.all_eq_true.mp has _ (PySem.mem_of_lookup e)
      exact Option.isSome_iff_exists.mp (by simpa using z)
  cap := fun c hc => by
    have z := List.all_eq_true.mp cap c hc
    simp only [Bool.and_eq_true, beq_iff_eq] at z
    exact ⟨z.1.1, z.1.2, z.2⟩
end L3

namespace L3
open PySem PySem.Spec PyProof.Rows PySem.Calls L2
theorem intsAre_vals : ∀ {ns : List Int} {vs : List Value}, Vals (ns.map V.int) vs → IntsAre vs ns
  | [], _, .nil => .nil
  | n :: ns, _, .cons r t => by
    obtain ⟨u, rfl⟩ := r
    exact .cons n u (intsAre_vals t)
section
variable {X : Cx}
end
end L3
namespace L3
open PySem L2
/-- a comprehension without a test -/
def tYes : TT := fun _ H Q => Q true H
theorem yesT {i : Nat} {v : V} {σ : L2.St} {H : Hp} {A B : L2.St → Hp → Prop} (h : A (σ.set i (some v)) H) : gName i v σ H fun σ2 H3 => tYes σ2 H3 fun b H4 => if b = true then A σ2 H4 else B σ2 H4 := by
  show if true = true then A (σ.set i (some v)) H else B (σ.set i (some v)) H
  exact iteT h
theorem iteD {c A B : Prop} [Decidable c] (hc : ¬ c) (h : B) : if decide c = true then A else B := by
  rw [decide_eq_false hc]; exact iteF h
theorem iteDT {c A B : Prop} [Decidable c] (hc : c) (h : A) : if decide c = true then A else B := by
  rw [decide_eq_true hc]; exact iteT h
end L3
namespace Ma
open PySem L2 L3
theorem eqv_ln (l m : Ln) : PyData.eqv (ln l) (ln m) = decide (l = m) := by
  unfold ln
  rw [eqv_ints]
  by_cases h : l = m
  · subst h; simp
  · have : ¬ [l.a, l.b, l.c] = [m.a, m.b, m.c] := fun z => h (by
      cases l; cases m
      simp only [List.cons.injEq, and_true] at z
      obtain ⟨z1, z2, z3⟩ := z
      subst z1 z2 z3; rfl)
    rw [decide_eq_false this, decide_eq_false h]
theorem shp_ln (l : Ln) : shp (ln l) = true := shp_ints _
theorem nol_ln (l : Ln) : nol (ln l) = true := nol_ints _
end Ma

namespace Ma
/-! ### two lines -/
/-- a fraction's parts, in lowest terms -/
theorem frac_parts {t b : Int} (h : b ≠ 0) : ∃ x y, frac t b = [x, y] ∧ 0 < y ∧ x * b = t * y ∧ y ≤ b.natAbs ∧ Int.gcd x y = 1 := by
  have g0 := gc_pos (t := t) h
  obtain ⟨k, hk⟩ := gc_l t b
  obtain ⟨j, hj⟩ := gc_r t b
  have e1 : t / gc t b = k := by
    calc t / gc t b = (gc t b * k) / gc t b := by rw [← hk]
      _ = k := Int.mul_ediv_cancel_left _ (by omega)
  have e2 : b / gc t b = j := by
    calc b / gc t b = (gc t b * j) / gc t b := by rw [← hj]
      _ = j := Int.mul_ediv_cancel_left _ (by omega)
  have co : Int.gcd k j = 1 := by
    rw [← e1, ← e2]
    exact Int.gcd_ediv_gcd_ediv_gcd (by unfold gc at g0; omega)
  have j0 : j ≠ 0 := fun z => h (by rw [hj, z, Int.mul_zero])
  have hab : j.natAbs ≤ b.natAbs := by
    have e3 : b.natAbs = (gc t b).natAbs * j.natAbs := by rw [← Int.natAbs_mul, ← hj]
    rw [e3]
    exact Nat.le_mul_of_pos_left _ (by omega)
  unfold frac
  generalize gc t b = g at *
  by_cases c : b < 0
  · rw [if_pos c]
    have jn : j < 0 := by
      rcases Int.lt_or_le j 0 with z | z
      · exact z
      · have := Int.mul_nonneg (Int.le_of_lt g0) z; omega
    refine ⟨-k, -j, by rw [← e1, ← e2], by omega, ?_, by omega, by rw [Int.gcd_neg, Int.neg_gcd]; exact co⟩
    rw [hk, hj]; grind
  · rw [if_neg c]
    have jp : 0 < j := by
      rcases Int.lt_or_le j 0 with z | z
      · have := Int.mul_neg_of_pos_of_neg g0 z; omega
      · omega
    refine ⟨k, j, by rw [← e1, ← e2], jp, ?_, by omega, co⟩
    rw [hk, hj]; grind
end Ma

namespace Tw
open PySem L2 L3
def spGcd : Sp := fun vs H Q _ => ∃ a b : Int, vs = [.int a, .int b] ∧ Q (.int ((Int.gcd a b : Nat) : Int)) H
def spLineT (K : PySem.W.Frag) : Sp := fun vs H Q _ => ∃ (u v : V) (p q : Ma.Pt), vs = [u, v] ∧ Den K H (Ma.pt p) u ∧ Den K H (Ma.pt q) v ∧ p ≠ q ∧ Ma.InB p ∧ Ma.InB q ∧
  ∀ r H', Same H H' → H' r = some (.tup [.int (Ma.lineOf p q).a, .int (Ma.lineOf p q).b, .int (Ma.lineOf p q).c]) → Q (.ref r) H'
theorem pt_of {K : PySem.W.Frag} {H : Hp} {p : Ma.Pt} {v : V} (h : Den K H (Ma.pt p) v) : ∃ a, v = .ref a ∧ SqT K H a [.int p.1, .int p.2] := by
  obtain ⟨a, xs, rfl, h1, h2⟩ := h.tup_of
  obtain ⟨x, y, rfl, h3, h4⟩ := h2.two
  rw [h3.int_of, h4.int_of] at h1
  exact ⟨a, rfl, h1⟩
theorem ln_of {K : PySem.W.Frag} {H : Hp} {l : Ma.Ln} {v : V} (h : Den K H (Ma.ln l) v) : ∃ a, v = .ref a ∧ SqT K H a [.int l.a, .int l.b, .int l.c] := by
  obtain ⟨a, xs, rfl, h1, h2⟩ := h.tup_of
  rw [dens_ints_of (ms := [l.a, l.b, l.c]) h2] at h1
  exact ⟨a, rfl, h1⟩
theorem tupNt {H0 H : Hp} {Q : VK} {ms : List Int} {l : Ma.Ln} (hs : Same H0 H) (q : ∀ r H', Same H0 H' → H' r = some (.tup [.int l.a, .int l.b, .int l.c]) → Q (.ref r) H') (e : Ma.ln l = itup ms) (hl : ms.length ≤ 1000) :
    (ms.map V.int).length ≤ sizeLine ∧ ∀ r, H r = none → Q (.ref r) (upd H r (.tup (ms.map V.int))) := by
  refine ⟨by rw [List.length_map]; exact Nat.le_of_lt (small1000 hl), fun r hr => q _ _ (hs.trans (same_new hr _)) ?_⟩
  have e2 : [l.a, l.b, l.c].map V.int = ms.map V.int := by
    unfold Ma.ln itup at e
    injection e with e
    have inj : ∀ a b : List Int, a.map PyData.int = b.map PyData.int → a = b := by
      intro a
      induction a with
      | nil => intro b h; cases b with
        | nil => rfl
        | cons _ _ => simp at h
      | cons x a ih => intro b h; cases b with
        | nil => simp at h
        | cons y b =>
          simp only [List.map_cons, List.cons.injEq, PyData.int.injEq] at h
          rw [h.1, ih b h.2]
    rw [inj _ _ e]
  rw [← e2]; exact upd_same
def spOn (K : PySem.W.Frag) : Sp := fun vs H Q _ => ∃ (u v : V) (l : Ma.Ln) (p : Ma.Pt), vs = [u, v] ∧ Den K H (Ma.ln l) u ∧ Den K H (Ma.pt p) v ∧ Ma.LB l ∧ Ma.InB p ∧ Q (.bl (decide (Ma.On l p))) H
def spGap (K : PySem.W.Frag) : Sp := fun vs H Q _ => ∃ (u v : V) (l : Ma.Ln) (p : Ma.Pt), vs = [u, v] ∧ Den K H (Ma.ln l) u ∧ Den K H (Ma.pt p) v ∧ Ma.LB l ∧ Ma.Up l.a l.b ∧ Ma.InB p ∧ ∀ r H', Same H H' → Den K H' (itup (Ma.gapOf l p)) r → Q r H'
theorem nn_200 {l : Ma.Ln} (L : Ma.LB l) : Ma.nn l < 2 ^ 200 := by
  have := Ma.nn_bd L
  have : (8000000000000 : Int) < 2 ^ 200 := by decide
  omega
/-- the line through two points; one point twice is refused with the class at cS -/
def spLineOf (K : PySem.W.Frag) (cS : Addr) : Sp := fun vs H Q E => ∃ (u v : V) (p q : Ma.Pt), vs = [u, v] ∧ Den K H (Ma.pt p) u ∧ Den K H (Ma.pt q) v ∧ Ma.InB p ∧ Ma.InB q ∧
  (p ≠ q → ∀ r H', Same H H' → Den K H' (Ma.ln (Ma.lineOf p q)) r → Q r H') ∧ (p = q → E (.ref cS) none H)
end Tw

namespace Ma
/-! ### the least gap: its line has just two of the points on it -/
/-- the place along a line's direction -/
def tc (l : Ln) (p : Pt) : Int := l.a * p.2 - l.b * p.1
end Ma

namespace Ma
/-! ### the points' lines -/
def IsL (ps : List Pt) (l : Ln) : Prop := ∃ p ∈ ps, ∃ q ∈ ps, p ≠ q ∧ l = lineOf p q
def Col (ps : List Pt) : Prop := ∃ l : Ln, Told l ∧ ∀ p ∈ ps, On l p
theorem IsL.told {ps : List Pt} {l : Ln} (h : IsL ps l) : Told l := by
  obtain ⟨p, _, q, _, ne, rfl⟩ := h; exact lineOf_told ne
/-! ### lists without a member twice -/
theorem sub_len {α : Type} [DecidableEq α] : ∀ {l m : List α}, l.Nodup → (∀ x ∈ l, x ∈ m) → l.length ≤ m.length
  | [], m, _, _ => Nat.zero_le _
  | x :: l, m, nd, s => by
    have hx : x ∈ m := s x (by simp)
    have nd' := List.nodup_cons.mp nd
    have := sub_len (m := m.erase x) nd'.2 fun y hy => by
      have ne : y ≠ x := fun z => nd'.1 (z ▸ hy)
      exact (List.mem_erase_of_ne ne).mpr (s y (List.mem_cons_of_mem _ hy))
    rw [List.length_erase_of_mem hx] at this
    have h0 : 0 < m.length := List.length_pos_of_mem hx
    simp only [List.length_cons]; omega
/-! ### of three numbers two are so -/
/-- the gap of (m, q) is less than that of (l, p) -/
def GLt (m : Ln) (q : Pt) (l : Ln) (p : Pt) : Prop := off m q * off m q * nn l < off l p * off l p * nn m
instance (m : Ln) (q : Pt) (l : Ln) (p : Pt) : Decidable (GLt m q l p) := inferInstanceAs (Decidable (_ < _))
/-! ### a least one is there -/
/-! ### at least as many lines as points -/
end Ma

namespace TS
open PySem PyProof.Rows

/-- the rank at a place -/
def R (rk : Keyed → Int) (xs : Array Keyed) (i : Nat) : Int := match xs[i]? with
  | some p => rk p
  | none => 0
theorem R_congr {rk : Keyed → Int} {xs ys : Array Keyed} {i j : Nat} (h : xs[i]? = ys[j]?) : R rk xs i = R rk ys j := by unfold R; rw [h]
/-- rising from a to b -/
def Srt (rk : Keyed → Int) (xs : Array Keyed) (a b : Nat) : Prop := ∀ i j, a ≤ i → i ≤ j → j < b → R rk xs i ≤ R rk xs j
def Fal (rk : Keyed → Int) (xs : Array Keyed) (a b : Nat) : Prop := ∀ i j, a ≤ i → i ≤ j → j < b → R rk xs j ≤ R rk xs i
def AllG (G : Keyed → Prop) (xs : Array Keyed) : Prop := ∀ p ∈ xs.toList, G p
theorem AllG.at {G : Keyed → Prop} {xs : Array Keyed} (h : AllG G xs) {i : Nat} {p : Keyed} (e : xs[i]? = some p) : G p := by
  refine h p ?_
  have := Array.mem_of_getElem? e
  exact Array.mem_toList_iff.mpr this
theorem AllG.perm {G : Keyed → Prop} {xs ys : Array Keyed} (h : AllG G xs) (p : ys.Perm xs) : AllG G ys := fun x hx =>
  h x ((Array.perm_iff_toList_perm.mp p).mem_iff.mp hx)
theorem get_of_lt {xs : Array Keyed} {i : Nat} (h : i < xs.size) : ∃ p, xs[i]? = some p := ⟨xs[i], getElem?_pos xs i h⟩
theorem R_some {rk : Keyed → Int} {xs : Array Keyed} {i : Nat} {p : Keyed} (e : xs[i]? = some p) : R rk xs i = rk p := by unfold R; rw [e]

structure Cm (prog : Program) (w : World) (A : Around) (E : Value → Shared → Prop) (s : Shared) (κ : SortKind) (G : Keyed → Prop) (rk : Keyed → Int) : Prop where
  lt : ∀ (x y : Keyed) (st : SortSt) (Q : Option Bool → SortSt → Prop), G x → G y → kindOf st = κ → Q (some (decide (rk x < rk y))) st → wpS (model prog w) A E s (lt' x y) Q st
/-- the state's fixed part -/
structure B (κ : SortKind) (a₀ : Array Keyed) (st : SortSt) : Prop where
  perm : (arrOf st).Perm a₀
  kind : kindOf st = κ
  failed : failedOf st = none
theorem B.size {κ : SortKind} {a₀ : Array Keyed} {st : SortSt} (h : B κ a₀ st) : (arrOf st).size = a₀.size := h.perm.size_eq
theorem B.setArr {κ : SortKind} {a₀ : Array Keyed} {st : SortSt} (h : B κ a₀ st) {xs : Array Keyed} (hp : xs.Perm (arrOf st)) : B κ a₀ (setArr st xs) := ⟨hp.trans h.perm, h.kind, h.failed⟩

section
variable {prog : Program} {w : World} {A : Around} {E : Value → Shared → Prop} {s : Shared} {κ : SortKind} {G : Keyed → Prop} {rk : Keyed → Int} {a₀ : Array Keyed}
theorem ltAt {st : SortSt} {i j : Nat} {Q : Option Bool → SortSt → Prop} (C : Cm prog w A E s κ G rk) (g0 : AllG G a₀) (hB : B κ a₀ st) (hi : i < a₀.size) (hj : j < a₀.size)
    (h : Q (some (decide (R rk (arrOf st) i < R rk (arrOf st) j))) st) : wpS (model prog w) A E s (ltAt' i j) Q st := by
  have hg := g0.perm hB.perm
  obtain ⟨x, e1⟩ := get_of_lt (xs := arrOf st) (i := i) (by rw [hB.size]; exact hi)
  obtain ⟨y, e2⟩ := get_of_lt (xs := arrOf st) (i := j) (by rw [hB.size]; exact hj)
  rw [R_some e1, R_some e2] at h
  rw [ltAt'_eq]
  refine wpS_bind (wpS_get ?_)
  show wpS _ _ _ _ (do let x ← elem' (arrOf st) i; let y ← elem' (arrOf st) j; lt' x y) Q st
  rw [elem'_eq, elem'_eq, e1, e2]
  refine wpS_bind (wpS_pure (wpS_bind (wpS_pure ?_)))
  exact C.lt x y st Q (hg.at e1) (hg.at e2) hB.kind h
theorem reverse {st : SortSt} {i j : Nat} {Q : Unit → SortSt → Prop} (h : Q () (setArr st (mirror (arrOf st) i j ((j - i) / 2)))) :
    wpS (model prog w) A E s (reverseSlice' i j) Q st := by
  rw [reverseSlice'_eq]; exact wpS_modify h
theorem R_mirror {xs : Array Keyed} {i j : Nat} (hj : j ≤ xs.size) (k : Nat) :
    R rk (mirror xs i j ((j - i) / 2)) k = if i ≤ k ∧ k < j then R rk xs (i + j - 1 - k) else R rk xs k := by
  have e := getElem?_mirror_all (i := i) hj k
  by_cases h1 : i ≤ k ∧ k < j
  · rw [if_pos h1] at e ⊢; exact R_congr e
  · rw [if_neg h1] at e ⊢; exact R_congr e
theorem R_bubble {xs : Array Keyed} {src d : Nat} (hs : src < xs.size) (hd : d ≤ src) (k : Nat) :
    R rk (bubble xs src d) k = if k = src - d then R rk xs src else if src - d < k ∧ k ≤ src then R rk xs (k - 1) else R rk xs k := by
  have e := getElem?_bubble hs d hd k
  by_cases h1 : k = src - d
  · rw [if_pos h1] at e ⊢; exact R_congr e
  · rw [if_neg h1] at e ⊢
    by_cases h2 : src - d < k ∧ k ≤ src
    · rw [if_pos h2] at e ⊢; exact R_congr e
    · rw [if_neg h2] at e ⊢; exact R_congr e
/-- what lies ahead of lo stays -/
def Ahead (lo : Nat) (xs ys : Array Keyed) : Prop := ∀ k, k < lo → ys[k]? = xs[k]?
theorem Ahead.refl {lo : Nat} {xs : Array Keyed} : Ahead lo xs xs := fun _ _ => rfl
theorem Ahead.trans {lo : Nat} {xs ys zs : Array Keyed} (h1 : Ahead lo xs ys) (h2 : Ahead lo ys zs) : Ahead lo xs zs := fun k hk => (h2 k hk).trans (h1 k hk)
theorem ahead_mirror {lo i j : Nat} {xs : Array Keyed} (h : lo ≤ i) (hj : j ≤ xs.size) : Ahead lo xs (mirror xs i j ((j - i) / 2)) := fun k hk => by
  rw [getElem?_mirror_all hj, if_neg (by omega)]
theorem ahead_bubble {lo src d : Nat} {xs : Array Keyed} (hs : src < xs.size) (h : lo + d ≤ src) : Ahead lo xs (bubble xs src d) := fun k hk => by
  rw [getElem?_bubble hs d (by omega), if_neg (by omega), if_neg (by omega)]

/-! ### binary insertion -/
theorem binarySort {st : SortSt} {lo n ok : Nat} {Q : Bool → SortSt → Prop} (C : Cm prog w A E s κ G rk) (g0 : AllG G a₀) (hn : lo + n ≤ a₀.size) (hok : ok ≤ n) (hB : B κ a₀ st) (hs : Srt rk (arrOf st) lo (lo + ok))
    (h : ∀ sv, B κ a₀ sv → pendingOf sv = pendingOf st → Ahead lo (arrOf st) (arrOf sv) → Srt rk (arrOf sv) lo (lo + n) → Q true sv) : wpS (model prog w) A E s (binarySort' lo n ok) Q st := by
  rw [binarySort'_eq]
  refine wpS_bind (wpS_mono (wpS_forRange (I := fun k c sv => c = (none, ()) ∧ B κ a₀ sv ∧ pendingOf sv = pendingOf st ∧ Ahead lo (arrOf st) (arrOf sv) ∧ Srt rk (arrOf sv) lo (lo + min k n))
    (Q := fun c sv => c = (none, ()) ∧ B κ a₀ sv ∧ pendingOf sv = pendingOf st ∧ Ahead lo (arrOf st) (arrOf sv) ∧ Srt rk (arrOf sv) lo (lo + n)) ?turn1 ?stop1 ?from1) ?then1)
  case then1 =>
    rintro c sv ⟨rfl, b1, p1, w1, s1⟩
    exact wpS_pure (h sv b1 p1 w1 s1)
  case from1 =>
    refine ⟨rfl, hB, rfl, Ahead.refl, fun i j ha hij hj => ?_⟩
    by_cases h1 : ok = 0
    · have : i = j := by omega
      subst this; exact Int.le_refl _
    · exact hs i j ha hij (by omega)
  case stop1 =>
    rintro c sv ⟨hc, b1, p1, w1, s1⟩
    refine ⟨hc, b1, p1, w1, ?_⟩
    rwa [show min (max (max ok 1) n) n = n by omega] at s1
  case turn1 =>
    rintro k c sv k1 k2 ⟨rfl, b1, p1, w1, s1⟩
    rw [show min k n = k by omega] at s1
    have hk : lo + k < a₀.size := by omega
    refine wpS_bind (wpS_mono (wpS_forRange (I := fun x c su => su = sv ∧ ∃ l r, c = (none, l, r) ∧ l ≤ r ∧ r ≤ k ∧ r - l ≤ k - x ∧
        (∀ i, i < l → R rk (arrOf sv) (lo + i) ≤ R rk (arrOf sv) (lo + k)) ∧ (∀ i, r ≤ i → i < k → R rk (arrOf sv) (lo + k) < R rk (arrOf sv) (lo + i)))
      (Q := fun c su => su = sv ∧ ∃ l r, c = (none, l, r) ∧ l ≤ k ∧
        (∀ i, i < l → R rk (arrOf sv) (lo + i) ≤ R rk (arrOf sv) (lo + k)) ∧ (∀ i, l ≤ i → i < k → R rk (arrOf sv) (lo + k) < R rk (arrOf sv) (lo + i))) ?turn2 ?stop2 ?from2) ?then2)
    case from2 => exact ⟨rfl, 0, k, rfl, by omega, by omega, by omega, fun i hi => by omega, fun i h1 h2 => by omega⟩
    case stop2 =>
      rintro c su ⟨rfl, l, r, rfl, e1, e2, e3, e4, e5⟩
      have : l = r := by omega
      subst this
      exact ⟨rfl, l, l, rfl, e2, e4, e5⟩
    case turn2 =>
      rintro x c su _ xk ⟨rfl, l, r, rfl, e1, e2, e3, e4, e5⟩
      dsimp only
      by_cases c1 : l ≥ r
      · rw [if_pos c1]
        have : l = r := by omega
        subst this
        exact wpS_pure ⟨rfl, l, l, rfl, e2, e4, e5⟩
      · rw [if_neg c1]
        refine wpS_bind (ltAt C g0 b1 hk (by omega) ?_)
        by_cases c2 : R rk (arrOf su) (lo + k) < R rk (arrOf su) (lo + (l + r) / 2)
        · simp only [c2, decide_true, if_true]
          refine wpS_pure ⟨rfl, l, (l + r) / 2, rfl, by omega, by omega, by omega, e4, fun i h1 h2 => ?_⟩
          exact Int.lt_of_lt_of_le c2 (s1 _ _ (by omega) (by omega) (by omega))
        · simp only [c2, decide_false, Bool.false_eq_true, if_false]
          refine wpS_pure ⟨rfl, (l + r) / 2 + 1, r, rfl, by omega, by omega, by omega, fun i h1 => ?_, e5⟩
          exact Int.le_trans (s1 (lo + i) (lo + (l + r) / 2) (by omega) (by omega) (by omega)) (Int.not_lt.mp c2)
    case then2 =>
      rintro c su ⟨rfl, l, r, rfl, e6, e4, e5⟩
      show wpS _ _ _ _ (do moveDown' (lo + k) (lo + l); pure (ForInStep.yield (none, ()))) _ _
      rw [moveDown'_eq]
      have hz : lo + k < (arrOf su).size := by rw [b1.size]; exact hk
      refine wpS_bind (wpS_modify (wpS_pure ⟨rfl, b1.setArr (bubble_perm _ _ _), p1, w1.trans (ahead_bubble hz (by omega)), ?_⟩))
      rw [show min (k + 1) n = k + 1 by omega]
      intro i j hai hij hj
      show R rk (bubble (arrOf su) (lo + k) (lo + k - (lo + l))) i ≤ R rk (bubble (arrOf su) (lo + k) (lo + k - (lo + l))) j
      rw [R_bubble hz (by omega), R_bubble hz (by omega), show lo + k - (lo + k - (lo + l)) = lo + l by omega]
      have f4 : ∀ i, lo ≤ i → i < lo + l → R rk (arrOf su) i ≤ R rk (arrOf su) (lo + k) := fun i h1 h2 => by
        have := e4 (i - lo) (by omega); rwa [show lo + (i - lo) = i by omega] at this
      have f5 : ∀ i, lo + l ≤ i → i < lo + k → R rk (arrOf su) (lo + k) < R rk (arrOf su) i := fun i h1 h2 => by
        have := e5 (i - lo) (by omega) (by omega); rwa [show lo + (i - lo) = i by omega] at this
      repeat' split
      all_goals first
        | (exfalso; omega)
        | exact Int.le_refl _
        | exact f4 _ (by omega) (by omega)
        | exact Int.le_of_lt (f5 _ (by omega) (by omega))
        | exact s1 _ _ (by omega) (by omega) (by omega)
end
end TS

namespace TS
open PySem PyProof.Rows
/-- a run that rises on -/
def upP (lo n0 nrem : Nat) : StateT SortSt Sem (Option Nat) := do
  let mut m := n0
  for _ in [m:nrem] do
    let some falls ← ltAt' (lo + m) (lo + m - 1) | return none
    if falls then break
    m := m + 1
  return some m
/-- a run that falls, turned round -/
def downP (lo n0 nrem : Nat) : StateT SortSt Sem (Option Nat) := do
  rule "list.sort.descending-run"
  let mut m := n0
  let mut same := 0
  for _ in [m:nrem] do
    let some falls ← ltAt' (lo + m) (lo + m - 1) | return none
    if falls then
      if same > 0 then reverseSlice' (lo + m - (same + 1)) (lo + m)
      same := 0
    else
      let some rises ← ltAt' (lo + m - 1) (lo + m) | return none
      if rises then break
      same := same + 1
    m := m + 1
  if same > 0 then reverseSlice' (lo + m - (same + 1)) (lo + m)
  reverseSlice' lo (lo + m)
  for _ in [m:nrem] do
    let some falls ← ltAt' (lo + m) (lo + m - 1) | return none
    if falls then break
    m := m + 1
  return some m
section
variable {prog : Program} {w : World} {A : Around} {E : Value → Shared → Prop} {s : Shared} {κ : SortKind} {G : Keyed → Prop} {rk : Keyed → Int} {a₀ : Array Keyed}
theorem srt_step {xs : Array Keyed} {lo x : Nat} (hs : Srt rk xs lo (lo + x)) (hx : 1 ≤ x) (h : ¬ R rk xs (lo + x) < R rk xs (lo + x - 1)) : Srt rk xs lo (lo + (x + 1)) := fun i j ha hij hj => by
  by_cases e : j < lo + x
  · exact hs i j ha hij e
  · have ej : j = lo + x := by omega
    subst ej
    by_cases ei : i = lo + x
    · rw [ei]; exact Int.le_refl _
    · have := hs i (lo + x - 1) ha (by omega) (by omega); omega
theorem fal_step {xs : Array Keyed} {lo x : Nat} (hs : Fal rk xs lo (lo + x)) (hx : 1 ≤ x) (h : ¬ R rk xs (lo + x - 1) < R rk xs (lo + x)) : Fal rk xs lo (lo + (x + 1)) := fun i j ha hij hj => by
  by_cases e : j < lo + x
  · exact hs i j ha hij e
  · have ej : j = lo + x := by omega
    subst ej
    by_cases ei : i = lo + x
    · rw [ei]; exact Int.le_refl _
    · have := hs i (lo + x - 1) ha (by omega) (by omega); omega
theorem up_ok {st : SortSt} {lo n nrem : Nat} {Q : Option Nat → SortSt → Prop} (C : Cm prog w A E s κ G rk) (g0 : AllG G a₀) (h1 : 1 ≤ n) (hnn : n ≤ nrem) (hn : lo + nrem ≤ a₀.size) (hB : B κ a₀ st) (hs : Srt rk (arrOf st) lo (lo + n))
    (h : ∀ m, n ≤ m → m ≤ nrem → Srt rk (arrOf st) lo (lo + m) → Q (some m) st) : wpS (model prog w) A E s (upP lo n nrem) Q st := by
  unfold upP
  refine wpS_bind (wpS_mono (wpS_forRange (I := fun x c st' => st' = st ∧ c = (none, x) ∧ Srt rk (arrOf st) lo (lo + x))
    (Q := fun c st' => st' = st ∧ ∃ x, c = (none, x) ∧ n ≤ x ∧ x ≤ nrem ∧ Srt rk (arrOf st) lo (lo + x)) ?step ?fin ⟨rfl, rfl, hs⟩) ?post)
  case fin =>
    rintro c st' ⟨e1, e2, e3⟩
    exact ⟨e1, _, e2, by omega, by omega, e3⟩
  case step =>
    rintro x c st' hax hxn ⟨rfl, rfl, hs'⟩
    dsimp only
    refine wpS_bind (ltAt C g0 hB (by omega) (by omega) ?_)
    dsimp only
    by_cases c1 : R rk (arrOf st') (lo + x) < R rk (arrOf st') (lo + x - 1)
    · rw [if_pos (decide_eq_true c1)]
      exact wpS_pure ⟨rfl, x, rfl, hax, by omega, hs'⟩
    · rw [if_neg (by simpa using c1)]
      exact wpS_pure ⟨rfl, rfl, srt_step hs' (by omega) c1⟩
  case post =>
    rintro c st' ⟨rfl, x, rfl, e1, e2, e3⟩
    exact wpS_pure (h x e1 e2 e3)
/-- an equal stretch turned round is as it was -/
theorem R_turn {xs : Array Keyed} {i j : Nat} (hj : j ≤ xs.size) (h : ∀ k, i ≤ k → k < j → R rk xs k = R rk xs (j - 1)) (k : Nat) : R rk (mirror xs i j ((j - i) / 2)) k = R rk xs k := by
  rw [R_mirror hj]
  split
  · rw [h _ (by omega) (by omega), h k (by omega) (by omega)]
  · rfl
theorem fal_turn {xs : Array Keyed} {lo n : Nat} (hn : lo + n ≤ xs.size) (hs : Fal rk xs lo (lo + n)) : Srt rk (mirror xs lo (lo + n) ((lo + n - lo) / 2)) lo (lo + n) := fun i j ha hij hj => by
  rw [R_mirror hn, R_mirror hn, if_pos (by omega), if_pos (by omega)]
  exact hs _ _ (by omega) (by omega) (by omega)
theorem fal_same {xs ys : Array Keyed} {a b : Nat} (h : ∀ k, R rk ys k = R rk xs k) (hs : Fal rk xs a b) : Fal rk ys a b := fun i j ha hij hj => by rw [h, h]; exact hs i j ha hij hj
theorem turned_up {st : SortSt} {lo n nrem : Nat} {Q : Option Nat → SortSt → Prop} (C : Cm prog w A E s κ G rk) (g0 : AllG G a₀) (h1 : 1 ≤ n) (hnn : n ≤ nrem) (hn : lo + nrem ≤ a₀.size) (hB : B κ a₀ st) (hs : Fal rk (arrOf st) lo (lo + n))
    (h : ∀ m st', 1 ≤ m → m ≤ nrem → B κ a₀ st' → pendingOf st' = pendingOf st → Ahead lo (arrOf st) (arrOf st') → Srt rk (arrOf st') lo (lo + m) → Q (some m) st') :
    wpS (model prog w) A E s (do reverseSlice' lo (lo + n); upP lo n nrem) Q st := by
  have hz := hB.size
  refine wpS_bind (reverse ?_)
  exact up_ok C g0 h1 hnn hn (hB.setArr (mirror_perm _ _ _ _)) (fal_turn (by omega) hs) fun m e1 e2 e3 => h m _ (by omega) e2 (hB.setArr (mirror_perm _ _ _ _)) rfl (ahead_mirror (Nat.le_refl _) (by omega)) e3
theorem down_ok {st : SortSt} {lo n nrem : Nat} {Q : Option Nat → SortSt → Prop} (C : Cm prog w A E s κ G rk) (g0 : AllG G a₀) (h1 : 1 ≤ n) (hnn : n ≤ nrem) (hn : lo + nrem ≤ a₀.size) (hB : B κ a₀ st) (hs : Fal rk (arrOf st) lo (lo + n))
    (h : ∀ m st', 1 ≤ m → m ≤ nrem → B κ a₀ st' → pendingOf st' = pendingOf st → Ahead lo (arrOf st) (arrOf st') → Srt rk (arrOf st') lo (lo + m) → Q (some m) st') :
    wpS (model prog w) A E s (downP lo n nrem) Q st := by
  unfold downP
  refine wpS_bind (wpS_lift (wpAny_rule ⟨rfl, ?_⟩))
  refine wpS_bind (wpS_mono (wpS_forRange (I := fun x c st' => ∃ q, c = (none, x, q) ∧ q + 1 ≤ x ∧ B κ a₀ st' ∧ pendingOf st' = pendingOf st ∧ Ahead lo (arrOf st) (arrOf st') ∧ Fal rk (arrOf st') lo (lo + x) ∧ ∀ k, lo + x - (q + 1) ≤ k → k < lo + x → R rk (arrOf st') k = R rk (arrOf st') (lo + x - 1))
    (Q := fun c st' => ∃ x q, c = (none, x, q) ∧ n ≤ x ∧ x ≤ nrem ∧ q + 1 ≤ x ∧ B κ a₀ st' ∧ pendingOf st' = pendingOf st ∧ Ahead lo (arrOf st) (arrOf st') ∧ Fal rk (arrOf st') lo (lo + x) ∧ ∀ k, lo + x - (q + 1) ≤ k → k < lo + x → R rk (arrOf st') k = R rk (arrOf st') (lo + x - 1)) ?step ?fin ?init) ?post)
  case init => exact ⟨0, rfl, by omega, hB, rfl, Ahead.refl, hs, fun k a b => by rw [show k = lo + n - 1 by omega]⟩
  case fin =>
    rintro c st' ⟨q, rfl, e⟩
    exact ⟨_, q, rfl, by omega, by omega, e⟩
  case step =>
    rintro x c st' hax hxn ⟨q, rfl, hq, hB', hp', ha', hf', he'⟩
    have hz := hB'.size
    dsimp only
    refine wpS_bind (ltAt C g0 hB' (by omega) (by omega) ?_)
    dsimp only
    by_cases c1 : R rk (arrOf st') (lo + x) < R rk (arrOf st') (lo + x - 1)
    · rw [if_pos (decide_eq_true c1)]
      have f1 : Fal rk (arrOf st') lo (lo + (x + 1)) := fal_step hf' (by omega) (by omega)
      by_cases c2 : q > 0
      · rw [if_pos c2]
        refine wpS_bind (reverse ?_)
        have eR : ∀ k, R rk (mirror (arrOf st') (lo + x - (q + 1)) (lo + x) ((lo + x - (lo + x - (q + 1))) / 2)) k = R rk (arrOf st') k := R_turn (by omega) he'
        exact wpS_pure ⟨0, rfl, by omega, hB'.setArr (mirror_perm _ _ _ _), hp', ha'.trans (ahead_mirror (by omega) (by omega)), fal_same eR f1, fun k a b => by rw [show k = lo + (x + 1) - 1 by omega]⟩
      · rw [if_neg c2]
        exact wpS_pure ⟨0, rfl, by omega, hB', hp', ha', f1, fun k a b => by rw [show k = lo + (x + 1) - 1 by omega]⟩
    · rw [if_neg (by simpa using c1)]
      refine wpS_bind (ltAt C g0 hB' (by omega) (by omega) ?_)
      dsimp only
      by_cases c2 : R rk (arrOf st') (lo + x - 1) < R rk (arrOf st') (lo + x)
      · rw [if_pos (decide_eq_true c2)]
        exact wpS_pure ⟨x, q, rfl, hax, by omega, hq, hB', hp', ha', hf', he'⟩
      · rw [if_neg (by simpa using c2)]
        refine wpS_pure ⟨q + 1, rfl, by omega, hB', hp', ha', fal_step hf' (by omega) c2, fun k a b => ?_⟩
        have e0 : R rk (arrOf st') (lo + x) = R rk (arrOf st') (lo + x - 1) := by omega
        rw [show lo + (x + 1) - 1 = lo + x by omega]
        by_cases ek : k = lo + x
        · rw [ek]
        · rw [e0]; exact he' k (by omega) (by omega)
  case post =>
    rintro c st' ⟨x, q, rfl, e1, e2, hq, hB', hp', ha', hf', he'⟩
    have hz := hB'.size
    dsimp only
    by_cases c2 : q > 0
    · rw [if_pos c2]
      refine wpS_bind (reverse ?_)
      have eR : ∀ k, R rk (mirror (arrOf st') (lo + x - (q + 1)) (lo + x) ((lo + x - (lo + x - (q + 1))) / 2)) k = R rk (arrOf st') k := R_turn (by omega) he'
      exact turned_up C g0 (by omega) e2 hn (hB'.setArr (mirror_perm _ _ _ _)) (fal_same eR hf') fun m st2 a b c d e f => h m st2 a b c (d.trans hp') ((ha'.trans (ahead_mirror (by omega) (by omega))).trans e) f
    · rw [if_neg c2]
      exact turned_up C g0 (by omega) e2 hn hB' hf' fun m st2 a b c d e f => h m st2 a b c (d.trans hp') (ha'.trans e) f
theorem countRun {st : SortSt} {lo nrem : Nat} {Q : Option Nat → SortSt → Prop} (C : Cm prog w A E s κ G rk) (g0 : AllG G a₀) (h1 : 1 ≤ nrem) (hn : lo + nrem ≤ a₀.size) (hB : B κ a₀ st)
    (h : ∀ m st', 1 ≤ m → m ≤ nrem → B κ a₀ st' → pendingOf st' = pendingOf st → Ahead lo (arrOf st) (arrOf st') → Srt rk (arrOf st') lo (lo + m) → Q (some m) st') : wpS (model prog w) A E s (countRun' lo nrem) Q st := by
  rw [countRun'_eq]
  have hz := hB.size
  refine wpS_bind (wpS_mono (wpS_forRange (I := fun x c st' => st' = st ∧ c = (none, x) ∧ Srt rk (arrOf st) lo (lo + x))
    (Q := fun c st' => st' = st ∧ ∃ x, c = (none, x) ∧ 1 ≤ x ∧ x ≤ nrem ∧ Srt rk (arrOf st) lo (lo + x) ∧ (x < nrem → R rk (arrOf st) (lo + x) < R rk (arrOf st) (lo + x - 1))) ?step ?fin ?init) ?post)
  case init => exact ⟨rfl, rfl, fun i j a b c => by rw [show i = j by omega]; exact Int.le_refl _⟩
  case fin =>
    rintro c st' ⟨e1, e2, e3⟩
    exact ⟨e1, _, e2, by omega, by omega, e3, fun z => by omega⟩
  case step =>
    rintro x c st' hax hxn ⟨rfl, rfl, hs'⟩
    dsimp only
    refine wpS_bind (ltAt C g0 hB (by omega) (by omega) ?_)
    dsimp only
    by_cases c1 : R rk (arrOf st') (lo + x) < R rk (arrOf st') (lo + x - 1)
    · rw [if_pos (decide_eq_true c1)]
      exact wpS_pure ⟨rfl, x, rfl, hax, by omega, hs', fun _ => c1⟩
    · rw [if_neg (by simpa using c1)]
      exact wpS_pure ⟨rfl, rfl, srt_step hs' (by omega) c1⟩
  case post =>
    rintro c st' ⟨rfl, x, rfl, hx1, hxn, hs, hd⟩
    dsimp only
    by_cases c1 : (x == nrem) = true
    · rw [if_pos c1]; exact wpS_pure (h x _ hx1 hxn hB rfl Ahead.refl hs)
    rw [if_neg c1]
    have hlt : x < nrem := by
      have : x ≠ nrem := fun z => c1 (by rw [z]; exact beq_self_eq_true _)
      omega
    have hd' := hd hlt
    by_cases c2 : x > 1
    · rw [if_pos c2]
      refine wpS_bind (ltAt C g0 hB (by omega) (by omega) ?_)
      dsimp only
      by_cases c3 : R rk (arrOf st') lo < R rk (arrOf st') (lo + x - 1)
      · rw [if_pos (decide_eq_true c3)]
        exact wpS_pure (h x _ hx1 hxn hB rfl Ahead.refl hs)
      · rw [if_neg (by simpa using c3)]
        -- all alike so far
        have eq : ∀ k, lo ≤ k → k < lo + x → R rk (arrOf st') k = R rk (arrOf st') (lo + x - 1) := fun k a b => by
          have u1 := hs lo k (Nat.le_refl _) a b
          have u2 := hs k (lo + x - 1) a (by omega) (by omega)
          omega
        refine wpS_bind (reverse ?_)
        have eR : ∀ k, R rk (mirror (arrOf st') lo (lo + x) ((lo + x - lo) / 2)) k = R rk (arrOf st') k := R_turn (by omega) eq
        refine down_ok (n := x + 1) C g0 (by omega) (by omega) hn (hB.setArr (mirror_perm _ _ _ _)) (fal_same eR ?_) fun m st2 a b c d e f => h m st2 a b c d ((ahead_mirror (Nat.le_refl _) (by omega)).trans e) f
        refine fal_step (fun i j a b c => ?_) hx1 (by omega)
        rw [eq i (by omega) (by omega), eq j (by omega) c]; exact Int.le_refl _
    · rw [if_neg c2]
      have e1 : x = 1 := by omega
      subst e1
      refine down_ok (n := 1 + 1) C g0 (by omega) (by omega) hn hB (fal_step (fun i j a b c => by rw [show i = j by omega]; exact Int.le_refl _) (Nat.le_refl _) (by omega)) fun m st2 a b c d e f => h m st2 a b c d e f
end
end TS

namespace TS
open PySem PyProof.Rows
def gal : Bool → Keyed → Array Keyed → Nat → Nat → Nat → StateT SortSt Sem (Option Nat) := sortPriv% PySem.Builtin.gallop
/-- does the item at i stand ahead of the key's place -/
def past (left : Bool) (key : Keyed) (arr : Array Keyed) (base : Nat) (i : Nat) : StateT SortSt Sem (Option Bool) := do
  let y ← elem' arr (base + i)
  if left then lt' y key else return (← lt' key y).map (!·)
theorem gal_eq (left : Bool) (key : Keyed) (arr : Array Keyed) (base n hint : Nat) : gal left key arr base n hint = (do
    let mut near := 0
    let mut far := 1
    let mut a := 0
    let mut z := 0
    let some onward ← past left key arr base hint | return none
    if onward then
      let top := n - hint
      for _ in [0:n] do
        if far ≥ top then break
        let some go ← past left key arr base (hint + far) | return none
        if !go then break
        near := far
        far := 2 * far + 1
      a := hint + near + 1
      z := hint + min far top
    else
      let top := hint + 1
      for _ in [0:n] do
        if far ≥ top then break
        let some stop ← past left key arr base (hint - far) | return none
        if stop then break
        near := far
        far := 2 * far + 1
      a := hint + 1 - min far top
      z := hint - near
    for _ in [0:n] do
      if a ≥ z then break
      let mid := a + (z - a) / 2
      let some go ← past left key arr base mid | return none
      if go then a := mid + 1 else z := mid
    return some z) := rfl
/-- the place between two known ones -/
def bisP (left : Bool) (key : Keyed) (arr : Array Keyed) (base n a0 z0 : Nat) : StateT SortSt Sem (Option Nat) := do
  let mut a := a0
  let mut z := z0
  for _ in [0:n] do
    if a ≥ z then break
    let mid := a + (z - a) / 2
    let some go ← past left key arr base mid | return none
    if go then a := mid + 1 else z := mid
  return some z
section
variable {prog : Program} {w : World} {A : Around} {E : Value → Shared → Prop} {s : Shared} {κ : SortKind} {G : Keyed → Prop} {rk : Keyed → Int}
def bey (rk : Keyed → Int) (left : Bool) (key : Keyed) (arr : Array Keyed) (base i : Nat) : Bool := if left then decide (R rk arr (base + i) < rk key) else !decide (rk key < R rk arr (base + i))
theorem past_ok {st : SortSt} {left : Bool} {key : Keyed} {arr : Array Keyed} {base i : Nat} {Q : Option Bool → SortSt → Prop} (C : Cm prog w A E s κ G rk) (hk : kindOf st = κ) (ga : AllG G arr) (gk : G key) (hi : base + i < arr.size)
    (h : Q (some (bey rk left key arr base i)) st) : wpS (model prog w) A E s (past left key arr base i) Q st := by
  obtain ⟨y, e⟩ := get_of_lt hi
  unfold bey at h
  rw [R_some e] at h
  unfold past
  rw [elem'_eq, e]
  refine wpS_bind (wpS_pure ?_)
  cases left with
  | true => exact C.lt y key st _ (ga.at e) gk hk h
  | false => exact wpS_bind (C.lt key y st _ gk (ga.at e) hk (wpS_pure h))
theorem bey_mono {left : Bool} {key : Keyed} {arr : Array Keyed} {base n i j : Nat} (hs : Srt rk arr base (base + n)) (hij : i ≤ j) (hj : j < n) (h : bey rk left key arr base j = true) : bey rk left key arr base i = true := by
  have := hs (base + i) (base + j) (by omega) (by omega) (by omega)
  unfold bey at h ⊢
  cases left with
  | true => simp only [if_true, decide_eq_true_eq] at h ⊢; omega
  | false => simp only [Bool.false_eq_true, if_false, Bool.not_eq_true', decide_eq_false_iff_not] at h ⊢; omega
theorem bey_mono' {left : Bool} {key : Keyed} {arr : Array Keyed} {base n i j : Nat} (hs : Srt rk arr base (base + n)) (hij : i ≤ j) (hj : j < n) (h : bey rk left key arr base i = false) : bey rk left key arr base j = false := by
  cases e : bey rk left key arr base j with
  | false => rfl
  | true => rw [bey_mono hs hij hj e] at h; cases h
theorem bis_ok {st : SortSt} {left : Bool} {key : Keyed} {arr : Array Keyed} {base n a0 z0 : Nat} {Q : Option Nat → SortSt → Prop} (C : Cm prog w A E s κ G rk) (hk : kindOf st = κ) (ga : AllG G arr) (gk : G key) (hb : base + n ≤ arr.size) (hs : Srt rk arr base (base + n))
    (haz : a0 ≤ z0) (hz : z0 ≤ n) (h1 : ∀ i, i < a0 → bey rk left key arr base i = true) (h2 : ∀ i, z0 ≤ i → i < n → bey rk left key arr base i = false)
    (h : ∀ m, m ≤ n → (∀ i, i < m → bey rk left key arr base i = true) → (∀ i, m ≤ i → i < n → bey rk left key arr base i = false) → Q (some m) st) : wpS (model prog w) A E s (bisP left key arr base n a0 z0) Q st := by
  unfold bisP
  dsimp only
  refine wpS_bind (wpS_mono (wpS_forRange (I := fun x c st' => st' = st ∧ ∃ a z, c = (none, a, z) ∧ a ≤ z ∧ z ≤ n ∧ z - a ≤ n - x ∧ (∀ i, i < a → bey rk left key arr base i = true) ∧ ∀ i, z ≤ i → i < n → bey rk left key arr base i = false)
    (Q := fun c st' => st' = st ∧ ∃ a z, c = (none, a, z) ∧ a = z ∧ z ≤ n ∧ (∀ i, i < a → bey rk left key arr base i = true) ∧ ∀ i, z ≤ i → i < n → bey rk left key arr base i = false) ?step ?fin ?init) ?post)
  case init => exact ⟨rfl, a0, z0, rfl, haz, hz, by omega, h1, h2⟩
  case fin =>
    rintro c st' ⟨e1, a, z, e2, e3, e4, e5, e6, e7⟩
    exact ⟨e1, a, z, e2, by omega, e4, e6, e7⟩
  case step =>
    rintro x c st' _ hx ⟨rfl, a, z, rfl, e3, e4, e5, e6, e7⟩
    dsimp only
    by_cases c1 : a ≥ z
    · rw [if_pos c1]
      exact wpS_pure ⟨rfl, a, z, rfl, by omega, e4, e6, e7⟩
    · rw [if_neg c1]
      refine wpS_bind (past_ok C hk ga gk (by omega) ?_)
      dsimp only
      by_cases c2 : bey rk left key arr base (a + (z - a) / 2) = true
      · rw [if_pos c2]
        exact wpS_pure ⟨rfl, _, z, rfl, by omega, e4, by omega, fun i hi => bey_mono hs (show i ≤ a + (z - a) / 2 by omega) (by omega) c2, e7⟩
      · rw [if_neg c2]
        exact wpS_pure ⟨rfl, a, _, rfl, by omega, by omega, by omega, e6, fun i hi hin => bey_mono' hs hi hin (Bool.eq_false_iff.mpr c2)⟩
  case post =>
    rintro c st' ⟨rfl, a, z, rfl, rfl, e4, e6, e7⟩
    exact wpS_pure (h a e4 e6 e7)
theorem gallop {st : SortSt} {left : Bool} {key : Keyed} {arr : Array Keyed} {base n hint : Nat} {Q : Option Nat → SortSt → Prop} (C : Cm prog w A E s κ G rk) (hk : kindOf st = κ) (ga : AllG G arr) (gk : G key) (hb : base + n ≤ arr.size) (hh : hint < n) (hs : Srt rk arr base (base + n))
    (h : ∀ m, m ≤ n → (∀ i, i < m → bey rk left key arr base i = true) → (∀ i, m ≤ i → i < n → bey rk left key arr base i = false) → Q (some m) st) : wpS (model prog w) A E s (gal left key arr base n hint) Q st := by
  rw [gal_eq]
  dsimp only
  refine wpS_bind (past_ok C hk ga gk (by omega) ?_)
  dsimp only
  by_cases c0 : bey rk left key arr base hint = true
  · rw [if_pos c0]
    refine wpS_bind (wpS_mono (wpS_forRange (I := fun x c st' => st' = st ∧ ∃ a z, c = (none, a, z) ∧ a < z ∧ x < z ∧ hint + a < n ∧ bey rk left key arr base (hint + a) = true)
      (Q := fun c st' => st' = st ∧ ∃ a z, c = (none, a, z) ∧ a < z ∧ hint + a < n ∧ bey rk left key arr base (hint + a) = true ∧ (z < n - hint → bey rk left key arr base (hint + z) = false)) ?step ?fin ?init) ?post)
    case init => exact ⟨rfl, 0, 1, rfl, by omega, by omega, by omega, c0⟩
    case fin =>
      rintro c st' ⟨e1, a, z, e2, e3, e4, e5, e6⟩
      exact ⟨e1, a, z, e2, e3, e5, e6, fun q => by omega⟩
    case step =>
      rintro x c st' _ hx ⟨rfl, a, z, rfl, e3, e4, e5, e6⟩
      dsimp only
      by_cases c1 : z ≥ n - hint
      · rw [if_pos c1]
        exact wpS_pure ⟨rfl, a, z, rfl, e3, e5, e6, fun q => by omega⟩
      · rw [if_neg c1]
        refine wpS_bind (past_ok C hk ga gk (by omega) ?_)
        dsimp only
        by_cases c2 : bey rk left key arr base (hint + z) = true
        · rw [if_neg (by rw [c2]; simp)]
          exact wpS_pure ⟨rfl, z, _, rfl, by omega, by omega, by omega, c2⟩
        · rw [if_pos (by rw [Bool.eq_false_iff.mpr c2]; rfl)]
          exact wpS_pure ⟨rfl, a, z, rfl, e3, e5, e6, fun _ => Bool.eq_false_iff.mpr c2⟩
    case post =>
      rintro c st' ⟨rfl, a, z, rfl, e3, e5, e6, e7⟩
      refine bis_ok (a0 := hint + a + 1) (z0 := hint + min z (n - hint)) C hk ga gk hb hs (by omega) (by omega) (fun i hi => bey_mono hs (show i ≤ hint + a by omega) e5 e6) (fun i hi hin => ?_) h
      rcases Nat.lt_or_ge z (n - hint) with q | q
      · exact bey_mono' hs (show hint + z ≤ i by omega) hin (e7 q)
      · omega
  · rw [if_neg c0]
    have c0' := Bool.eq_false_iff.mpr c0
    refine wpS_bind (wpS_mono (wpS_forRange (I := fun x c st' => st' = st ∧ ∃ a z, c = (none, a, z) ∧ a < z ∧ x < z ∧ a ≤ hint ∧ bey rk left key arr base (hint - a) = false)
      (Q := fun c st' => st' = st ∧ ∃ a z, c = (none, a, z) ∧ a < z ∧ a ≤ hint ∧ bey rk left key arr base (hint - a) = false ∧ (z < hint + 1 → bey rk left key arr base (hint - z) = true)) ?step ?fin ?init) ?post)
    case init => exact ⟨rfl, 0, 1, rfl, by omega, by omega, by omega, c0'⟩
    case fin =>
      rintro c st' ⟨e1, a, z, e2, e3, e4, e5, e6⟩
      exact ⟨e1, a, z, e2, e3, e5, e6, fun q => by omega⟩
    case step =>
      rintro x c st' _ hx ⟨rfl, a, z, rfl, e3, e4, e5, e6⟩
      dsimp only
      by_cases c1 : z ≥ hint + 1
      · rw [if_pos c1]
        exact wpS_pure ⟨rfl, a, z, rfl, e3, e5, e6, fun q => by omega⟩
      · rw [if_neg c1]
        refine wpS_bind (past_ok C hk ga gk (by omega) ?_)
        dsimp only
        by_cases c2 : bey rk left key arr base (hint - z) = true
        · rw [if_pos c2]
          exact wpS_pure ⟨rfl, a, z, rfl, e3, e5, e6, fun _ => c2⟩
        · rw [if_neg c2]
          exact wpS_pure ⟨rfl, z, _, rfl, by omega, by omega, by omega, Bool.eq_false_iff.mpr c2⟩
    case post =>
      rintro c st' ⟨rfl, a, z, rfl, e3, e5, e6, e7⟩
      refine bis_ok (a0 := hint + 1 - min z (hint + 1)) (z0 := hint - a) C hk ga gk hb hs (by omega) (by omega) (fun i hi => ?_) (fun i hi hin => bey_mono' hs hi hin e6) h
      rcases Nat.lt_or_ge z (hint + 1) with q | q
      · exact bey_mono hs (show i ≤ hint - z by omega) (by omega) (e7 q)
      · omega
end
end TS

namespace TS
open PySem PyProof.Rows
abbrev Pw (rk : Keyed → Int) (l : List Keyed) : Prop := l.Pairwise fun x y => rk x ≤ rk y
/-- two sorted lists partly merged: what is got, i of a and j of b -/
structure MI (rk : Keyed → Int) (a b got : List Keyed) (i j : Nat) : Prop where
  hi : i ≤ a.length
  hj : j ≤ b.length
  perm : got.Perm (a.take i ++ b.take j)
  srt : Pw rk got
  below : ∀ x ∈ got, (∀ y ∈ a.drop i, rk x ≤ rk y) ∧ ∀ y ∈ b.drop j, rk x ≤ rk y
structure Res (rk : Keyed → Int) (a b r : List Keyed) : Prop where
  perm : r.Perm (a ++ b)
  srt : Pw rk r
section
variable {rk : Keyed → Int} {a b got : List Keyed} {i j k : Nat}
theorem MI.swap (M : MI rk a b got i j) : MI rk b a got j i := ⟨M.hj, M.hi, M.perm.trans List.perm_append_comm, M.srt, fun x hx => ⟨(M.below x hx).2, (M.below x hx).1⟩⟩
theorem Res.swap {r : List Keyed} (M : Res rk a b r) : Res rk b a r := ⟨M.perm.trans List.perm_append_comm, M.srt⟩
theorem pw_split (h : Pw rk a) (i : Nat) : ∀ x ∈ a.take i, ∀ y ∈ a.drop i, rk x ≤ rk y := by
  have e : a = a.take i ++ a.drop i := (List.take_append_drop i a).symm
  rw [e] at h
  exact (List.pairwise_append.mp h).2.2
theorem MI.chunk (M : MI rk a b got i j) (sa : Pw rk a) (hk : i + k ≤ a.length) (h : ∀ x ∈ (a.drop i).take k, ∀ y ∈ b.drop j, rk x ≤ rk y) : MI rk a b (got ++ (a.drop i).take k) (i + k) j := by
  have sd : Pw rk (a.drop i) := sa.sublist (List.drop_sublist _ _)
  refine ⟨hk, M.hj, ?_, List.pairwise_append.mpr ⟨M.srt, sd.sublist (List.take_sublist _ _), fun x hx y hy => (M.below x hx).1 y (List.mem_of_mem_take hy)⟩, fun x hx => ?_⟩
  · rw [List.take_add]
    refine (M.perm.append_right _).trans ?_
    rw [List.append_assoc, List.append_assoc]
    exact List.Perm.append_left _ List.perm_append_comm
  · have ed : a.drop (i + k) = (a.drop i).drop k := by rw [List.drop_drop]
    rcases List.mem_append.mp hx with hx | hx
    · exact ⟨fun y hy => (M.below x hx).1 y (by rw [ed] at hy; exact List.mem_of_mem_drop hy), (M.below x hx).2⟩
    · exact ⟨fun y hy => pw_split sd k x hx y (by rw [← ed]; exact hy), h x hx⟩
theorem take_one {x : Keyed} (e : a[i]? = some x) : (a.drop i).take 1 = [x] := by
  obtain ⟨h, rfl⟩ := List.getElem?_eq_some_iff.mp e
  rw [List.drop_eq_getElem_cons h]; rfl
theorem MI.step (M : MI rk a b got i j) (sa : Pw rk a) {x : Keyed} (e : a[i]? = some x) (h : ∀ y ∈ b.drop j, rk x ≤ rk y) : MI rk a b (got ++ [x]) (i + 1) j := by
  have hlt := (List.getElem?_eq_some_iff.mp e).1
  have := M.chunk (k := 1) sa (by omega) (by rw [take_one e]; intro z hz; rw [List.mem_singleton.mp hz]; exact h)
  rwa [take_one e] at this
/-- the rest of a behind what is got, b being used up -/
theorem MI.fin (M : MI rk a b got i j) (sa : Pw rk a) (hj : j = b.length) : Res rk a b (got ++ a.drop i) := by
  subst hj
  refine ⟨?_, List.pairwise_append.mpr ⟨M.srt, sa.sublist (List.drop_sublist _ _), fun x hx y hy => (M.below x hx).1 y hy⟩⟩
  refine (M.perm.append_right _).trans ?_
  rw [List.take_length, List.append_assoc]
  refine (List.Perm.append_left _ List.perm_append_comm).trans ?_
  rw [← List.append_assoc, List.take_append_drop]
/-- the rest of b, then that of a, where all of b is at most what is left of a -/
theorem MI.fin2 (M : MI rk a b got i j) (sa : Pw rk a) (sb : Pw rk b) (h : ∀ x ∈ b, ∀ y ∈ a.drop i, rk x ≤ rk y) : Res rk a b (got ++ b.drop j ++ a.drop i) := by
  refine ⟨?_, List.pairwise_append.mpr ⟨List.pairwise_append.mpr ⟨M.srt, sb.sublist (List.drop_sublist _ _), fun x hx y hy => (M.below x hx).2 y hy⟩, sa.sublist (List.drop_sublist _ _), fun x hx y hy => ?_⟩⟩
  · have e : (a ++ b).Perm ((a.take i ++ b.take j) ++ (b.drop j ++ a.drop i)) := by
      have e1 : a ++ b = (a.take i ++ a.drop i) ++ (b.take j ++ b.drop j) := by rw [List.take_append_drop, List.take_append_drop]
      rw [e1, List.append_assoc, List.append_assoc]
      refine List.Perm.append_left _ ?_
      refine (List.perm_append_comm).trans ?_
      rw [List.append_assoc]
    rw [List.append_assoc]
    exact (M.perm.append_right _).trans e.symm
  · rcases List.mem_append.mp hx with hx | hx
    · exact (M.below x hx).1 y hy
    · exact h x (List.mem_of_mem_drop hx) y hy
end
end TS

namespace TS
open PySem PyProof.Rows
def mlo : Array Keyed → Array Keyed → StateT SortSt Sem (Array Keyed) := sortPriv% PySem.Builtin.mergeLo
def setG : Nat → StateT SortSt Sem Unit := sortPriv% PySem.Builtin.setMinGallop
theorem setG_eq (g : Nat) : setG g = modify fun st => SortSt.mk' (kindOf st) (arrOf st) (pendingOf st) g (failedOf st) := rfl
/-- what is there and the rest of both -/
def endA (a b : Array Keyed) (got : Array Keyed) (i j : Nat) : Array Keyed := got ++ a.extract i a.size ++ b.extract j b.size
def endB (a b : Array Keyed) (got : Array Keyed) (i j : Nat) : Array Keyed := got ++ b.extract j b.size ++ a.extract i a.size
/-- a turn by leaps, in parts -/
abbrev LS := Option (Array Keyed) × Array Keyed × Nat × Nat × Nat × Nat × Nat
def turn4 (a b : Array Keyed) (g : Nat) (got : Array Keyed) (i j ca cb : Nat) : StateT SortSt Sem (ForInStep LS) := do
  let y ← elem' a i
  if (i + 1 + 1 == a.size) = true then pure (.done (some (endB a b (got.push y) (i + 1) j), got.push y, i + 1, j, g, ca, cb))
  else if (decide (ca < 7) && decide (cb < 7)) = true then pure (.done (none, got.push y, i + 1, j, g, ca, cb)) else pure (.yield (none, got.push y, i + 1, j, g, ca, cb))
def turn3 (a b : Array Keyed) (g : Nat) (got : Array Keyed) (i j ca cb : Nat) : StateT SortSt Sem (ForInStep LS) := do
  let some k ← gal true (← elem' a i) b j (b.size - j) 0 | pure (.done (some (endA a b got i j), got, i, j, g, ca, cb))
  if k > 0 then
    if (j + k == b.size) = true then pure (.done (some (endA a b (got ++ b.extract j (j + k)) i (j + k)), got ++ b.extract j (j + k), i, j + k, g, ca, k))
    else turn4 a b g (got ++ b.extract j (j + k)) i (j + k) ca k
  else turn4 a b g got i j ca k
def turn2 (a b : Array Keyed) (g : Nat) (got : Array Keyed) (i j ca cb : Nat) : StateT SortSt Sem (ForInStep LS) := do
  let x ← elem' b j
  if (j + 1 == b.size) = true then pure (.done (some (endA a b (got.push x) i (j + 1)), got.push x, i, j + 1, g, ca, cb))
  else turn3 a b g (got.push x) i (j + 1) ca cb
def turn1 (a b : Array Keyed) (g : Nat) (got : Array Keyed) (i j ca cb : Nat) : StateT SortSt Sem (ForInStep LS) := do
  setG g
  let some k ← gal false (← elem' b j) a i (a.size - i) 0 | pure (.done (some (endA a b got i j), got, i, j, g, ca, cb))
  if k > 0 then
    if (i + k + 1 == a.size) = true then pure (.done (some (endB a b (got ++ a.extract i (i + k)) (i + k) j), got ++ a.extract i (i + k), i + k, j, g, k, cb))
    else if (i + k == a.size) = true then pure (.done (some (endA a b (got ++ a.extract i (i + k)) (i + k) j), got ++ a.extract i (i + k), i + k, j, g, k, cb))
    else turn2 a b g (got ++ a.extract i (i + k)) (i + k) j k cb
  else turn2 a b g got i j k cb
def turn0 (a b : Array Keyed) (g : Nat) (got : Array Keyed) (i j ca cb : Nat) : StateT SortSt Sem (ForInStep LS) :=
  if g > 1 then turn1 a b (g - 1) got i j ca cb else turn1 a b g got i j ca cb
/-- a turn one by one -/
abbrev OS := Option (Array Keyed) × Array Keyed × Nat × Nat × Nat × Nat
def oneT (a b : Array Keyed) (g : Nat) (got : Array Keyed) (i j ca cb : Nat) : StateT SortSt Sem (ForInStep OS) := do
  let some second ← lt' (← elem' b j) (← elem' a i) | pure (.done (some (endA a b got i j), got, i, j, ca, cb))
  if second = true then do
    let x ← elem' b j
    if (j + 1 == b.size) = true then pure (.done (some (endA a b (got.push x) i (j + 1)), got.push x, i, j + 1, 0, cb + 1))
    else if cb + 1 ≥ g then pure (.done (none, got.push x, i, j + 1, 0, cb + 1)) else pure (.yield (none, got.push x, i, j + 1, 0, cb + 1))
  else do
    let x ← elem' a i
    if (i + 1 + 1 == a.size) = true then pure (.done (some (endB a b (got.push x) (i + 1) j), got.push x, i + 1, j, ca + 1, 0))
    else if ca + 1 ≥ g then pure (.done (none, got.push x, i + 1, j, ca + 1, 0)) else pure (.yield (none, got.push x, i + 1, j, ca + 1, 0))
theorem mlo_eq (a b : Array Keyed) : mlo a b = (do
    rule "list.sort.merge-lo"
    let most := a.size + b.size
    let mut got : Array Keyed := #[← elem' b 0]
    let mut i := 0
    let mut j := 1
    if j == b.size then return endA a b got i j
    if i + 1 == a.size then return endB a b got i j
    let mut g := gallopOf (← get)
    for _ in [0:most] do
      let mut ca := 0
      let mut cb := 0
      for _ in [0:most] do
        let some second ← lt' (← elem' b j) (← elem' a i) | return endA a b got i j
        if second then
          got := got.push (← elem' b j); j := j + 1; cb := cb + 1; ca := 0
          if j == b.size then return endA a b got i j
          if cb ≥ g then break
        else
          got := got.push (← elem' a i); i := i + 1; ca := ca + 1; cb := 0
          if i + 1 == a.size then return endB a b got i j
          if ca ≥ g then break
      rule "list.sort.gallop"
      g := g + 1
      for _ in [0:most] do
        if g > 1 then g := g - 1
        setG g
        let some k ← gal false (← elem' b j) a i (a.size - i) 0 | return endA a b got i j
        ca := k
        if k > 0 then
          got := got ++ a.extract i (i + k); i := i + k
          if i + 1 == a.size then return endB a b got i j
          if i == a.size then return endA a b got i j
        got := got.push (← elem' b j); j := j + 1
        if j == b.size then return endA a b got i j
        let some k ← gal true (← elem' a i) b j (b.size - j) 0 | return endA a b got i j
        cb := k
        if k > 0 then
          got := got ++ b.extract j (j + k); j := j + k
          if j == b.size then return endA a b got i j
        got := got.push (← elem' a i); i := i + 1
        if i + 1 == a.size then return endB a b got i j
        if ca < 7 && cb < 7 then break
      g := g + 1
      setG g
    unsupported "internal:list.sort.merge-bound") := rfl

/-- the state but for the leaps' measure -/
structure Sb (st st' : SortSt) : Prop where
  kind : kindOf st' = kindOf st
  arr : arrOf st' = arrOf st
  pend : pendingOf st' = pendingOf st
  failed : failedOf st' = failedOf st
theorem Sb.refl (st : SortSt) : Sb st st := ⟨rfl, rfl, rfl, rfl⟩
theorem Sb.setg {st st' : SortSt} (h : Sb st st') (g : Nat) : Sb st (SortSt.mk' (kindOf st') (arrOf st') (pendingOf st') g (failedOf st')) := ⟨h.kind, h.arr, h.pend, h.failed⟩
section
variable {prog : Program} {w : World} {A : Around} {E : Value → Shared → Prop} {s : Shared} {κ : SortKind} {G : Keyed → Prop} {rk : Keyed → Int}
theorem srt_pw {xs : Array Keyed} (h : Pw rk xs.toList) : Srt rk xs 0 (0 + xs.size) := fun i j ha hij hj => by
  rcases Nat.lt_or_ge i j with c | c
  · have hj' : j < xs.toList.length := by simpa using hj
    have := List.pairwise_iff_getElem.mp h i j (by omega) hj' c
    rw [R_some (p := xs[i]) (getElem?_pos xs i (by simp at hj'; omega)), R_some (p := xs[j]) (getElem?_pos xs j (by simpa using hj'))]
    simpa using this
  · rw [show i = j by omega]; exact Int.le_refl _
theorem srt_sub {xs : Array Keyed} {a b c d : Nat} (h : Srt rk xs a b) (h1 : a ≤ c) (h2 : d ≤ b) : Srt rk xs c d := fun i j x y z => h i j (by omega) y (by omega)
theorem ext_toList (xs : Array Keyed) (i k : Nat) : (xs.extract i (i + k)).toList = (xs.toList.drop i).take k := by
  rw [Array.toList_extract, List.extract_eq_take_drop, Nat.add_sub_cancel_left]
theorem ext_all (xs : Array Keyed) (i : Nat) : (xs.extract i xs.size).toList = xs.toList.drop i := by
  rw [Array.toList_extract, List.extract_eq_take_drop]
  exact List.take_of_length_le (by simp)
theorem at_toList {xs : Array Keyed} {i : Nat} {x : Keyed} (e : xs[i]? = some x) : xs.toList[i]? = some x := by rw [Array.getElem?_toList]; exact e
theorem elem_ok {st : SortSt} {xs : Array Keyed} {i : Nat} {Q : Keyed → SortSt → Prop} {x : Keyed} (e : xs[i]? = some x) (h : Q x st) : wpS (model prog w) A E s (elem' xs i) Q st := by
  rw [elem'_eq, e]; exact wpS_pure h
/-- what holds of both lists all the time -/
structure Two (G : Keyed → Prop) (rk : Keyed → Int) (a b : Array Keyed) : Prop where
  ga : AllG G a
  gb : AllG G b
  sa : Pw rk a.toList
  sb : Pw rk b.toList
  last : ∀ x ∈ b.toList, ∀ y ∈ a.toList.drop (a.size - 1), rk x ≤ rk y
theorem mem_drop {l : List Keyed} {j : Nat} {y : Keyed} (h : y ∈ l.drop j) : ∃ n, j ≤ n ∧ l[n]? = some y := by
  obtain ⟨n, hn, e⟩ := List.getElem_of_mem h
  refine ⟨j + n, Nat.le_add_right _ _, ?_⟩
  rw [List.getElem_drop] at e
  rw [List.getElem?_eq_getElem (by rw [List.length_drop] at hn; omega), e]
theorem mem_take_drop {l : List Keyed} {j k : Nat} {y : Keyed} (h : y ∈ (l.drop j).take k) : ∃ n, n < k ∧ l[j + n]? = some y := by
  obtain ⟨n, hn, e⟩ := List.getElem_of_mem h
  rw [List.length_take, List.length_drop] at hn
  refine ⟨n, by omega, ?_⟩
  rw [List.getElem_take, List.getElem_drop] at e
  rw [List.getElem?_eq_getElem (by omega), e]
/-- of a sorted list: from i on nothing is less than the item at i -/
theorem pw_from {xs : Array Keyed} (h : Pw rk xs.toList) {i : Nat} {x : Keyed} (e : xs[i]? = some x) : ∀ y ∈ xs.toList.drop i, rk x ≤ rk y := fun y hy => by
  obtain ⟨n, hn, en⟩ := mem_drop hy
  rw [Array.getElem?_toList] at en
  have hlt : n < xs.size := (Array.getElem?_eq_some_iff.mp en).1
  have := srt_pw h i n (Nat.zero_le _) hn (by omega)
  rwa [R_some e, R_some en] at this
theorem endA_b {a b got : Array Keyed} {i j : Nat} (T : Two G rk a b) (M : MI rk a.toList b.toList got.toList i j) (h : j = b.size) : Res rk a.toList b.toList (endA a b got i j).toList := by
  have := M.fin T.sa (by simpa using h)
  unfold endA
  rw [Array.toList_append, Array.toList_append, ext_all, ext_all, h, List.drop_of_length_le (l := b.toList) (by simp), List.append_nil]
  exact this
theorem endA_a {a b got : Array Keyed} {i j : Nat} (T : Two G rk a b) (M : MI rk a.toList b.toList got.toList i j) (h : i = a.size) : Res rk a.toList b.toList (endA a b got i j).toList := by
  have := M.swap.fin T.sb (by simpa using h)
  unfold endA
  rw [Array.toList_append, Array.toList_append, ext_all, ext_all, h, List.drop_of_length_le (l := a.toList) (by simp), List.append_nil]
  exact this.swap
theorem endB_ok {a b got : Array Keyed} {i j : Nat} (T : Two G rk a b) (M : MI rk a.toList b.toList got.toList i j) (h : i + 1 = a.size) : Res rk a.toList b.toList (endB a b got i j).toList := by
  unfold endB
  rw [Array.toList_append, Array.toList_append, ext_all, ext_all]
  refine M.fin2 T.sa T.sb fun x hx y hy => T.last x hx y ?_
  rw [show a.size - 1 = i by omega]; exact hy
/-- what a turn leaves: the end, or one more -/
def Left (rk : Keyed → Int) (a b : Array Keyed) (n0 : Nat) (r : Option (Array Keyed)) (got : Array Keyed) (i j : Nat) : Prop :=
  match r with
  | some z => Res rk a.toList b.toList z.toList
  | none => MI rk a.toList b.toList got.toList i j ∧ i + 1 < a.size ∧ j < b.size ∧ n0 < i + j
theorem one_ok {st : SortSt} {a b got : Array Keyed} {g i j ca cb : Nat} {Q : ForInStep OS → SortSt → Prop} (C : Cm prog w A E s κ G rk) (hk : kindOf st = κ) (T : Two G rk a b) (M : MI rk a.toList b.toList got.toList i j) (hi : i + 1 < a.size) (hj : j < b.size)
    (h : ∀ r got' i' j' ca' cb' d, Left rk a b (i + j) r got' i' j' → (d = true ∨ r = none) → Q (if d then .done (r, got', i', j', ca', cb') else .yield (r, got', i', j', ca', cb')) st) : wpS (model prog w) A E s (oneT a b g got i j ca cb) Q st := by
  obtain ⟨x, ex⟩ := get_of_lt (xs := a) (i := i) (by omega)
  obtain ⟨y, ey⟩ := get_of_lt hj
  unfold oneT
  refine wpS_bind (elem_ok ey (wpS_bind (elem_ok ex (wpS_bind (C.lt y x st _ (T.gb.at ey) (T.ga.at ex) hk ?_)))))
  dsimp only
  by_cases c : rk y < rk x
  · rw [if_pos (decide_eq_true c)]
    refine wpS_bind (elem_ok ey ?_)
    have M' : MI rk a.toList b.toList (got.push y).toList i (j + 1) := by
      rw [Array.toList_push]
      exact (M.swap.step T.sb (at_toList ey) fun z hz => Int.le_trans (Int.le_of_lt c) (pw_from T.sa ex z hz)).swap
    by_cases c1 : (j + 1 == b.size) = true
    · rw [if_pos c1]
      exact wpS_pure (h (some _) _ _ _ _ _ true (endA_b T M' (by simpa using c1)) (.inl rfl))
    · rw [if_neg c1]
      have c1' : j + 1 ≠ b.size := by simpa using c1
      have L : Left rk a b (i + j) none (got.push y) i (j + 1) := ⟨M', hi, by omega, by omega⟩
      by_cases c2 : cb + 1 ≥ g
      · rw [if_pos c2]; exact wpS_pure (h none _ _ _ _ _ true L (.inl rfl))
      · rw [if_neg c2]; exact wpS_pure (h none _ _ _ _ _ false L (.inr rfl))
  · rw [if_neg (by simpa using c)]
    refine wpS_bind (elem_ok ex ?_)
    have M' : MI rk a.toList b.toList (got.push x).toList (i + 1) j := by
      rw [Array.toList_push]
      exact M.step T.sa (at_toList ex) fun z hz => Int.le_trans (Int.not_lt.mp c) (pw_from T.sb ey z hz)
    by_cases c1 : (i + 1 + 1 == a.size) = true
    · rw [if_pos c1]
      exact wpS_pure (h (some _) _ _ _ _ _ true (endB_ok T M' (by simpa using c1)) (.inl rfl))
    · rw [if_neg c1]
      have c1' : i + 1 + 1 ≠ a.size := by simpa using c1
      have L : Left rk a b (i + j) none (got.push x) (i + 1) j := ⟨M', by omega, hj, by omega⟩
      by_cases c2 : ca + 1 ≥ g
      · rw [if_pos c2]; exact wpS_pure (h none _ _ _ _ _ true L (.inl rfl))
      · rw [if_neg c2]; exact wpS_pure (h none _ _ _ _ _ false L (.inr rfl))
theorem turn4_ok {st : SortSt} {a b got : Array Keyed} {g i j ca cb n0 : Nat} {Q : ForInStep LS → SortSt → Prop} (T : Two G rk a b) (M : MI rk a.toList b.toList got.toList i j) (hi : i + 1 < a.size) (hj : j < b.size) (h0 : n0 ≤ i + j)
    (hx : ∀ x, a[i]? = some x → ∀ y ∈ b.toList.drop j, rk x ≤ rk y)
    (h : ∀ r got' i' j' g' ca' cb' d, Left rk a b n0 r got' i' j' → (d = true ∨ r = none) → Q (if d then .done (r, got', i', j', g', ca', cb') else .yield (r, got', i', j', g', ca', cb')) st) : wpS (model prog w) A E s (turn4 a b g got i j ca cb) Q st := by
  obtain ⟨x, ex⟩ := get_of_lt (xs := a) (i := i) (by omega)
  unfold turn4
  refine wpS_bind (elem_ok ex ?_)
  have M' : MI rk a.toList b.toList (got.push x).toList (i + 1) j := by
    rw [Array.toList_push]
    exact M.step T.sa (at_toList ex) (hx x ex)
  by_cases c1 : (i + 1 + 1 == a.size) = true
  · rw [if_pos c1]
    exact wpS_pure (h (some _) _ _ _ _ _ _ true (endB_ok T M' (by simpa using c1)) (.inl rfl))
  · rw [if_neg c1]
    have c1' : i + 1 + 1 ≠ a.size := by simpa using c1
    have L : Left rk a b n0 none (got.push x) (i + 1) j := ⟨M', by omega, hj, by omega⟩
    split
    · exact wpS_pure (h none _ _ _ _ _ _ true L (.inl rfl))
    · exact wpS_pure (h none _ _ _ _ _ _ false L (.inr rfl))
theorem bey_t {key : Keyed} {arr : Array Keyed} {base i : Nat} {x : Keyed} (e : arr[base + i]? = some x) (h : bey rk true key arr base i = true) : rk x < rk key := by
  unfold bey at h; rw [R_some e] at h; simpa using h
theorem bey_f {key : Keyed} {arr : Array Keyed} {base i : Nat} {x : Keyed} (e : arr[base + i]? = some x) (h : bey rk false key arr base i = true) : rk x ≤ rk key := by
  unfold bey at h; rw [R_some e] at h
  have : ¬ rk key < rk x := by simpa using h
  omega
theorem bey_t' {key : Keyed} {arr : Array Keyed} {base i : Nat} {x : Keyed} (e : arr[base + i]? = some x) (h : bey rk true key arr base i = false) : rk key ≤ rk x := by
  unfold bey at h; rw [R_some e] at h
  have : ¬ rk x < rk key := by simpa using h
  omega
theorem bey_f' {key : Keyed} {arr : Array Keyed} {base i : Nat} {x : Keyed} (e : arr[base + i]? = some x) (h : bey rk false key arr base i = false) : rk key < rk x := by
  unfold bey at h; rw [R_some e] at h; simpa using h
theorem turn3_ok {st : SortSt} {a b got : Array Keyed} {g i j ca cb n0 : Nat} {Q : ForInStep LS → SortSt → Prop} (C : Cm prog w A E s κ G rk) (hk : kindOf st = κ) (T : Two G rk a b) (M : MI rk a.toList b.toList got.toList i j) (hi : i + 1 < a.size) (hj : j < b.size) (h0 : n0 ≤ i + j)
    (h : ∀ r got' i' j' g' ca' cb' d, Left rk a b n0 r got' i' j' → (d = true ∨ r = none) → Q (if d then .done (r, got', i', j', g', ca', cb') else .yield (r, got', i', j', g', ca', cb')) st) : wpS (model prog w) A E s (turn3 a b g got i j ca cb) Q st := by
  obtain ⟨x, ex⟩ := get_of_lt (xs := a) (i := i) (by omega)
  unfold turn3
  refine wpS_bind (elem_ok ex (wpS_bind (gallop C hk T.gb (T.ga.at ex) (by omega) (by omega) (srt_sub (srt_pw T.sb) (Nat.zero_le _) (by omega)) fun k hkn h1 h2 => ?_)))
  dsimp only
  have rest : ∀ y ∈ b.toList.drop (j + k), rk x ≤ rk y := fun y hy => by
    obtain ⟨n, hn, en⟩ := mem_drop hy
    rw [Array.getElem?_toList] at en
    have hlt : n < b.size := (Array.getElem?_eq_some_iff.mp en).1
    exact bey_t' (base := j) (i := n - j) (by rw [show j + (n - j) = n by omega]; exact en) (h2 (n - j) (by omega) (by omega))
  by_cases c0 : k > 0
  · rw [if_pos c0]
    have M' : MI rk a.toList b.toList (got ++ b.extract j (j + k)).toList i (j + k) := by
      rw [Array.toList_append, ext_toList]
      refine (M.swap.chunk T.sb (by simp; omega) fun y hy z hz => ?_).swap
      obtain ⟨n, hn, en⟩ := mem_take_drop hy
      rw [Array.getElem?_toList] at en
      exact Int.le_trans (Int.le_of_lt (bey_t en (h1 n hn))) (pw_from T.sa ex z hz)
    by_cases c1 : (j + k == b.size) = true
    · rw [if_pos c1]
      exact wpS_pure (h (some _) _ _ _ _ _ _ true (endA_b T M' (by simpa using c1)) (.inl rfl))
    · rw [if_neg c1]
      have c1' : j + k ≠ b.size := by simpa using c1
      exact turn4_ok T M' hi (by omega) (by omega) (fun z ez => by rw [ex] at ez; cases ez; exact rest) h
  · rw [if_neg c0]
    have e0 : k = 0 := by omega
    subst e0
    exact turn4_ok T M hi hj h0 (fun z ez => by rw [ex] at ez; cases ez; exact rest) h
theorem turn2_ok {st : SortSt} {a b got : Array Keyed} {g i j ca cb n0 : Nat} {Q : ForInStep LS → SortSt → Prop} (C : Cm prog w A E s κ G rk) (hk : kindOf st = κ) (T : Two G rk a b) (M : MI rk a.toList b.toList got.toList i j) (hi : i + 1 < a.size) (hj : j < b.size) (h0 : n0 ≤ i + j)
    (hy : ∀ y, b[j]? = some y → ∀ x ∈ a.toList.drop i, rk y ≤ rk x)
    (h : ∀ r got' i' j' g' ca' cb' d, Left rk a b n0 r got' i' j' → (d = true ∨ r = none) → Q (if d then .done (r, got', i', j', g', ca', cb') else .yield (r, got', i', j', g', ca', cb')) st) : wpS (model prog w) A E s (turn2 a b g got i j ca cb) Q st := by
  obtain ⟨y, ey⟩ := get_of_lt hj
  unfold turn2
  refine wpS_bind (elem_ok ey ?_)
  have M' : MI rk a.toList b.toList (got.push y).toList i (j + 1) := by
    rw [Array.toList_push]
    exact (M.swap.step T.sb (at_toList ey) (hy y ey)).swap
  by_cases c1 : (j + 1 == b.size) = true
  · rw [if_pos c1]
    exact wpS_pure (h (some _) _ _ _ _ _ _ true (endA_b T M' (by simpa using c1)) (.inl rfl))
  · rw [if_neg c1]
    have c1' : j + 1 ≠ b.size := by simpa using c1
    exact turn3_ok C hk T M' hi (by omega) (by omega) h
theorem turn1_ok {st0 st : SortSt} {a b got : Array Keyed} {g i j ca cb n0 : Nat} {Q : ForInStep LS → SortSt → Prop} (C : Cm prog w A E s κ G rk) (hk : kindOf st0 = κ) (hb : Sb st0 st) (T : Two G rk a b) (M : MI rk a.toList b.toList got.toList i j) (hi : i + 1 < a.size) (hj : j < b.size) (h0 : n0 ≤ i + j)
    (h : ∀ r got' i' j' g' ca' cb' d st', Sb st0 st' → Left rk a b n0 r got' i' j' → (d = true ∨ r = none) → Q (if d then .done (r, got', i', j', g', ca', cb') else .yield (r, got', i', j', g', ca', cb')) st') : wpS (model prog w) A E s (turn1 a b g got i j ca cb) Q st := by
  obtain ⟨y, ey⟩ := get_of_lt hj
  unfold turn1
  rw [setG_eq]
  have hb' := hb.setg g
  have hk' : kindOf (SortSt.mk' (kindOf st) (arrOf st) (pendingOf st) g (failedOf st)) = κ := hb'.kind.trans hk
  refine wpS_bind (wpS_modify (wpS_bind (elem_ok ey (wpS_bind (gallop C hk' T.ga (T.gb.at ey) (by omega) (by omega) (srt_sub (srt_pw T.sa) (Nat.zero_le _) (by omega)) fun k hkn h1 h2 => ?_)))))
  dsimp only
  have h' := fun r got' i' j' g' ca' cb' d => h r got' i' j' g' ca' cb' d _ hb'
  have rest : ∀ x ∈ a.toList.drop (i + k), rk y ≤ rk x := fun x hx => by
    obtain ⟨n, hn, en⟩ := mem_drop hx
    rw [Array.getElem?_toList] at en
    have hlt : n < a.size := (Array.getElem?_eq_some_iff.mp en).1
    exact Int.le_of_lt (bey_f' (base := i) (i := n - i) (by rw [show i + (n - i) = n by omega]; exact en) (h2 (n - i) (by omega) (by omega)))
  by_cases c0 : k > 0
  · rw [if_pos c0]
    have M' : MI rk a.toList b.toList (got ++ a.extract i (i + k)).toList (i + k) j := by
      rw [Array.toList_append, ext_toList]
      refine M.chunk T.sa (by simp; omega) fun x hx z hz => ?_
      obtain ⟨n, hn, en⟩ := mem_take_drop hx
      rw [Array.getElem?_toList] at en
      exact Int.le_trans (bey_f en (h1 n hn)) (pw_from T.sb ey z hz)
    by_cases c1 : (i + k + 1 == a.size) = true
    · rw [if_pos c1]
      exact wpS_pure (h' (some _) _ _ _ _ _ _ true (endB_ok T M' (by simpa using c1)) (.inl rfl))
    · rw [if_neg c1]
      have c1' : i + k + 1 ≠ a.size := by simpa using c1
      by_cases c2 : (i + k == a.size) = true
      · rw [if_pos c2]
        exact wpS_pure (h' (some _) _ _ _ _ _ _ true (endA_a T M' (by simpa using c2)) (.inl rfl))
      · rw [if_neg c2]
        have c2' : i + k ≠ a.size := by simpa using c2
        exact turn2_ok C hk' T M' (by omega) hj (by omega) (fun z ez => by rw [ey] at ez; cases ez; exact rest) h'
  · rw [if_neg c0]
    have e0 : k = 0 := by omega
    subst e0
    exact turn2_ok C hk' T M hi hj h0 (fun z ez => by rw [ey] at ez; cases ez; exact rest) h'
theorem turn0_ok {st0 st : SortSt} {a b got : Array Keyed} {g i j ca cb n0 : Nat} {Q : ForInStep LS → SortSt → Prop} (C : Cm prog w A E s κ G rk) (hk : kindOf st0 = κ) (hb : Sb st0 st) (T : Two G rk a b) (M : MI rk a.toList b.toList got.toList i j) (hi : i + 1 < a.size) (hj : j < b.size) (h0 : n0 ≤ i + j)
    (h : ∀ r got' i' j' g' ca' cb' d st', Sb st0 st' → Left rk a b n0 r got' i' j' → (d = true ∨ r = none) → Q (if d then .done (r, got', i', j', g', ca', cb') else .yield (r, got', i', j', g', ca', cb')) st') : wpS (model prog w) A E s (turn0 a b g got i j ca cb) Q st := by
  unfold turn0
  split
  · exact turn1_ok C hk hb T M hi hj h0 h
  · exact turn1_ok C hk hb T M hi hj h0 h
end
end TS

namespace TS
open PySem PyProof.Rows
section
variable {prog : Program} {w : World} {A : Around} {E : Value → Shared → Prop} {s : Shared} {κ : SortKind} {G : Keyed → Prop} {rk : Keyed → Int}
theorem mlo_ok {st : SortSt} {a b : Array Keyed} {Q : Array Keyed → SortSt → Prop} (C : Cm prog w A E s κ G rk) (hk : kindOf st = κ) (T : Two G rk a b) (ha : 0 < a.size) (hb : 0 < b.size)
    (first : ∀ x y, b[0]? = some x → a[0]? = some y → rk x ≤ rk y) (h : ∀ r st', Sb st st' → Res rk a.toList b.toList r.toList → Q r st') : wpS (model prog w) A E s (mlo a b) Q st := by
  obtain ⟨x0, e0⟩ := get_of_lt hb
  obtain ⟨y0, f0⟩ := get_of_lt ha
  have M0 : MI rk a.toList b.toList [] 0 0 := ⟨Nat.zero_le _, Nat.zero_le _, by simp, List.Pairwise.nil, fun _ z => nomatch z⟩
  have M1 : MI rk a.toList b.toList (#[x0] : Array Keyed).toList 0 1 :=
    (M0.swap.step T.sb (at_toList e0) fun z hz => Int.le_trans (first _ _ e0 f0) (pw_from T.sa f0 z hz)).swap
  rw [mlo_eq]
  dsimp only
  refine wpS_bind (wpS_lift (wpAny_rule ⟨rfl, ?_⟩))
  refine wpS_bind (elem_ok e0 ?_)
  by_cases c1 : (1 == b.size) = true
  · rw [if_pos c1]
    exact wpS_pure (h _ _ (Sb.refl _) (endA_b T M1 (by simpa using c1)))
  rw [if_neg c1]
  have c1' : 1 ≠ b.size := by simpa using c1
  by_cases c2 : (0 + 1 == a.size) = true
  · rw [if_pos c2]
    exact wpS_pure (h _ _ (Sb.refl _) (endB_ok T M1 (by simpa using c2)))
  rw [if_neg c2]
  have c2' : 0 + 1 ≠ a.size := by simpa using c2
  refine wpS_bind (wpS_get ?_)
  refine wpS_bind (wpS_mono (wpS_forRange (I := fun x c st' => Sb st st' ∧ c.1 = none ∧ Left rk a b x none c.2.1 c.2.2.1 c.2.2.2.1)
    (Q := fun c st' => Sb st st' ∧ ∃ z, c.1 = some z ∧ Res rk a.toList b.toList z.toList) ?step ?fin ?init) ?post)
  case init => exact ⟨Sb.refl _, rfl, M1, by show 0 + 1 < a.size; omega, by show 1 < b.size; omega, by show 0 < 0 + 1; omega⟩
  case fin =>
    rintro c st' ⟨e1, e2, M, e3, e4, e5⟩
    exfalso
    omega
  case post =>
    rintro c st' ⟨hb', z, e1, e2⟩
    rw [e1]
    exact wpS_pure (h z _ hb' e2)
  case step =>
    rintro x c st' _ hx ⟨hb', e2, M, e3, e4, e5⟩
    obtain ⟨c0, got, i, j, g⟩ := c
    dsimp only at e2 M e3 e4 e5
    subst e2
    dsimp only
    refine wpS_bind (wpS_mono (wpS_forRange (I := fun y d st2 => st2 = st' ∧ d.1 = none ∧ Left rk a b (x + (if y = 0 then 0 else 1)) none d.2.1 d.2.2.1 d.2.2.2.1 ∧ x < d.2.2.1 + d.2.2.2.1)
      (Q := fun d st2 => st2 = st' ∧ Left rk a b (x + 1) d.1 d.2.1 d.2.2.1 d.2.2.2.1) ?step1 ?fin1 ?init1) ?post1)
    case init1 => exact ⟨rfl, rfl, ⟨M, e3, e4, by rw [if_pos rfl]; exact e5⟩, e5⟩
    case fin1 =>
      rintro d st2 ⟨f1, f2, f3, f4⟩
      rw [if_neg (by omega)] at f3
      rw [f2]
      exact ⟨f1, f3⟩
    case step1 =>
      rintro y d st2 _ hy ⟨rfl, f2, ⟨M2, f3, f4, f5⟩, f6⟩
      obtain ⟨d0, got2, i2, j2, ca, cb⟩ := d
      dsimp only at f2 M2 f3 f4 f5 f6
      subst f2
      refine one_ok (g := g) (ca := ca) (cb := cb) C (hb'.kind.trans hk) T M2 f3 f4 fun r got' i' j' ca' cb' dn L hd => ?_
      have L' : Left rk a b (x + 1) r got' i' j' := by
        cases r with
        | some z => exact L
        | none => exact ⟨L.1, L.2.1, L.2.2.1, by have q : i2 + j2 < i' + j' := L.2.2.2; omega⟩
      cases dn with
      | true => exact ⟨rfl, L'⟩
      | false =>
        have e : r = none := by simpa using hd
        subst e
        exact ⟨rfl, rfl, by rw [if_neg (by omega)]; exact L', by have := L'.2.2.2; show x < i' + j'; omega⟩
    case post1 =>
      rintro d st2 ⟨rfl, L⟩
      obtain ⟨d0, got2, i2, j2, ca, cb⟩ := d
      dsimp only at L ⊢
      cases d0 with
      | some z => exact wpS_pure ⟨hb', z, rfl, L⟩
      | none =>
        obtain ⟨M2, f3, f4, f5⟩ := L
        dsimp only
        refine wpS_bind (wpS_lift (wpAny_rule ⟨rfl, ?_⟩))
        refine wpS_bind (wpS_mono (wpS_forRange (I := fun y d st3 => Sb st st3 ∧ d.1 = none ∧ Left rk a b (x + 1) none d.2.1 d.2.2.1 d.2.2.2.1)
          (Q := fun d st3 => Sb st st3 ∧ Left rk a b (x + 1) d.1 d.2.1 d.2.2.1 d.2.2.2.1) ?step2 ?fin2 ?init2) ?post2)
        case init2 => exact ⟨hb', rfl, M2, f3, f4, f5⟩
        case fin2 =>
          rintro d st3 ⟨u1, u2, u3⟩
          rw [u2]
          exact ⟨u1, u3⟩
        case step2 =>
          rintro y d st3 _ hy ⟨u1, u2, ⟨M3, u3, u4, u5⟩⟩
          obtain ⟨d0, got3, i3, j3, g3, ca3, cb3⟩ := d
          dsimp only at u2 M3 u3 u4 u5
          subst u2
          refine turn0_ok (g := g3) (ca := ca3) (cb := cb3) (n0 := x + 1) C hk u1 T M3 u3 u4 (by show x + 1 ≤ i3 + j3; omega) fun r got' i' j' g' ca' cb' dn st4 hb4 L hd => ?_
          cases dn with
          | true => exact ⟨hb4, L⟩
          | false =>
            have e : r = none := by simpa using hd
            subst e
            exact ⟨hb4, rfl, L⟩
        case post2 =>
          rintro d st3 ⟨u1, L3⟩
          obtain ⟨d0, got3, i3, j3, g3, ca3, cb3⟩ := d
          dsimp only at L3 ⊢
          cases d0 with
          | some z => exact wpS_pure ⟨u1, z, rfl, L3⟩
          | none =>
            dsimp only
            rw [setG_eq]
            exact wpS_bind (wpS_modify (wpS_pure ⟨u1.setg _, rfl, L3⟩))
end
end TS

namespace TS
open PySem PyProof.Rows
def mhi : Array Keyed → Array Keyed → StateT SortSt Sem (Array Keyed) := sortPriv% PySem.Builtin.mergeHi
/-- the heads of both and what is got, turned round -/
def headA (a b : Array Keyed) (got : Array Keyed) (m n : Nat) : Array Keyed := a.extract 0 m ++ b.extract 0 n ++ got.reverse
def headB (a b : Array Keyed) (got : Array Keyed) (m n : Nat) : Array Keyed := b.extract 0 n ++ a.extract 0 m ++ got.reverse
theorem mhi_eq (a b : Array Keyed) : mhi a b = (do
    rule "list.sort.merge-hi"
    let most := a.size + b.size
    let mut m := a.size - 1
    let mut n := b.size
    let mut got : Array Keyed := #[← elem' a m]
    if m == 0 then return headA a b got m n
    if n == 1 then return headB a b got m n
    let mut g := gallopOf (← get)
    for _ in [0:most] do
      let mut ca := 0
      let mut cb := 0
      for _ in [0:most] do
        let some first ← lt' (← elem' b (n - 1)) (← elem' a (m - 1)) | return headA a b got m n
        if first then
          m := m - 1; got := got.push (← elem' a m); ca := ca + 1; cb := 0
          if m == 0 then return headA a b got m n
          if ca ≥ g then break
        else
          n := n - 1; got := got.push (← elem' b n); cb := cb + 1; ca := 0
          if n == 1 then return headB a b got m n
          if cb ≥ g then break
      rule "list.sort.gallop"
      g := g + 1
      for _ in [0:most] do
        if g > 1 then g := g - 1
        setG g
        let some p ← gal false (← elem' b (n - 1)) a 0 m (m - 1) | return headA a b got m n
        let k := m - p
        ca := k
        if k > 0 then
          got := got ++ (a.extract p m).reverse; m := p
          if m == 0 then return headA a b got m n
        n := n - 1; got := got.push (← elem' b n)
        if n == 1 then return headB a b got m n
        let some p ← gal true (← elem' a (m - 1)) b 0 n (n - 1) | return headA a b got m n
        let k := n - p
        cb := k
        if k > 0 then
          got := got ++ (b.extract p n).reverse; n := p
          if n == 1 then return headB a b got m n
          if n == 0 then return headA a b got m n
        m := m - 1; got := got.push (← elem' a m)
        if m == 0 then return headA a b got m n
        if ca < 7 && cb < 7 then break
      g := g + 1
      setG g
    unsupported "internal:list.sort.merge-bound") := rfl
section
variable {prog : Program} {w : World} {A : Around} {E : Value → Shared → Prop} {s : Shared} {κ : SortKind} {G : Keyed → Prop} {rk : Keyed → Int}
/-- turned round -/
def nk (rk : Keyed → Int) : Keyed → Int := fun x => -rk x
theorem pw_rev {l : List Keyed} (h : Pw rk l) : Pw (nk rk) l.reverse := by
  refine List.pairwise_reverse.mpr (h.imp fun {x y} z => ?_)
  show -rk y ≤ -rk x; omega
theorem pw_unrev {l : List Keyed} (h : Pw (nk rk) l) : Pw rk l.reverse := by
  refine List.pairwise_reverse.mpr (h.imp fun {x y} z => ?_)
  have z' : -rk x ≤ -rk y := z
  omega
theorem rev_rest (xs : Array Keyed) {n : Nat} (h : n ≤ xs.size) : (xs.extract 0 n).toList.reverse = xs.toList.reverse.drop (xs.size - n) := by
  rw [Array.toList_extract, List.extract_eq_take_drop, List.drop_zero, Nat.sub_zero, List.drop_reverse, Array.length_toList, show xs.size - (xs.size - n) = n by omega]
theorem rev_chunk (xs : Array Keyed) {p n : Nat} (hp : p ≤ n) (h : n ≤ xs.size) : (xs.extract p n).toList.reverse = (xs.toList.reverse.drop (xs.size - n)).take (n - p) := by
  rw [← rev_rest xs h, List.take_reverse]
  congr 1
  rw [Array.toList_extract, Array.toList_extract, List.extract_eq_take_drop, List.extract_eq_take_drop, List.drop_zero, Nat.sub_zero, List.length_take, Array.length_toList, Nat.min_eq_left h, show n - (n - p) = p by omega, ← List.drop_take]
theorem rev_at {xs : Array Keyed} {n : Nat} {x : Keyed} (h : 1 ≤ n) (e : xs[n - 1]? = some x) : xs.toList.reverse[xs.size - n]? = some x := by
  have hlt : n - 1 < xs.size := (Array.getElem?_eq_some_iff.mp e).1
  rw [List.getElem?_reverse (by simp; omega), Array.length_toList, Array.getElem?_toList, show xs.size - 1 - (xs.size - n) = n - 1 by omega]
  exact e
/-- m of a and n of b are left -/
structure MH (rk : Keyed → Int) (a b got : Array Keyed) (m n : Nat) : Prop where
  mi : MI (nk rk) a.toList.reverse b.toList.reverse got.toList (a.size - m) (b.size - n)
  hm : m ≤ a.size
  hn : n ≤ b.size
theorem mem_rev {xs : Array Keyed} {n : Nat} (h : n ≤ xs.size) {y : Keyed} (hy : y ∈ xs.toList.reverse.drop (xs.size - n)) : ∃ i, i < n ∧ xs[i]? = some y := by
  rw [← rev_rest xs h, List.mem_reverse, Array.toList_extract, List.extract_eq_take_drop, List.drop_zero, Nat.sub_zero] at hy
  obtain ⟨i, hi, e⟩ := List.getElem_of_mem hy
  rw [List.length_take, Array.length_toList] at hi
  refine ⟨i, by omega, ?_⟩
  rw [List.getElem_take] at e
  rw [← Array.getElem?_toList, List.getElem?_eq_getElem (by rw [Array.length_toList]; omega), e]
/-- nothing ahead of place n is more than the item at n - 1 -/
theorem pw_to {xs : Array Keyed} (h : Pw rk xs.toList) {n : Nat} {x : Keyed} (h1 : 1 ≤ n) (hn : n ≤ xs.size) (e : xs[n - 1]? = some x) {y : Keyed} (hy : y ∈ xs.toList.reverse.drop (xs.size - n)) : nk rk x ≤ nk rk y := by
  obtain ⟨i, hi, ei⟩ := mem_rev hn hy
  have := srt_pw h i (n - 1) (Nat.zero_le _) (by omega) (by omega)
  rw [R_some ei, R_some e] at this
  show -rk x ≤ -rk y; omega
structure Two' (G : Keyed → Prop) (rk : Keyed → Int) (a b : Array Keyed) : Prop where
  ga : AllG G a
  gb : AllG G b
  sa : Pw rk a.toList
  sb : Pw rk b.toList
  first : ∀ y, b[0]? = some y → ∀ x ∈ a.toList, rk y ≤ rk x
theorem res_unrev {a b r : List Keyed} (h : Res (nk rk) a.reverse b.reverse r) : Res rk a b r.reverse :=
  ⟨(List.reverse_perm _).trans (h.perm.trans (List.Perm.append (List.reverse_perm _) (List.reverse_perm _))), pw_unrev h.srt⟩
theorem headA_a {a b got : Array Keyed} {m n : Nat} (T : Two' G rk a b) (M : MH rk a b got m n) (h : m = 0) : Res rk a.toList b.toList (headA a b got m n).toList := by
  have := M.mi.swap.fin (pw_rev T.sb) (by simp; omega)
  have e : (headA a b got m n).toList = (got.toList ++ b.toList.reverse.drop (b.size - n)).reverse := by
    unfold headA
    rw [← rev_rest b M.hn, h]
    simp
  rw [e]
  exact res_unrev this.swap
theorem headA_b {a b got : Array Keyed} {m n : Nat} (T : Two' G rk a b) (M : MH rk a b got m n) (h : n = 0) : Res rk a.toList b.toList (headA a b got m n).toList := by
  have := M.mi.fin (pw_rev T.sa) (by simp; omega)
  have e : (headA a b got m n).toList = (got.toList ++ a.toList.reverse.drop (a.size - m)).reverse := by
    unfold headA
    rw [← rev_rest a M.hm, h]
    simp
  rw [e]
  exact res_unrev this
theorem headB_ok {a b got : Array Keyed} {m n : Nat} (T : Two' G rk a b) (M : MH rk a b got m n) (h : n = 1) : Res rk a.toList b.toList (headB a b got m n).toList := by
  have hn := M.hn
  have := M.mi.swap.fin2 (pw_rev T.sb) (pw_rev T.sa) fun x hx y hy => by
    obtain ⟨i, hi, ei⟩ := mem_rev M.hn hy
    have := T.first y (by rw [show (0 : Nat) = i by omega]; exact ei) x (List.mem_reverse.mp hx)
    show -rk x ≤ -rk y; omega
  have e : (headB a b got m n).toList = (got.toList ++ a.toList.reverse.drop (a.size - m) ++ b.toList.reverse.drop (b.size - n)).reverse := by
    unfold headB
    rw [← rev_rest a M.hm, ← rev_rest b M.hn]
    simp
  rw [e]
  exact res_unrev this.swap
theorem MH.stepA {a b got : Array Keyed} {m n : Nat} {x : Keyed} (sa : Pw rk a.toList) (M : MH rk a b got m n) (h1 : 1 ≤ m) (e : a[m - 1]? = some x) (h : ∀ y ∈ b.toList.reverse.drop (b.size - n), nk rk x ≤ nk rk y) : MH rk a b (got.push x) (m - 1) n := by
  have hm := M.hm
  refine ⟨?_, by omega, M.hn⟩
  have := M.mi.step (pw_rev sa) (rev_at h1 e) h
  rw [Array.toList_push, show a.size - (m - 1) = a.size - m + 1 by omega]
  exact this
theorem MH.stepB {a b got : Array Keyed} {m n : Nat} {x : Keyed} (sb : Pw rk b.toList) (M : MH rk a b got m n) (h1 : 1 ≤ n) (e : b[n - 1]? = some x) (h : ∀ y ∈ a.toList.reverse.drop (a.size - m), nk rk x ≤ nk rk y) : MH rk a b (got.push x) m (n - 1) := by
  have hn := M.hn
  refine ⟨?_, M.hm, by omega⟩
  have := (M.mi.swap.step (pw_rev sb) (rev_at h1 e) h).swap
  rw [Array.toList_push, show b.size - (n - 1) = b.size - n + 1 by omega]
  exact this
theorem MH.chunkA {a b got : Array Keyed} {m n p : Nat} (sa : Pw rk a.toList) (M : MH rk a b got m n) (hp : p ≤ m) (h : ∀ i x, p ≤ i → i < m → a[i]? = some x → ∀ y ∈ b.toList.reverse.drop (b.size - n), nk rk x ≤ nk rk y) : MH rk a b (got ++ (a.extract p m).reverse) p n := by
  have hm := M.hm
  refine ⟨?_, by omega, M.hn⟩
  have := M.mi.chunk (k := m - p) (pw_rev sa) (by simp; omega) fun x hx y hy => ?_
  · rw [Array.toList_append, Array.toList_reverse, rev_chunk a hp hm, show a.size - p = a.size - m + (m - p) by omega]
    exact this
  · rw [← rev_chunk a hp hm, List.mem_reverse, Array.toList_extract, List.extract_eq_take_drop] at hx
    obtain ⟨i, hi, e⟩ := mem_take_drop hx
    rw [Array.getElem?_toList] at e
    exact h (p + i) x (by omega) (by omega) e y hy
theorem MH.chunkB {a b got : Array Keyed} {m n p : Nat} (sb : Pw rk b.toList) (M : MH rk a b got m n) (hp : p ≤ n) (h : ∀ i x, p ≤ i → i < n → b[i]? = some x → ∀ y ∈ a.toList.reverse.drop (a.size - m), nk rk x ≤ nk rk y) : MH rk a b (got ++ (b.extract p n).reverse) m p := by
  have hn := M.hn
  refine ⟨?_, M.hm, by omega⟩
  have := (M.mi.swap.chunk (k := n - p) (pw_rev sb) (by simp; omega) fun x hx y hy => ?_).swap
  · rw [Array.toList_append, Array.toList_reverse, rev_chunk b hp hn, show b.size - p = b.size - n + (n - p) by omega]
    exact this
  · rw [← rev_chunk b hp hn, List.mem_reverse, Array.toList_extract, List.extract_eq_take_drop] at hx
    obtain ⟨i, hi, e⟩ := mem_take_drop hx
    rw [Array.getElem?_toList] at e
    exact h (p + i) x (by omega) (by omega) e y hy
end
end TS

namespace TS
open PySem PyProof.Rows
abbrev LH := Option (Array Keyed) × Nat × Nat × Array Keyed × Nat × Nat × Nat
abbrev OH := Option (Array Keyed) × Nat × Nat × Array Keyed × Nat × Nat
def hturn4 (a b : Array Keyed) (g : Nat) (got : Array Keyed) (m n ca cb : Nat) : StateT SortSt Sem (ForInStep LH) := do
  let x ← elem' a (m - 1)
  if (m - 1 == 0) = true then pure (.done (some (headA a b (got.push x) (m - 1) n), m - 1, n, got.push x, g, ca, cb))
  else if (decide (ca < 7) && decide (cb < 7)) = true then pure (.done (none, m - 1, n, got.push x, g, ca, cb)) else pure (.yield (none, m - 1, n, got.push x, g, ca, cb))
def hturn3 (a b : Array Keyed) (g : Nat) (got : Array Keyed) (m n ca cb : Nat) : StateT SortSt Sem (ForInStep LH) := do
  let some p ← gal true (← elem' a (m - 1)) b 0 n (n - 1) | pure (.done (some (headA a b got m n), m, n, got, g, ca, cb))
  if n - p > 0 then
    if (p == 1) = true then pure (.done (some (headB a b (got ++ (b.extract p n).reverse) m p), m, p, got ++ (b.extract p n).reverse, g, ca, n - p))
    else if (p == 0) = true then pure (.done (some (headA a b (got ++ (b.extract p n).reverse) m p), m, p, got ++ (b.extract p n).reverse, g, ca, n - p))
    else hturn4 a b g (got ++ (b.extract p n).reverse) m p ca (n - p)
  else hturn4 a b g got m n ca (n - p)
def hturn2 (a b : Array Keyed) (g : Nat) (got : Array Keyed) (m n ca cb : Nat) : StateT SortSt Sem (ForInStep LH) := do
  let x ← elem' b (n - 1)
  if (n - 1 == 1) = true then pure (.done (some (headB a b (got.push x) m (n - 1)), m, n - 1, got.push x, g, ca, cb))
  else hturn3 a b g (got.push x) m (n - 1) ca cb
def hturn1 (a b : Array Keyed) (g : Nat) (got : Array Keyed) (m n ca cb : Nat) : StateT SortSt Sem (ForInStep LH) := do
  setG g
  let some p ← gal false (← elem' b (n - 1)) a 0 m (m - 1) | pure (.done (some (headA a b got m n), m, n, got, g, ca, cb))
  if m - p > 0 then
    if (p == 0) = true then pure (.done (some (headA a b (got ++ (a.extract p m).reverse) p n), p, n, got ++ (a.extract p m).reverse, g, m - p, cb))
    else hturn2 a b g (got ++ (a.extract p m).reverse) p n (m - p) cb
  else hturn2 a b g got m n (m - p) cb
def hturn0 (a b : Array Keyed) (g : Nat) (got : Array Keyed) (m n ca cb : Nat) : StateT SortSt Sem (ForInStep LH) :=
  if g > 1 then hturn1 a b (g - 1) got m n ca cb else hturn1 a b g got m n ca cb
def oneH (a b : Array Keyed) (g : Nat) (got : Array Keyed) (m n ca cb : Nat) : StateT SortSt Sem (ForInStep OH) := do
  let some fst ← lt' (← elem' b (n - 1)) (← elem' a (m - 1)) | pure (.done (some (headA a b got m n), m, n, got, ca, cb))
  if fst = true then do
    let x ← elem' a (m - 1)
    if (m - 1 == 0) = true then pure (.done (some (headA a b (got.push x) (m - 1) n), m - 1, n, got.push x, ca + 1, 0))
    else if ca + 1 ≥ g then pure (.done (none, m - 1, n, got.push x, ca + 1, 0)) else pure (.yield (none, m - 1, n, got.push x, ca + 1, 0))
  else do
    let x ← elem' b (n - 1)
    if (n - 1 == 1) = true then pure (.done (some (headB a b (got.push x) m (n - 1)), m, n - 1, got.push x, 0, cb + 1))
    else if cb + 1 ≥ g then pure (.done (none, m, n - 1, got.push x, 0, cb + 1)) else pure (.yield (none, m, n - 1, got.push x, 0, cb + 1))
section
variable {prog : Program} {w : World} {A : Around} {E : Value → Shared → Prop} {s : Shared} {κ : SortKind} {G : Keyed → Prop} {rk : Keyed → Int}
/-- what a turn leaves: the end, or fewer than before -/
def LeftH (rk : Keyed → Int) (a b : Array Keyed) (n0 : Nat) (r : Option (Array Keyed)) (got : Array Keyed) (m n : Nat) : Prop :=
  match r with
  | some z => Res rk a.toList b.toList z.toList
  | none => MH rk a b got m n ∧ 0 < m ∧ 1 < n ∧ m + n < n0
theorem oneH_ok {st : SortSt} {a b got : Array Keyed} {g m n ca cb : Nat} {Q : ForInStep OH → SortSt → Prop} (C : Cm prog w A E s κ G rk) (hk : kindOf st = κ) (T : Two' G rk a b) (M : MH rk a b got m n) (h1 : 0 < m) (h2 : 1 < n)
    (h : ∀ r got' m' n' ca' cb' d, LeftH rk a b (m + n) r got' m' n' → (d = true ∨ r = none) → Q (if d then .done (r, m', n', got', ca', cb') else .yield (r, m', n', got', ca', cb')) st) : wpS (model prog w) A E s (oneH a b g got m n ca cb) Q st := by
  have hm := M.hm
  have hn := M.hn
  obtain ⟨x, ex⟩ := get_of_lt (xs := a) (i := m - 1) (by omega)
  obtain ⟨y, ey⟩ := get_of_lt (xs := b) (i := n - 1) (by omega)
  unfold oneH
  refine wpS_bind (elem_ok ey (wpS_bind (elem_ok ex (wpS_bind (C.lt y x st _ (T.gb.at ey) (T.ga.at ex) hk ?_)))))
  dsimp only
  by_cases c : rk y < rk x
  · rw [if_pos (decide_eq_true c)]
    refine wpS_bind (elem_ok ex ?_)
    have M' : MH rk a b (got.push x) (m - 1) n := M.stepA T.sa h1 ex fun z hz => by
      have q := pw_to T.sb (by omega) hn ey hz
      have q' : -rk y ≤ nk rk z := q
      show -rk x ≤ nk rk z; omega
    by_cases c1 : (m - 1 == 0) = true
    · rw [if_pos c1]
      exact wpS_pure (h (some _) _ _ _ _ _ true (headA_a T M' (by simpa using c1)) (.inl rfl))
    · rw [if_neg c1]
      have c1' : m - 1 ≠ 0 := by simpa using c1
      have L : LeftH rk a b (m + n) none (got.push x) (m - 1) n := ⟨M', by omega, h2, by omega⟩
      by_cases c2 : ca + 1 ≥ g
      · rw [if_pos c2]; exact wpS_pure (h none _ _ _ _ _ true L (.inl rfl))
      · rw [if_neg c2]; exact wpS_pure (h none _ _ _ _ _ false L (.inr rfl))
  · rw [if_neg (by simpa using c)]
    refine wpS_bind (elem_ok ey ?_)
    have M' : MH rk a b (got.push y) m (n - 1) := M.stepB T.sb (by omega) ey fun z hz => by
      have q := pw_to T.sa h1 hm ex hz
      have q' : -rk x ≤ nk rk z := q
      show -rk y ≤ nk rk z; omega
    by_cases c1 : (n - 1 == 1) = true
    · rw [if_pos c1]
      exact wpS_pure (h (some _) _ _ _ _ _ true (headB_ok T M' (by simpa using c1)) (.inl rfl))
    · rw [if_neg c1]
      have c1' : n - 1 ≠ 1 := by simpa using c1
      have L : LeftH rk a b (m + n) none (got.push y) m (n - 1) := ⟨M', h1, by omega, by omega⟩
      by_cases c2 : cb + 1 ≥ g
      · rw [if_pos c2]; exact wpS_pure (h none _ _ _ _ _ true L (.inl rfl))
      · rw [if_neg c2]; exact wpS_pure (h none _ _ _ _ _ false L (.inr rfl))
theorem hturn4_ok {st : SortSt} {a b got : Array Keyed} {g m n ca cb n0 : Nat} {Q : ForInStep LH → SortSt → Prop} (T : Two' G rk a b) (M : MH rk a b got m n) (h1 : 0 < m) (h2 : 1 < n) (h0 : m + n ≤ n0)
    (hx : ∀ x, a[m - 1]? = some x → ∀ y ∈ b.toList.reverse.drop (b.size - n), nk rk x ≤ nk rk y)
    (h : ∀ r got' m' n' g' ca' cb' d, LeftH rk a b n0 r got' m' n' → (d = true ∨ r = none) → Q (if d then .done (r, m', n', got', g', ca', cb') else .yield (r, m', n', got', g', ca', cb')) st) : wpS (model prog w) A E s (hturn4 a b g got m n ca cb) Q st := by
  have hm := M.hm
  obtain ⟨x, ex⟩ := get_of_lt (xs := a) (i := m - 1) (by omega)
  unfold hturn4
  refine wpS_bind (elem_ok ex ?_)
  have M' := M.stepA T.sa h1 ex (hx x ex)
  by_cases c1 : (m - 1 == 0) = true
  · rw [if_pos c1]
    exact wpS_pure (h (some _) _ _ _ _ _ _ true (headA_a T M' (by simpa using c1)) (.inl rfl))
  · rw [if_neg c1]
    have c1' : m - 1 ≠ 0 := by simpa using c1
    have L : LeftH rk a b n0 none (got.push x) (m - 1) n := ⟨M', by omega, h2, by omega⟩
    split
    · exact wpS_pure (h none _ _ _ _ _ _ true L (.inl rfl))
    · exact wpS_pure (h none _ _ _ _ _ _ false L (.inr rfl))
theorem hturn3_ok {st : SortSt} {a b got : Array Keyed} {g m n ca cb n0 : Nat} {Q : ForInStep LH → SortSt → Prop} (C : Cm prog w A E s κ G rk) (hk : kindOf st = κ) (T : Two' G rk a b) (M : MH rk a b got m n) (h1 : 0 < m) (h2 : 1 < n) (h0 : m + n ≤ n0)
    (h : ∀ r got' m' n' g' ca' cb' d, LeftH rk a b n0 r got' m' n' → (d = true ∨ r = none) → Q (if d then .done (r, m', n', got', g', ca', cb') else .yield (r, m', n', got', g', ca', cb')) st) : wpS (model prog w) A E s (hturn3 a b g got m n ca cb) Q st := by
  have hm := M.hm
  have hn := M.hn
  obtain ⟨x, ex⟩ := get_of_lt (xs := a) (i := m - 1) (by omega)
  unfold hturn3
  refine wpS_bind (elem_ok ex (wpS_bind (gallop C hk T.gb (T.ga.at ex) (by omega) (by omega) (srt_sub (srt_pw T.sb) (Nat.zero_le _) (by omega)) fun p hp q1 q2 => ?_)))
  dsimp only
  -- what is left of b is less than x
  have rest : ∀ y ∈ b.toList.reverse.drop (b.size - p), nk rk x ≤ nk rk y := fun y hy => by
    obtain ⟨i, hi, ei⟩ := mem_rev (by omega) hy
    have := bey_t (base := 0) (by rw [Nat.zero_add]; exact ei) (q1 i hi)
    show -rk x ≤ -rk y; omega
  by_cases c0 : n - p > 0
  · rw [if_pos c0]
    have M' : MH rk a b (got ++ (b.extract p n).reverse) m p := M.chunkB T.sb hp fun i z hi1 hi2 ez y hy => by
      have q := pw_to T.sa h1 hm ex hy
      have q' : -rk x ≤ nk rk y := q
      have := bey_t' (base := 0) (by rw [Nat.zero_add]; exact ez) (q2 i hi1 hi2)
      show -rk z ≤ nk rk y; omega
    by_cases c1 : (p == 1) = true
    · rw [if_pos c1]
      exact wpS_pure (h (some _) _ _ _ _ _ _ true (headB_ok T M' (by simpa using c1)) (.inl rfl))
    · rw [if_neg c1]
      have c1' : p ≠ 1 := by simpa using c1
      by_cases c2 : (p == 0) = true
      · rw [if_pos c2]
        exact wpS_pure (h (some _) _ _ _ _ _ _ true (headA_b T M' (by simpa using c2)) (.inl rfl))
      · rw [if_neg c2]
        have c2' : p ≠ 0 := by simpa using c2
        exact hturn4_ok T M' h1 (by omega) (by omega) (fun z ez => by rw [ex] at ez; cases ez; exact rest) h
  · rw [if_neg c0]
    have e0 : p = n := by omega
    subst e0
    exact hturn4_ok T M h1 h2 h0 (fun z ez => by rw [ex] at ez; cases ez; exact rest) h
theorem hturn2_ok {st : SortSt} {a b got : Array Keyed} {g m n ca cb n0 : Nat} {Q : ForInStep LH → SortSt → Prop} (C : Cm prog w A E s κ G rk) (hk : kindOf st = κ) (T : Two' G rk a b) (M : MH rk a b got m n) (h1 : 0 < m) (h2 : 1 < n) (h0 : m + n ≤ n0)
    (hy : ∀ y, b[n - 1]? = some y → ∀ x ∈ a.toList.reverse.drop (a.size - m), nk rk y ≤ nk rk x)
    (h : ∀ r got' m' n' g' ca' cb' d, LeftH rk a b n0 r got' m' n' → (d = true ∨ r = none) → Q (if d then .done (r, m', n', got', g', ca', cb') else .yield (r, m', n', got', g', ca', cb')) st) : wpS (model prog w) A E s (hturn2 a b g got m n ca cb) Q st := by
  have hn := M.hn
  obtain ⟨y, ey⟩ := get_of_lt (xs := b) (i := n - 1) (by omega)
  unfold hturn2
  refine wpS_bind (elem_ok ey ?_)
  have M' := M.stepB T.sb (by omega) ey (hy y ey)
  by_cases c1 : (n - 1 == 1) = true
  · rw [if_pos c1]
    exact wpS_pure (h (some _) _ _ _ _ _ _ true (headB_ok T M' (by simpa using c1)) (.inl rfl))
  · rw [if_neg c1]
    have c1' : n - 1 ≠ 1 := by simpa using c1
    exact hturn3_ok C hk T M' h1 (by omega) (by omega) h
theorem hturn1_ok {st0 st : SortSt} {a b got : Array Keyed} {g m n ca cb n0 : Nat} {Q : ForInStep LH → SortSt → Prop} (C : Cm prog w A E s κ G rk) (hk : kindOf st0 = κ) (hb : Sb st0 st) (T : Two' G rk a b) (M : MH rk a b got m n) (h1 : 0 < m) (h2 : 1 < n) (h0 : m + n ≤ n0)
    (h : ∀ r got' m' n' g' ca' cb' d st', Sb st0 st' → LeftH rk a b n0 r got' m' n' → (d = true ∨ r = none) → Q (if d then .done (r, m', n', got', g', ca', cb') else .yield (r, m', n', got', g', ca', cb')) st') : wpS (model prog w) A E s (hturn1 a b g got m n ca cb) Q st := by
  have hm := M.hm
  have hn := M.hn
  obtain ⟨y, ey⟩ := get_of_lt (xs := b) (i := n - 1) (by omega)
  unfold hturn1
  rw [setG_eq]
  have hb' := hb.setg g
  have hk' : kindOf (SortSt.mk' (kindOf st) (arrOf st) (pendingOf st) g (failedOf st)) = κ := hb'.kind.trans hk
  refine wpS_bind (wpS_modify (wpS_bind (elem_ok ey (wpS_bind (gallop C hk' T.ga (T.gb.at ey) (by omega) (by omega) (srt_sub (srt_pw T.sa) (Nat.zero_le _) (by omega)) fun p hp q1 q2 => ?_)))))
  dsimp only
  have h' := fun r got' m' n' g' ca' cb' d => h r got' m' n' g' ca' cb' d _ hb'
  have rest : ∀ x ∈ a.toList.reverse.drop (a.size - p), nk rk y ≤ nk rk x := fun x hx => by
    obtain ⟨i, hi, ei⟩ := mem_rev (by omega) hx
    have := bey_f (base := 0) (by rw [Nat.zero_add]; exact ei) (q1 i hi)
    show -rk y ≤ -rk x; omega
  by_cases c0 : m - p > 0
  · rw [if_pos c0]
    have M' : MH rk a b (got ++ (a.extract p m).reverse) p n := M.chunkA T.sa hp fun i z hi1 hi2 ez x hx => by
      have q := pw_to T.sb (by omega) hn ey hx
      have q' : -rk y ≤ nk rk x := q
      have := bey_f' (base := 0) (by rw [Nat.zero_add]; exact ez) (q2 i hi1 hi2)
      show -rk z ≤ nk rk x; omega
    by_cases c1 : (p == 0) = true
    · rw [if_pos c1]
      exact wpS_pure (h' (some _) _ _ _ _ _ _ true (headA_a T M' (by simpa using c1)) (.inl rfl))
    · rw [if_neg c1]
      have c1' : p ≠ 0 := by simpa using c1
      exact hturn2_ok C hk' T M' (by omega) h2 (by omega) (fun z ez => by rw [ey] at ez; cases ez; exact rest) h'
  · rw [if_neg c0]
    have e0 : p = m := by omega
    subst e0
    exact hturn2_ok C hk' T M h1 h2 h0 (fun z ez => by rw [ey] at ez; cases ez; exact rest) h'
theorem hturn0_ok {st0 st : SortSt} {a b got : Array Keyed} {g m n ca cb n0 : Nat} {Q : ForInStep LH → SortSt → Prop} (C : Cm prog w A E s κ G rk) (hk : kindOf st0 = κ) (hb : Sb st0 st) (T : Two' G rk a b) (M : MH rk a b got m n) (h1 : 0 < m) (h2 : 1 < n) (h0 : m + n ≤ n0)
    (h : ∀ r got' m' n' g' ca' cb' d st', Sb st0 st' → LeftH rk a b n0 r got' m' n' → (d = true ∨ r = none) → Q (if d then .done (r, m', n', got', g', ca', cb') else .yield (r, m', n', got', g', ca', cb')) st') : wpS (model prog w) A E s (hturn0 a b g got m n ca cb) Q st := by
  unfold hturn0
  split
  · exact hturn1_ok C hk hb T M h1 h2 h0 h
  · exact hturn1_ok C hk hb T M h1 h2 h0 h
theorem mhi_ok {st : SortSt} {a b : Array Keyed} {Q : Array Keyed → SortSt → Prop} (C : Cm prog w A E s κ G rk) (hk : kindOf st = κ) (T : Two' G rk a b) (ha : 0 < a.size) (hb : 0 < b.size)
    (last : ∀ x y, b[b.size - 1]? = some x → a[a.size - 1]? = some y → rk x ≤ rk y) (h : ∀ r st', Sb st st' → Res rk a.toList b.toList r.toList → Q r st') : wpS (model prog w) A E s (mhi a b) Q st := by
  obtain ⟨x0, e0⟩ := get_of_lt (xs := b) (i := b.size - 1) (by omega)
  obtain ⟨y0, f0⟩ := get_of_lt (xs := a) (i := a.size - 1) (by omega)
  have M0 : MH rk a b #[] a.size b.size := ⟨⟨by simp, by simp, by simp, List.Pairwise.nil, fun _ z => nomatch z⟩, Nat.le_refl _, Nat.le_refl _⟩
  have M1 : MH rk a b #[y0] (a.size - 1) b.size := M0.stepA T.sa ha f0 fun z hz => by
    have q := pw_to T.sb hb (Nat.le_refl _) e0 hz
    have q' : -rk x0 ≤ nk rk z := q
    have := last _ _ e0 f0
    show -rk y0 ≤ nk rk z; omega
  rw [mhi_eq]
  dsimp only
  refine wpS_bind (wpS_lift (wpAny_rule ⟨rfl, ?_⟩))
  refine wpS_bind (elem_ok f0 ?_)
  by_cases c1 : (a.size - 1 == 0) = true
  · rw [if_pos c1]
    exact wpS_pure (h _ _ (Sb.refl _) (headA_a T M1 (by simpa using c1)))
  rw [if_neg c1]
  have c1' : a.size - 1 ≠ 0 := by simpa using c1
  by_cases c2 : (b.size == 1) = true
  · rw [if_pos c2]
    exact wpS_pure (h _ _ (Sb.refl _) (headB_ok T M1 (by simpa using c2)))
  rw [if_neg c2]
  have c2' : b.size ≠ 1 := by simpa using c2
  refine wpS_bind (wpS_get ?_)
  refine wpS_bind (wpS_mono (wpS_forRange (I := fun x c st' => Sb st st' ∧ c.1 = none ∧ LeftH rk a b (a.size + b.size - x) none c.2.2.2.1 c.2.1 c.2.2.1)
    (Q := fun c st' => Sb st st' ∧ ∃ z, c.1 = some z ∧ Res rk a.toList b.toList z.toList) ?step ?fin ?init) ?post)
  case init => exact ⟨Sb.refl _, rfl, M1, by show 0 < a.size - 1; omega, by show 1 < b.size; omega, by show a.size - 1 + b.size < a.size + b.size - 0; omega⟩
  case fin =>
    rintro c st' ⟨e1, e2, M, e3, e4, e5⟩
    exfalso
    omega
  case post =>
    rintro c st' ⟨hb', z, e1, e2⟩
    rw [e1]
    exact wpS_pure (h z _ hb' e2)
  case step =>
    rintro x c st' _ hx ⟨hb', e2, M, e3, e4, e5⟩
    obtain ⟨c0, m, n, got, g⟩ := c
    dsimp only at e2 M e3 e4 e5
    subst e2
    dsimp only
    refine wpS_bind (wpS_mono (wpS_forRange (I := fun y d st2 => st2 = st' ∧ d.1 = none ∧ LeftH rk a b (a.size + b.size - x) none d.2.2.2.1 d.2.1 d.2.2.1 ∧ (0 < y → d.2.1 + d.2.2.1 < a.size + b.size - (x + 1)))
      (Q := fun d st2 => st2 = st' ∧ LeftH rk a b (a.size + b.size - (x + 1)) d.1 d.2.2.2.1 d.2.1 d.2.2.1) ?step1 ?fin1 ?init1) ?post1)
    case init1 => exact ⟨rfl, rfl, ⟨M, e3, e4, e5⟩, fun z => absurd z (Nat.lt_irrefl _)⟩
    case fin1 =>
      rintro d st2 ⟨f1, f2, ⟨f3, f4, f5, f6⟩, f7⟩
      rw [f2]
      exact ⟨f1, f3, f4, f5, f7 (by omega)⟩
    case step1 =>
      rintro y d st2 _ hy ⟨rfl, f2, ⟨M2, f3, f4, f5⟩, f6⟩
      obtain ⟨d0, m2, n2, got2, ca, cb⟩ := d
      dsimp only at f2 M2 f3 f4 f5 f6
      subst f2
      refine oneH_ok (g := g) (ca := ca) (cb := cb) C (hb'.kind.trans hk) T M2 f3 f4 fun r got' m' n' ca' cb' dn L hd => ?_
      have L' : LeftH rk a b (a.size + b.size - (x + 1)) r got' m' n' := by
        cases r with
        | some z => exact L
        | none => exact ⟨L.1, L.2.1, L.2.2.1, by have q : m' + n' < m2 + n2 := L.2.2.2; omega⟩
      cases dn with
      | true => exact ⟨rfl, L'⟩
      | false =>
        have e : r = none := by simpa using hd
        subst e
        exact ⟨rfl, rfl, ⟨L'.1, L'.2.1, L'.2.2.1, by have q : m' + n' < a.size + b.size - (x + 1) := L'.2.2.2; show m' + n' < _; omega⟩, fun _ => L'.2.2.2⟩
    case post1 =>
      rintro d st2 ⟨rfl, L⟩
      obtain ⟨d0, m2, n2, got2, ca, cb⟩ := d
      dsimp only at L ⊢
      cases d0 with
      | some z => exact wpS_pure ⟨hb', z, rfl, L⟩
      | none =>
        obtain ⟨M2, f3, f4, f5⟩ := L
        dsimp only
        refine wpS_bind (wpS_lift (wpAny_rule ⟨rfl, ?_⟩))
        refine wpS_bind (wpS_mono (wpS_forRange (I := fun y d st3 => Sb st st3 ∧ d.1 = none ∧ LeftH rk a b (a.size + b.size - (x + 1)) none d.2.2.2.1 d.2.1 d.2.2.1)
          (Q := fun d st3 => Sb st st3 ∧ LeftH rk a b (a.size + b.size - (x + 1)) d.1 d.2.2.2.1 d.2.1 d.2.2.1) ?step2 ?fin2 ?init2) ?post2)
        case init2 => exact ⟨hb', rfl, M2, f3, f4, f5⟩
        case fin2 =>
          rintro d st3 ⟨u1, u2, u3⟩
          rw [u2]
          exact ⟨u1, u3⟩
        case step2 =>
          rintro y d st3 _ hy ⟨u1, u2, ⟨M3, u3, u4, u5⟩⟩
          obtain ⟨d0, m3, n3, got3, g3, ca3, cb3⟩ := d
          dsimp only at u2 M3 u3 u4 u5
          subst u2
          refine hturn0_ok (g := g3) (ca := ca3) (cb := cb3) (n0 := a.size + b.size - (x + 1)) C hk u1 T M3 u3 u4 (by show m3 + n3 ≤ _; omega) fun r got' m' n' g' ca' cb' dn st4 hb4 L hd => ?_
          cases dn with
          | true => exact ⟨hb4, L⟩
          | false =>
            have e : r = none := by simpa using hd
            subst e
            exact ⟨hb4, rfl, L⟩
        case post2 =>
          rintro d st3 ⟨u1, L3⟩
          obtain ⟨d0, m3, n3, got3, g3, ca3, cb3⟩ := d
          dsimp only at L3 ⊢
          cases d0 with
          | some z => exact wpS_pure ⟨u1, z, rfl, L3⟩
          | none =>
            dsimp only
            rw [setG_eq]
            exact wpS_bind (wpS_modify (wpS_pure ⟨u1.setg _, rfl, L3⟩))
end
end TS

namespace TS
open PySem PyProof.Rows
theorem mat_eq (i : Nat) : mergeAt' i = (do
    let st ← get
    let (some (p, m, pw), some (q, n, _)) := ((pendingOf st)[i]?, (pendingOf st)[i + 1]?) | unsupported "internal:list.sort.pending"
    set (setPending st (((pendingOf st).setIfInBounds i (p, m + n, pw)).eraseIdxIfInBounds (i + 1)))
    let some k ← gal false (← elem' (arrOf st) q) (arrOf st) p m 0 | return false
    let (p, m) := (p + k, m - k)
    if m == 0 then return true
    let some n ← gal true (← elem' (arrOf st) (p + m - 1)) (arrOf st) q n (n - 1) | return false
    if n == 0 then return true
    let x := (arrOf st).extract p q
    let y := (arrOf st).extract q (q + n)
    let z ← if m ≤ n then mlo x y else mhi x y
    modify fun st => setArr st (z.toList.zipIdx.foldl (fun a (v, j) => a.setIfInBounds (p + j) v) (arrOf st))
    return (failedOf (← get)).isNone) := rfl
/-- runs, one behind the other, from a to z -/
def Runs : Nat → List (Nat × Nat × Nat) → Nat → Prop
  | a, [], z => a = z
  | a, t :: r, z => t.1 = a ∧ 0 < t.2.1 ∧ Runs (a + t.2.1) r z
structure Pd (rk : Keyed → Int) (xs : Array Keyed) (pend : Array (Nat × Nat × Nat)) (z : Nat) : Prop where
  runs : Runs 0 pend.toList z
  srt : ∀ t ∈ pend.toList, Srt rk xs t.1 (t.1 + t.2.1)
theorem Runs.le : ∀ {l : List (Nat × Nat × Nat)} {a z : Nat}, Runs a l z → a + l.length ≤ z
  | [], a, z, h => Nat.le_of_eq h
  | t :: r, a, z, ⟨_, h2, h3⟩ => by have := Runs.le h3; simp only [List.length_cons]; omega
theorem Runs.mem : ∀ {l : List (Nat × Nat × Nat)} {a z : Nat}, Runs a l z → ∀ t ∈ l, a ≤ t.1 ∧ t.1 + t.2.1 ≤ z
  | t :: r, a, z, ⟨h1, h2, h3⟩, u, hu => by
    have hle := Runs.le h3
    rcases List.mem_cons.mp hu with rfl | hu
    · omega
    · have := Runs.mem h3 u hu; omega
theorem Runs.append : ∀ {l r : List (Nat × Nat × Nat)} {a y z : Nat}, Runs a l y → Runs y r z → Runs a (l ++ r) z
  | [], r, a, y, z, h, k => by cases h; exact k
  | t :: l, r, a, y, z, ⟨h1, h2, h3⟩, k => ⟨h1, h2, Runs.append h3 k⟩
theorem Runs.split : ∀ {l r : List (Nat × Nat × Nat)} {a z : Nat}, Runs a (l ++ r) z → ∃ y, Runs a l y ∧ Runs y r z
  | [], r, a, z, h => ⟨a, rfl, h⟩
  | t :: l, r, a, z, ⟨h1, h2, h3⟩ => by
    obtain ⟨y, e1, e2⟩ := Runs.split h3
    exact ⟨y, ⟨h1, h2, e1⟩, e2⟩
theorem write_at {p : Nat} : ∀ (l : List Keyed) (j0 : Nat) (a : Array Keyed) (k : Nat), p + j0 + l.length ≤ a.size →
    ((l.zipIdx j0).foldl (fun a (v : Keyed × Nat) => a.setIfInBounds (p + v.2) v.1) a)[k]? = if p + j0 ≤ k ∧ k < p + j0 + l.length then l[k - (p + j0)]? else a[k]?
  | [], j0, a, k, _ => by
    rw [if_neg (by simp only [List.length_nil]; omega)]; rfl
  | v :: l, j0, a, k, h => by
    simp only [List.length_cons] at h
    rw [List.zipIdx_cons, List.foldl_cons, write_at l (j0 + 1) _ k (by rw [Array.size_setIfInBounds]; omega)]
    simp only [List.length_cons]
    by_cases c : p + j0 = k
    · subst c
      rw [if_neg (by omega), if_pos (by omega), Nat.sub_self, Array.getElem?_setIfInBounds_self_of_lt (by omega)]
      rfl
    · by_cases c2 : p + (j0 + 1) ≤ k ∧ k < p + (j0 + 1) + l.length
      · rw [if_pos c2, if_pos (by omega), show k - (p + j0) = (k - (p + (j0 + 1))) + 1 by omega, List.getElem?_cons_succ]
      · rw [if_neg c2, if_neg (by omega), Array.getElem?_setIfInBounds_ne (by omega)]
section
variable {prog : Program} {w : World} {A : Around} {E : Value → Shared → Prop} {s : Shared} {κ : SortKind} {G : Keyed → Prop} {rk : Keyed → Int} {a₀ : Array Keyed}
theorem get_ext {xs : Array Keyed} {i j k : Nat} (h : i + k < j) (hj : j ≤ xs.size) : (xs.extract i j)[k]? = xs[i + k]? := by
  rw [Array.getElem?_extract, if_pos (by omega)]
theorem ext_pw {xs : Array Keyed} {i j : Nat} (hs : Srt rk xs i j) (hj : j ≤ xs.size) : Pw rk (xs.extract i j).toList := by
  refine List.pairwise_iff_getElem.mpr fun a b ha hb hab => ?_
  have sz : (xs.extract i j).size = j - i := by rw [Array.size_extract]; omega
  rw [Array.length_toList, sz] at ha hb
  have e1 : (xs.extract i j).toList[a]? = xs[i + a]? := by rw [Array.getElem?_toList]; exact get_ext (by omega) hj
  have e2 : (xs.extract i j).toList[b]? = xs[i + b]? := by rw [Array.getElem?_toList]; exact get_ext (by omega) hj
  have f1 := List.getElem?_eq_getElem (l := (xs.extract i j).toList) (i := a) (by rw [Array.length_toList, sz]; omega)
  have f2 := List.getElem?_eq_getElem (l := (xs.extract i j).toList) (i := b) (by rw [Array.length_toList, sz]; omega)
  have := hs (i + a) (i + b) (by omega) (by omega) (by omega)
  rwa [R_some (e1.symm.trans f1), R_some (e2.symm.trans f2)] at this
theorem mem_ext {xs : Array Keyed} {i j : Nat} (hj : j ≤ xs.size) {y : Keyed} (h : y ∈ (xs.extract i j).toList) : ∃ k, i ≤ k ∧ k < j ∧ xs[k]? = some y := by
  obtain ⟨n, hn, e⟩ := List.getElem_of_mem h
  have sz : (xs.extract i j).size = j - i := by rw [Array.size_extract]; omega
  rw [Array.length_toList, sz] at hn
  refine ⟨i + n, by omega, by omega, ?_⟩
  rw [← get_ext (j := j) (by omega) hj, ← Array.getElem?_toList, List.getElem?_eq_getElem (by rw [Array.length_toList, sz]; omega), e]
/-- a stretch is put in the place of another of the same things -/
theorem put_perm {xs : Array Keyed} {z : List Keyed} {p e : Nat} (he : e ≤ xs.size) (hp : p ≤ e) (hz : z.Perm (xs.extract p e).toList) :
    ((z.zipIdx 0).foldl (fun a (v : Keyed × Nat) => a.setIfInBounds (p + v.2) v.1) xs).Perm xs := by
  have hl : z.length = e - p := by
    rw [hz.length_eq, Array.length_toList, Array.size_extract]; omega
  rw [Array.perm_iff_toList_perm]
  have e1 : ((z.zipIdx 0).foldl (fun a (v : Keyed × Nat) => a.setIfInBounds (p + v.2) v.1) xs).toList = xs.toList.take p ++ (z ++ xs.toList.drop e) := by
    refine List.ext_getElem? fun k => ?_
    rw [Array.getElem?_toList, write_at z 0 xs k (by omega), Nat.add_zero, hl]
    have ltp : (xs.toList.take p).length = p := by rw [List.length_take, Array.length_toList]; omega
    by_cases c1 : k < p
    · rw [if_neg (by omega), List.getElem?_append_left (by omega), List.getElem?_take_of_lt c1, Array.getElem?_toList]
    · rw [List.getElem?_append_right (by omega), ltp]
      by_cases c2 : k < e
      · rw [if_pos (by omega), List.getElem?_append_left (by omega)]
      · rw [if_neg (by omega), List.getElem?_append_right (by omega), List.getElem?_drop, hl, show e + (k - p - (e - p)) = k by omega, Array.getElem?_toList]
  have e2 : xs.toList = xs.toList.take p ++ ((xs.extract p e).toList ++ xs.toList.drop e) := by
    rw [Array.toList_extract, List.extract_eq_take_drop]
    have : (xs.toList.drop p).take (e - p) ++ xs.toList.drop e = xs.toList.drop p := by
      have e3 : xs.toList.drop e = (xs.toList.drop p).drop (e - p) := by rw [List.drop_drop]; congr 1; omega
      rw [e3, List.take_append_drop]
    rw [this, List.take_append_drop]
  rw [e1]
  conv => rhs; rw [e2]
  exact List.Perm.append_left _ (List.Perm.append_right _ hz)
end
end TS

namespace TS
open PySem PyProof.Rows
section
variable {prog : Program} {w : World} {A : Around} {E : Value → Shared → Prop} {s : Shared} {κ : SortKind} {G : Keyed → Prop} {rk : Keyed → Int} {a₀ : Array Keyed}
theorem srt_frame {xs ys : Array Keyed} {a b : Nat} (h : ∀ k, a ≤ k → k < b → ys[k]? = xs[k]?) (hs : Srt rk xs a b) : Srt rk ys a b := fun i j ha hij hj => by
  rw [R_congr (h i ha (by omega)), R_congr (h j (by omega) hj)]
  exact hs i j ha hij hj
theorem srt_join {xs : Array Keyed} {a b c : Nat} (h1 : Srt rk xs a b) (h2 : Srt rk xs b c) (h : ∀ i j, a ≤ i → i < b → b ≤ j → j < c → R rk xs i ≤ R rk xs j) : Srt rk xs a c := fun i j ha hij hj => by
  by_cases c1 : j < b
  · exact h1 i j ha hij c1
  · by_cases c2 : i < b
    · exact h i j ha c2 (by omega) hj
    · exact h2 i j (by omega) hij hj
theorem list_two {α : Type} {l : List α} {i : Nat} (h : i + 1 < l.length) : ∃ t u, l[i]? = some t ∧ l[i + 1]? = some u ∧ l = l.take i ++ t :: u :: l.drop (i + 2) := by
  refine ⟨l[i], l[i + 1], List.getElem?_eq_getElem (by omega), List.getElem?_eq_getElem h, ?_⟩
  rw [← List.drop_eq_getElem_cons h, ← List.drop_eq_getElem_cons (by omega : i < l.length), List.take_append_drop]
theorem new_pend {α : Type} {xs : Array α} {i : Nat} {v t u : α} {r l : List α} (hi : l.length = i) (e : xs.toList = l ++ t :: u :: r) : ((xs.setIfInBounds i v).eraseIdxIfInBounds (i + 1)).toList = l ++ v :: r := by
  rw [Array.toList_eraseIdxIfInBounds, Array.toList_setIfInBounds, e, List.set_append_right _ _ (by omega), hi, Nat.sub_self, List.set_cons_zero, List.eraseIdx_append_of_length_le (by omega), hi, show i + 1 - i = 1 by omega]
  rfl
theorem mergeAt_ok {st : SortSt} {i z : Nat} {Q : Bool → SortSt → Prop} (C : Cm prog w A E s κ G rk) (g0 : AllG G a₀) (hB : B κ a₀ st) (P : Pd rk (arrOf st) (pendingOf st) z) (hz : z ≤ a₀.size) (hi : i + 1 < (pendingOf st).size)
    (h : ∀ st', B κ a₀ st' → Pd rk (arrOf st') (pendingOf st') z → (pendingOf st').size + 1 = (pendingOf st).size → (∀ k, z ≤ k → (arrOf st')[k]? = (arrOf st)[k]?) → Q true st') : wpS (model prog w) A E s (mergeAt' i) Q st := by
  have hsz := hB.size
  have hg := g0.perm hB.perm
  obtain ⟨t, u, et, eu, el⟩ := list_two (l := (pendingOf st).toList) (i := i) (by simpa using hi)
  have hr := P.runs
  rw [el] at hr
  obtain ⟨y, r1, r2⟩ := Runs.split hr
  obtain ⟨p, m, pw⟩ := t
  obtain ⟨q, n, pw2⟩ := u
  obtain ⟨a1, a2, a3, a4, a5⟩ := r2
  dsimp only at a1 a2 a3 a4 a5
  subst a1
  have eq : q = p + m := a3
  have st1 := P.srt (p, m, pw) (by rw [el]; simp)
  have st2 := P.srt (q, n, pw2) (by rw [el]; simp)
  dsimp only at st1 st2
  have zl := Runs.le a5
  have newl := new_pend (v := (p, m + n, pw)) (i := i) (by rw [List.length_take]; simp; omega) el
  have nsz : (((pendingOf st).setIfInBounds i (p, m + n, pw)).eraseIdxIfInBounds (i + 1)).size + 1 = (pendingOf st).size := by
    have h1 := congrArg List.length newl
    have h2 := congrArg List.length el
    simp only [Array.length_toList, List.length_append, List.length_cons] at h1 h2
    omega
  -- the end, from any array that is so
  have fin : ∀ (ys : Array Keyed), (∀ k, k < p ∨ p + m + n ≤ k → ys[k]? = (arrOf st)[k]?) → Srt rk ys p (p + (m + n)) → Pd rk ys (((pendingOf st).setIfInBounds i (p, m + n, pw)).eraseIdxIfInBounds (i + 1)) z := fun ys fr sy => by
    refine ⟨?_, fun v hv => ?_⟩
    · rw [newl]
      exact Runs.append r1 ⟨rfl, by show 0 < m + n; omega, by show Runs (p + (m + n)) _ z; rw [show p + (m + n) = p + m + n by omega]; exact a5⟩
    · rw [newl] at hv
      rcases List.mem_append.mp hv with hv | hv
      · have b1 := Runs.mem r1 v hv
        exact srt_frame (fun k k1 k2 => fr k (.inl (by omega))) (P.srt v (by rw [el]; exact List.mem_append_left _ hv))
      · rcases List.mem_cons.mp hv with rfl | hv
        · exact sy
        · have b1 := Runs.mem a5 v hv
          exact srt_frame (fun k k1 k2 => fr k (.inr (by omega))) (P.srt v (by rw [el]; simp [hv]))
  rw [mat_eq]
  refine wpS_bind (wpS_get ?_)
  have et' : (pendingOf st)[i]? = some (p, m, pw) := by rw [← Array.getElem?_toList]; exact et
  have eu' : (pendingOf st)[i + 1]? = some (q, n, pw2) := by rw [← Array.getElem?_toList]; exact eu
  dsimp only
  rw [et', eu']
  dsimp only
  obtain ⟨bq, ebq⟩ := get_of_lt (xs := arrOf st) (i := q) (by omega)
  refine wpS_bind (?_ : wpS _ _ _ _ (set _) _ _)
  show wpAny _ _ _ _ _ _
  refine wpAny_pure ⟨rfl, ?_⟩
  have hk1 : kindOf (setPending st (((pendingOf st).setIfInBounds i (p, m + n, pw)).eraseIdxIfInBounds (i + 1))) = κ := hB.kind
  refine wpS_bind (elem_ok ebq (wpS_bind (gallop C hk1 hg (hg.at ebq) (by omega) (by omega) st1 fun k hk q1 q2 => ?_)))
  dsimp only
  have low : ∀ j, p ≤ j → j < p + k → R rk (arrOf st) j ≤ R rk (arrOf st) q := fun j j1 j2 => by
    obtain ⟨x, ex⟩ := get_of_lt (xs := arrOf st) (i := j) (by omega)
    rw [R_some ebq, R_some ex]
    exact bey_f (base := p) (i := j - p) (by rw [show p + (j - p) = j by omega]; exact ex) (q1 (j - p) (by omega))
  by_cases c1 : (m - k == 0) = true
  · rw [if_pos c1]
    have c1' : m - k = 0 := by simpa using c1
    refine wpS_pure (h _ ⟨hB.perm, hB.kind, hB.failed⟩ (fin _ (fun _ _ => rfl) ?_) nsz fun _ _ => rfl)
    refine srt_join (b := p + m) st1 (by rw [← eq, show p + (m + n) = q + n by omega]; exact st2) fun i' j' b1 b2 b3 b4 => ?_
    exact Int.le_trans (low i' b1 (by omega)) (st2 q j' (Nat.le_refl _) (by omega) (by omega))
  rw [if_neg c1]
  have c1' : m - k ≠ 0 := by simpa using c1
  obtain ⟨la, ela⟩ := get_of_lt (xs := arrOf st) (i := p + k + (m - k) - 1) (by omega)
  refine wpS_bind (elem_ok ela (wpS_bind (gallop C hk1 hg (hg.at ela) (by omega) (by omega) st2 fun n' hn' u1 u2 => ?_)))
  dsimp only
  have elq : (arrOf st)[q - 1]? = some la := by rw [show q - 1 = p + k + (m - k) - 1 by omega]; exact ela
  have high : ∀ j, q + n' ≤ j → j < q + n → R rk (arrOf st) (q - 1) ≤ R rk (arrOf st) j := fun j j1 j2 => by
    obtain ⟨x, ex⟩ := get_of_lt (xs := arrOf st) (i := j) (by omega)
    rw [R_some elq, R_some ex]
    exact bey_t' (base := q) (i := j - q) (by rw [show q + (j - q) = j by omega]; exact ex) (u2 (j - q) (by omega) (by omega))
  by_cases c2 : (n' == 0) = true
  · rw [if_pos c2]
    have c2' : n' = 0 := by simpa using c2
    refine wpS_pure (h _ ⟨hB.perm, hB.kind, hB.failed⟩ (fin _ (fun _ _ => rfl) ?_) nsz fun _ _ => rfl)
    refine srt_join (b := p + m) st1 (by rw [← eq, show p + (m + n) = q + n by omega]; exact st2) fun i' j' b1 b2 b3 b4 => ?_
    exact Int.le_trans (st1 i' (q - 1) b1 (by omega) (by omega)) (high j' (by omega) (by omega))
  rw [if_neg c2]
  have c2' : n' ≠ 0 := by simpa using c2
  -- the two stretches
  have sx : ((arrOf st).extract (p + k) q).size = m - k := by rw [Array.size_extract]; omega
  have sy : ((arrOf st).extract q (q + n')).size = n' := by rw [Array.size_extract]; omega
  have px : Pw rk ((arrOf st).extract (p + k) q).toList := ext_pw (srt_sub st1 (by omega) (by omega)) (by omega)
  have py : Pw rk ((arrOf st).extract q (q + n')).toList := ext_pw (srt_sub st2 (by omega) (by omega)) (by omega)
  have gx : AllG G ((arrOf st).extract (p + k) q) := fun v hv => by
    obtain ⟨j, _, _, e⟩ := mem_ext (by omega) hv; exact hg.at e
  have gy : AllG G ((arrOf st).extract q (q + n')) := fun v hv => by
    obtain ⟨j, _, _, e⟩ := mem_ext (by omega) hv; exact hg.at e
  -- the first of b is at most all of a that is left; all of b that is left is at most the last of a
  have fst1 : ∀ j, p + k ≤ j → j < q → R rk (arrOf st) q ≤ R rk (arrOf st) j := fun j j1 j2 => by
    obtain ⟨x, ex⟩ := get_of_lt (xs := arrOf st) (i := j) (by omega)
    rw [R_some ebq, R_some ex]
    exact Int.le_of_lt (bey_f' (base := p) (i := j - p) (by rw [show p + (j - p) = j by omega]; exact ex) (q2 (j - p) (by omega) (by omega)))
  have lst1 : ∀ j, q ≤ j → j < q + n' → R rk (arrOf st) j ≤ R rk (arrOf st) (q - 1) := fun j j1 j2 => by
    obtain ⟨x, ex⟩ := get_of_lt (xs := arrOf st) (i := j) (by omega)
    rw [R_some elq, R_some ex]
    exact Int.le_of_lt (bey_t (base := q) (i := j - q) (by rw [show q + (j - q) = j by omega]; exact ex) (u1 (j - q) (by omega)))
  -- behind the merge
  have done : ∀ (r : Array Keyed) (st' : SortSt), Sb (setPending st (((pendingOf st).setIfInBounds i (p, m + n, pw)).eraseIdxIfInBounds (i + 1))) st' → Res rk ((arrOf st).extract (p + k) q).toList ((arrOf st).extract q (q + n')).toList r.toList →
      wpS (model prog w) A E s (do
        modify fun st => setArr st (r.toList.zipIdx.foldl (fun a (v, j) => a.setIfInBounds (p + k + j) v) (arrOf st))
        return (failedOf (← get)).isNone) Q st' := fun r st' sb res => by
    have ej : ((arrOf st).extract (p + k) q).toList ++ ((arrOf st).extract q (q + n')).toList = ((arrOf st).extract (p + k) (q + n')).toList := by
      rw [← Array.toList_append, Array.extract_append_extract]
      congr 2 <;> omega
    have rp : r.toList.Perm ((arrOf st).extract (p + k) (q + n')).toList := by rw [← ej]; exact res.perm
    have rl : r.toList.length = m - k + n' := by rw [rp.length_eq, Array.length_toList, Array.size_extract]; omega
    refine wpS_bind (wpS_modify (wpS_bind (wpS_get ?_)))
    have sarr : arrOf st' = arrOf st := sb.arr
    have wr := put_perm (xs := arrOf st) (z := r.toList) (p := p + k) (e := q + n') (by omega) (by omega) rp
    have hw : ∀ j, ((r.toList.zipIdx 0).foldl (fun a (v : Keyed × Nat) => a.setIfInBounds (p + k + v.2) v.1) (arrOf st))[j]? = if p + k ≤ j ∧ j < q + n' then r.toList[j - (p + k)]? else (arrOf st)[j]? := fun j => by
      have := write_at (p := p + k) r.toList 0 (arrOf st) j (by omega)
      rw [Nat.add_zero, rl, show p + k + (m - k + n') = q + n' by omega] at this
      exact this
    have hin : ∀ j x, p + k ≤ j → j < q + n' → r.toList[j - (p + k)]? = some x → (∃ d, p + k ≤ d ∧ d < q ∧ (arrOf st)[d]? = some x) ∨ ∃ d, q ≤ d ∧ d < q + n' ∧ (arrOf st)[d]? = some x := fun j x _ _ e => by
      have hm := res.perm.mem_iff.mp (List.mem_of_getElem? e)
      rcases List.mem_append.mp hm with hm | hm
      · exact .inl (mem_ext (by omega) hm)
      · exact .inr (mem_ext (by omega) hm)
    have rk' : ∀ j, p + k ≤ j → j < q + n' → ∃ x, r.toList[j - (p + k)]? = some x := fun j j1 j2 => ⟨r.toList[j - (p + k)]'(by omega), List.getElem?_eq_getElem _⟩
    have fl : failedOf (setArr st' (r.toList.zipIdx.foldl (fun a (v, j) => a.setIfInBounds (p + k + j) v) (arrOf st'))) = none := sb.failed.trans hB.failed
    rw [fl]
    refine wpS_pure (h _ ⟨?_, sb.kind.trans hB.kind, fl⟩ ?_ ?_ fun j hj => ?_)
    · show (r.toList.zipIdx.foldl (fun a (v : Keyed × Nat) => a.setIfInBounds (p + k + v.2) v.1) (arrOf st')).Perm a₀
      rw [sarr]; exact wr.trans hB.perm
    · have pe : pendingOf (setArr st' (r.toList.zipIdx.foldl (fun a (v, j) => a.setIfInBounds (p + k + j) v) (arrOf st'))) = (((pendingOf st).setIfInBounds i (p, m + n, pw)).eraseIdxIfInBounds (i + 1)) := sb.pend
      rw [pe]
      show Pd rk (r.toList.zipIdx.foldl (fun a (v : Keyed × Nat) => a.setIfInBounds (p + k + v.2) v.1) (arrOf st')) _ z
      rw [sarr]
      refine fin _ (fun j hj => by rw [hw, if_neg (by omega)]) ?_
      -- three stretches
      have s1 : Srt rk ((r.toList.zipIdx 0).foldl (fun a (v : Keyed × Nat) => a.setIfInBounds (p + k + v.2) v.1) (arrOf st)) p (p + k) := srt_frame (fun j j1 j2 => by rw [hw, if_neg (by omega)]) (srt_sub st1 (Nat.le_refl _) (by omega))
      have s3 : Srt rk ((r.toList.zipIdx 0).foldl (fun a (v : Keyed × Nat) => a.setIfInBounds (p + k + v.2) v.1) (arrOf st)) (q + n') (q + n) := srt_frame (fun j j1 j2 => by rw [hw, if_neg (by omega)]) (srt_sub st2 (by omega) (Nat.le_refl _))
      have s2 : Srt rk ((r.toList.zipIdx 0).foldl (fun a (v : Keyed × Nat) => a.setIfInBounds (p + k + v.2) v.1) (arrOf st)) (p + k) (q + n') := fun a b a1 ab b1 => by
        obtain ⟨xa, ea⟩ := rk' a a1 (by omega)
        obtain ⟨xb, eb⟩ := rk' b (by omega) b1
        rw [R_some (p := xa) (by rw [hw, if_pos (by omega)]; exact ea), R_some (p := xb) (by rw [hw, if_pos (by omega)]; exact eb)]
        by_cases cab : a = b
        · subst cab; rw [ea] at eb; cases eb; exact Int.le_refl _
        · have la := (List.getElem?_eq_some_iff.mp ea)
          have lb := (List.getElem?_eq_some_iff.mp eb)
          have := List.pairwise_iff_getElem.mp res.srt (a - (p + k)) (b - (p + k)) la.1 lb.1 (by omega)
          rwa [la.2, lb.2] at this
      rw [show p + (m + n) = q + n by omega]
      generalize hW : (r.toList.zipIdx 0).foldl (fun a (v : Keyed × Nat) => a.setIfInBounds (p + k + v.2) v.1) (arrOf st) = W at hw s1 s2 s3
      have inW : ∀ j x, p + k ≤ j → j < q + n' → r.toList[j - (p + k)]? = some x → R rk W j = rk x := fun j x j1 j2 e => R_some (by rw [hw, if_pos (by omega)]; exact e)
      have outW : ∀ j, ¬ (p + k ≤ j ∧ j < q + n') → R rk W j = R rk (arrOf st) j := fun j hj => R_congr (by rw [hw, if_neg hj])
      refine srt_join s1 (srt_join s2 s3 fun a b a1 a2 b1 b2 => ?_) fun a b a1 a2 b1 b2 => ?_
      · obtain ⟨xa, ea⟩ := rk' a a1 a2
        rw [inW a xa a1 a2 ea, outW b (by omega)]
        rcases hin a xa a1 a2 ea with ⟨d, d1, d2, ed⟩ | ⟨d, d1, d2, ed⟩
        · rw [← R_some (rk := rk) ed]
          exact Int.le_trans (st1 d (q - 1) (by omega) (by omega) (by omega)) (high b b1 b2)
        · rw [← R_some (rk := rk) ed]
          exact st2 d b d1 (by omega) b2
      · rw [outW a (by omega)]
        by_cases cb : b < q + n'
        · obtain ⟨xb, eb⟩ := rk' b b1 cb
          rw [inW b xb b1 cb eb]
          rcases hin b xb b1 cb eb with ⟨d, d1, d2, ed⟩ | ⟨d, d1, d2, ed⟩
          · rw [← R_some (rk := rk) ed]
            exact st1 a d a1 (by omega) (by omega)
          · rw [← R_some (rk := rk) ed]
            exact Int.le_trans (low a a1 a2) (st2 q d (Nat.le_refl _) d1 (by omega))
        · rw [outW b (by omega)]
          exact Int.le_trans (low a a1 a2) (st2 q b (Nat.le_refl _) (by omega) b2)
    · show (pendingOf st').size + 1 = _
      rw [sb.pend]; exact nsz
    · show (r.toList.zipIdx.foldl (fun a (v : Keyed × Nat) => a.setIfInBounds (p + k + v.2) v.1) (arrOf st'))[j]? = _
      rw [sarr]
      exact (hw j).trans (if_neg (by omega))
  have ex0 : ∀ j x, ((arrOf st).extract (p + k) q)[j]? = some x → (arrOf st)[p + k + j]? = some x := fun j x e => by
    have hlt := (Array.getElem?_eq_some_iff.mp e).1
    rw [sx] at hlt
    rw [← get_ext (j := q) (by omega) (by omega)]; exact e
  have ey0 : ∀ j x, ((arrOf st).extract q (q + n'))[j]? = some x → (arrOf st)[q + j]? = some x := fun j x e => by
    have hlt := (Array.getElem?_eq_some_iff.mp e).1
    rw [sy] at hlt
    rw [← get_ext (j := q + n') (by omega) (by omega)]; exact e
  by_cases c3 : m - k ≤ n'
  · rw [if_pos c3]
    refine wpS_bind (mlo_ok C hk1 ⟨gx, gy, px, py, fun v hv y hy => ?_⟩ (by omega) (by omega) (fun v y ev ey => ?_) fun r st' sb res => done r st' sb res)
    · obtain ⟨d, d1, d2, ed⟩ := mem_ext (by omega) hv
      obtain ⟨nn, n1, en⟩ := mem_drop hy
      rw [Array.getElem?_toList] at en
      have hlt := (Array.getElem?_eq_some_iff.mp en).1
      rw [sx] at hlt n1
      have e2 := ex0 nn y en
      rw [show p + k + nn = q - 1 by omega] at e2
      have := lst1 d d1 d2
      rwa [R_some ed, R_some e2] at this
    · have e1 := ey0 0 v ev
      have e2 := ex0 0 y ey
      have := fst1 (p + k) (Nat.le_refl _) (by omega)
      rw [Nat.add_zero] at e1 e2
      rwa [R_some e1, R_some e2] at this
  · rw [if_neg c3]
    refine wpS_bind (mhi_ok C hk1 ⟨gx, gy, px, py, fun v ev y hy => ?_⟩ (by omega) (by omega) (fun v y ev ey => ?_) fun r st' sb res => done r st' sb res)
    · have e1 := ey0 0 v ev
      rw [Nat.add_zero] at e1
      obtain ⟨d, d1, d2, ed⟩ := mem_ext (by omega) hy
      have := fst1 d d1 d2
      rwa [R_some e1, R_some ed] at this
    · rw [sy] at ev
      rw [sx] at ey
      have e1 := ey0 _ v ev
      have e2 := ex0 _ y ey
      rw [show p + k + (m - k - 1) = q - 1 by omega] at e2
      have := lst1 (q + (n' - 1)) (by omega) (by omega)
      rwa [R_some e1, R_some e2] at this
end
end TS

namespace TS
open PySem PyProof.Rows
section
variable {prog : Program} {w : World} {A : Around} {E : Value → Shared → Prop} {s : Shared} {κ : SortKind} {G : Keyed → Prop} {rk : Keyed → Int} {a₀ : Array Keyed}
theorem ite_small {c : Bool} {a b n : Nat} (h1 : a + 1 < n) (h2 : b + 1 < n) : (if c = true then a else b) + 1 < n := by
  cases c <;> simpa
theorem Pd.push {xs : Array Keyed} {pend : Array (Nat × Nat × Nat)} {lo n : Nat} (h : Pd rk xs pend lo) (hn : 1 ≤ n) (hs : Srt rk xs lo (lo + n)) : Pd rk xs (pend.push (lo, n, 0)) (lo + n) := by
  refine ⟨?_, fun t ht => ?_⟩
  · rw [Array.toList_push]
    exact Runs.append h.runs ⟨rfl, hn, rfl⟩
  · rw [Array.toList_push] at ht
    rcases List.mem_append.mp ht with ht | ht
    · exact h.srt t ht
    · have : t = (lo, n, 0) := by simpa using ht
      subst this; exact hs
theorem Runs.modify (f : Nat × Nat × Nat → Nat × Nat × Nat) (hf : ∀ t, (f t).1 = t.1 ∧ (f t).2.1 = t.2.1) : ∀ {l : List (Nat × Nat × Nat)} {a z : Nat} (i : Nat), Runs a l z → Runs a (l.modify i f) z
  | [], a, z, i, h => by rw [List.modify_nil]; exact h
  | t :: r, a, z, 0, ⟨h1, h2, h3⟩ => by
    rw [List.modify_zero_cons]
    exact ⟨(hf t).1.trans h1, by rw [(hf t).2]; exact h2, by rw [(hf t).2]; exact h3⟩
  | t :: r, a, z, i + 1, ⟨h1, h2, h3⟩ => by
    rw [List.modify_succ_cons]
    exact ⟨h1, h2, Runs.modify f hf i h3⟩
theorem mem_modify {α : Type} {f : α → α} : ∀ {l : List α} {i : Nat} {x : α}, x ∈ l.modify i f → x ∈ l ∨ ∃ y ∈ l, x = f y
  | [], i, x, h => by rw [List.modify_nil] at h; cases h
  | t :: r, 0, x, h => by
    rw [List.modify_zero_cons] at h
    rcases List.mem_cons.mp h with rfl | h
    · exact .inr ⟨t, by simp, rfl⟩
    · exact .inl (List.mem_cons_of_mem _ h)
  | t :: r, i + 1, x, h => by
    rw [List.modify_succ_cons] at h
    rcases List.mem_cons.mp h with rfl | h
    · exact .inl (by simp)
    · rcases mem_modify h with z | ⟨y, hy, e⟩
      · exact .inl (List.mem_cons_of_mem _ z)
      · exact .inr ⟨y, List.mem_cons_of_mem _ hy, e⟩
theorem Pd.power {xs : Array Keyed} {pend : Array (Nat × Nat × Nat)} {lo : Nat} (h : Pd rk xs pend lo) (pw : Nat) : Pd rk xs (pend.modify (pend.size - 1) fun x => (x.fst, x.2.fst, pw)) lo := by
  refine ⟨?_, fun t ht => ?_⟩
  · rw [Array.toList_modify]
    exact Runs.modify (fun x => (x.fst, x.2.fst, pw)) (fun t => ⟨rfl, rfl⟩) _ h.runs
  · rw [Array.toList_modify] at ht
    rcases mem_modify ht with ht | ⟨y, hy, rfl⟩
    · exact h.srt t ht
    · exact h.srt y hy
theorem sortRuns_ok {st : SortSt} {Q : Unit → SortSt → Prop} (C : Cm prog w A E s κ G rk) (g0 : AllG G a₀) (hB : B κ a₀ st) (hp : pendingOf st = #[])
    (h : ∀ st', B κ a₀ st' → Srt rk (arrOf st') 0 a₀.size → Q () st') : wpS (model prog w) A E s sortRuns' Q st := by
  rw [sortRuns'_eq]
  refine wpS_bind (wpS_get ?_)
  dsimp only
  rw [hB.size]
  generalize hmr : minRun' a₀.size a₀.size 0 = mr
  refine wpS_bind (wpS_mono (wpS_forRange (I := fun x c st' => ∃ lo, c = (none, lo) ∧ B κ a₀ st' ∧ x ≤ lo ∧ lo ≤ a₀.size ∧ Pd rk (arrOf st') (pendingOf st') lo)
    (Q := fun c st' => c.1 = none ∧ B κ a₀ st' ∧ Pd rk (arrOf st') (pendingOf st') a₀.size) ?step ?fin ?init) ?post)
  case init => exact ⟨0, rfl, hB, Nat.le_refl _, Nat.zero_le _, by rw [hp]; exact rfl, fun t ht => by rw [hp] at ht; simp at ht⟩
  case fin =>
    rintro c st' ⟨lo, rfl, b1, b2, b3, b4⟩
    have : lo = a₀.size := by omega
    subst this
    exact ⟨rfl, b1, b4⟩
  case step =>
    rintro x c st' _ hx ⟨lo, rfl, b1, b2, b3, b4⟩
    dsimp only
    by_cases c1 : lo ≥ a₀.size
    · rw [if_pos c1]
      have : lo = a₀.size := by omega
      subst this
      exact wpS_pure ⟨rfl, b1, b4⟩
    rw [if_neg c1]
    refine wpS_bind (countRun C g0 (by omega) (by omega) b1 fun m st2 m1 m2 b21 p2 ah2 s2 => ?_)
    dsimp only
    have pd2 : Pd rk (arrOf st2) (pendingOf st2) lo := by
      rw [p2]
      exact ⟨b4.runs, fun t ht => srt_frame (fun k k1 k2 => ah2 k (by have := Runs.mem b4.runs t ht; omega)) (b4.srt t ht)⟩
    -- the rest of a turn, from a run of n items
    by_cases c2 : m < mr
    focus
      rw [if_pos c2]
      refine wpS_bind (wpS_lift (wpAny_rule ⟨rfl, ?_⟩))
      refine wpS_bind (binarySort C g0 (by omega) (by omega) b21 s2 fun st3 b31 p3 ah3 s3 => ?_)
      simp only [Bool.not_true, Bool.false_eq_true, if_false]
      have pd3 : Pd rk (arrOf st3) (pendingOf st3) lo := by
        rw [p3]
        exact ⟨pd2.runs, fun t ht => srt_frame (fun k k1 k2 => ah3 k (by have := Runs.mem pd2.runs t ht; omega)) (pd2.srt t ht)⟩
      have hn1 : 1 ≤ min (a₀.size - lo) mr := by omega
      have hn2 : lo + min (a₀.size - lo) mr ≤ a₀.size := by omega
      generalize min (a₀.size - lo) mr = n at hn1 hn2 s3 ⊢
    rotate_left
    focus
      rw [if_neg c2]
      have pd3 := pd2
      have s3 := s2
      have b31 := b21
      have hn1 := m1
      have hn2 : lo + m ≤ a₀.size := by omega
      clear pd2 s2 b21 m1 m2 c2 p2 ah2
      generalize m = n at hn1 hn2 s3 ⊢
      generalize st2 = st3 at pd3 s3 b31 ⊢
    all_goals
      refine wpS_bind (wpS_get ?_)
      cases eb : (pendingOf st3).back? with
      | none =>
        dsimp only
        refine wpS_bind (wpS_modify (wpS_pure ⟨lo + n, rfl, ⟨b31.perm, b31.kind, b31.failed⟩, by omega, hn2, pd3.push hn1 s3⟩))
      | some t =>
        obtain ⟨t1, t2, t3⟩ := t
        dsimp only
        generalize power' a₀.size (2 * t1 + t2) (2 * t1 + t2 + t2 + n) a₀.size = pw
        refine wpS_bind (wpS_mono (wpS_forRange (I := fun y c st4 => c = (none, ()) ∧ B κ a₀ st4 ∧ Pd rk (arrOf st4) (pendingOf st4) lo ∧ Srt rk (arrOf st4) lo (lo + n))
          (Q := fun c st4 => c = (none, ()) ∧ B κ a₀ st4 ∧ Pd rk (arrOf st4) (pendingOf st4) lo ∧ Srt rk (arrOf st4) lo (lo + n)) ?istep (fun _ _ z => z) ⟨rfl, b31, pd3, s3⟩) ?ipost)
        case istep =>
          rintro y c st4 _ hy ⟨rfl, d1, d2, d3⟩
          refine wpS_bind (wpS_get ?_)
          by_cases c4 : (pendingOf st4).size > 1
          · rw [if_pos c4]
            obtain ⟨⟨o1, o2, o3⟩, eo⟩ : ∃ o, (pendingOf st4)[(pendingOf st4).size - 2]? = some o := ⟨_, getElem?_pos (pendingOf st4) ((pendingOf st4).size - 2) (by omega)⟩
            rw [eo]
            dsimp only
            by_cases c5 : o3 ≤ pw
            · rw [if_pos c5]
              exact wpS_pure ⟨rfl, d1, d2, d3⟩
            · rw [if_neg c5]
              refine wpS_bind (mergeAt_ok C g0 d1 d2 (by omega) (by omega) fun st5 f1 f2 f3 f4 => ?_)
              exact wpS_pure ⟨rfl, f1, f2, srt_frame (fun k k1 k2 => f4 k k1) d3⟩
          · rw [if_neg c4]
            exact wpS_pure ⟨rfl, d1, d2, d3⟩
        case ipost =>
          rintro c st4 ⟨rfl, d1, d2, d3⟩
          dsimp only
          refine wpS_bind (wpS_modify (wpS_bind (wpS_modify (wpS_pure ⟨lo + n, rfl, ⟨d1.perm, d1.kind, d1.failed⟩, by omega, hn2, (d2.power pw).push hn1 d3⟩))))
  case post =>
    rintro c st' ⟨e1, b1, b4⟩
    obtain ⟨c0, lo⟩ := c
    dsimp only at e1
    subst e1
    dsimp only
    refine wpS_bind (wpS_mono (wpS_forRange (I := fun y c st4 => c = (none, ()) ∧ B κ a₀ st4 ∧ Pd rk (arrOf st4) (pendingOf st4) a₀.size ∧ (pendingOf st4).size ≤ max 1 (a₀.size - y))
      (Q := fun c st4 => c = (none, ()) ∧ B κ a₀ st4 ∧ Pd rk (arrOf st4) (pendingOf st4) a₀.size ∧ (pendingOf st4).size ≤ 1) ?estep ?efin ?einit) ?epost)
    case einit =>
      refine ⟨rfl, b1, b4, ?_⟩
      have := Runs.le b4.runs
      rw [Array.length_toList] at this
      omega
    case efin =>
      rintro c st4 ⟨d0, d1, d2, d3⟩
      exact ⟨d0, d1, d2, by omega⟩
    case estep =>
      rintro y c st4 _ hy ⟨rfl, d1, d2, d3⟩
      refine wpS_bind (wpS_get ?_)
      by_cases c4 : (pendingOf st4).size ≤ 1
      · rw [if_pos c4]
        exact wpS_pure ⟨rfl, d1, d2, c4⟩
      · rw [if_neg c4]
        generalize hj : (if Option.any (fun x => decide (x < (pendingOf st4)[(pendingOf st4).size - 2 + 1]?.elim 0 fun x => x.snd.fst)) (if (pendingOf st4).size - 2 > 0 then Option.map (fun x => x.snd.fst) (pendingOf st4)[(pendingOf st4).size - 2 - 1]? else none) = true then (pendingOf st4).size - 2 - 1 else (pendingOf st4).size - 2) = j
        have hj' : j + 1 < (pendingOf st4).size := by
          rw [← hj]
          exact ite_small (by omega) (by omega)
        refine wpS_bind (mergeAt_ok C g0 d1 d2 (Nat.le_refl _) hj' fun st5 f1 f2 f3 f4 => ?_)
        exact wpS_pure ⟨rfl, f1, f2, by omega⟩
    case epost =>
      rintro c st4 ⟨rfl, d1, d2, d3⟩
      refine wpS_pure (h _ d1 ?_)
      have r := d2.runs
      have sr := d2.srt
      have hl : (pendingOf st4).toList.length ≤ 1 := by rw [Array.length_toList]; exact d3
      generalize (pendingOf st4).toList = l at r sr hl
      match l, r, sr, hl with
      | [], r, _, _ =>
        have e : 0 = a₀.size := r
        intro i j _ _ hj
        omega
      | [t], ⟨r1, _, r3⟩, sr, _ =>
        have e : 0 + t.2.1 = a₀.size := r3
        have := sr t (by simp)
        rw [r1] at this
        rw [← e]
        exact this
end
end TS

namespace L3
open PySem PySem.Spec PyProof.Rows PySem.Calls L2

/-! ### a dict's keys, one by one, whatever they are -/
/-- the dict at d, its raw entries -/
def RawD (h : Heap) (d : Addr) (es : Array DictEntry) (ep : Nat) : Prop := ∃ o, h.get? d = some o ∧ o.ExactDict ∧ o.data = .dict es ep
theorem RawD.typeIs {s : Shared} {d : Addr} {es : Array DictEntry} {ep : Nat} (x : RawD s.heap d es ep) : s.TypeIs (.ref d) "dict" := by
  obtain ⟨o, e, hx, _⟩ := x
  exact ⟨o, e, hx.1⟩
theorem RawD.at {h h' : Heap} {d : Addr} {es : Array DictEntry} {ep : Nat} (x : RawD h d es ep) (k : ∀ o, h.get? d = some o → h'.get? d = some o) : RawD h' d es ep := by
  obtain ⟨o, e, r⟩ := x
  exact ⟨o, k o e, r⟩
section
variable {prog : Program} {w : World} {A : Around} {E : Value → Shared → Prop} {s : Shared} {it d : Addr} {es : Array DictEntry} {ep i : Nat}
theorem raw_iter {Q : Value → Shared → Prop} (lo : (d == sysModules) = false) (x : RawD s.heap d es ep)
    (q : Q (.ref s.heap.objs.size) { s with heap := s.heap.push { cls := .type "dict_keyiterator", data := .fields #[.ref d, .int 0 0, .int es.size 0, .int ep 0] } }) : wpAny (model prog w) A (pyIter (.ref d)) Q E s := by
  obtain ⟨o, e, hx, hd⟩ := id x
  have ty := x.typeIs
  refine wpAny_pyIter_slot ty F.slot_dict_iter (wpAny_call_entry F.slot_dict_iter ty F.entry_dict_iter ?_ (F.args_dict_iter_1 _))
  unfold Builtin.«dict.__iter__» Builtin.Dict.dictSlotNone
  refine wpAny_bind (wpAny_bind (wpAny_notOrdered_dict ty (wpAny_pure (?_ : wpAny _ _ (Builtin.Dict.showsAll d >>= _) _ _ s))))
  unfold Builtin.Dict.showsAll
  rw [if_neg (by rw [lo]; simp)]
  refine wpAny_bind (wpAny_pure (wpAny_bind (wpAny_dictEntries e hd (wpAny_bind (wpAny_dictEpoch e hd (wpAny_bind (wpAny_newObj_type (wpAny_pure ?_))))))))
  exact ⟨_, rfl, "dict_keyiterator", _, ⟨_, Heap.get?_push_size _ rfl, rfl⟩, F.slot_dict_keyiterator_next.lookup, by simpa [rawInt] using q⟩
theorem raw_item {Q : Option Value → Shared → Prop} (hit : s.heap.IsKeyIter it d i es.size ep) (x : RawD s.heap d es ep) (hi : i < es.size)
    (q : ∀ h', h'.IsKeyIter it d (i + 1) es.size ep → Heap.SameBut it s.heap h' → Q (some es[i].key) { s with heap := h' }) : wpAny (model prog w) A (pyNext (.ref it)) Q E s := by
  obtain ⟨oi, e1, e2, e3⟩ := id hit
  obtain ⟨o, e, hx, hd⟩ := id x
  have ty := hit.typeIs
  unfold pyNext
  refine wpAny_bind (wpAny_attempt (wpAny_callSpecial?_slot (name := Str.ofString "__next__") ty F.slot_dict_keyiterator_next (wpAny_call_entry F.slot_dict_keyiterator_next ty F.entry_dict_keyiterator_next (wpAny_bind (wpAny_pure (wpAny_bind (wpAny_bind ?_)))) (F.args_dict_keyiterator_next_1 _))))
  first
    | refine wpAny_bind (wpAny_typeNameOfWhole_keyiter ty (wpAny_pure (wpAny_bind (wpAny_fieldsOf e1 e3 ?_))))
    | refine wpAny_bind (wpAny_typeNameOf_keyiter ty (wpAny_pure (wpAny_bind (wpAny_fieldsOf e1 e3 ?_))))
  simp only [show Builtin.Dict_items.ownsTuple "dict_keyiterator" = false by decide, Bool.false_eq_true, if_false]
  refine (?_ : wpAny _ _ (if (Value.ref d == Value.none) = true then _ else _) _ _ s)
  rw [if_neg (by simp)]
  refine wpAny_bind (wpAny_pure (wpAny_bind (wpAny_dictEntries e hd ?_)))
  rw [if_neg (by simp)]
  refine wpAny_bind (wpAny_pure (wpAny_bind (wpAny_dictEpoch e hd ?_)))
  rw [if_neg (by simp)]
  refine wpAny_pure ?_
  have nn : ¬ ((i : Int) < 0) := by omega
  simp only [nn, if_false, Int.toNat_natCast, Array.getElem?_eq_getElem hi]
  refine wpAny_bind ?_
  have hit2 : (s.heap.update it (Obj.mapFields (·.setIfInBounds 1 (rawInt ((i : Int) + 1))))).IsKeyIter it d (i + 1) es.size ep :=
    ⟨_, Heap.get?_update_self _ e1 (Obj.isFreed_of_fields (Obj.data_mapFields e3 _)), (Obj.cls_mapFields ..).trans e2, by rw [Obj.data_mapFields e3]; simp [rawInt]⟩
  first
    | refine wpAny_bind (wpAny_typeNameOfWhole_keyiter ty (wpAny_pure (wpAny_bind (wpAny_isOneOf_keyiter ty ?_))))
    | refine wpAny_bind (wpAny_typeNameOf_keyiter ty (wpAny_pure (wpAny_bind (wpAny_isOneOf_keyiter ty ?_))))
  refine (?_ : wpAny _ _ (setField (.ref it) 1 (rawInt ((i : Int) + 1)) >>= _) _ _ s)
  refine wpAny_bind (wpAny_setField e1 e3 (by simp) (wpAny_bind (wpAny_holding (wpAny_bind (wpAny_isOneOf_keyiter (s := { s with heap := s.heap.update it (Obj.mapFields (·.setIfInBounds 1 (rawInt ((i : Int) + 1)))) }) hit2.typeIs ?_)))))
  refine (?_ : wpAny _ _ (pure es[i].key) _ _ _)
  exact wpAny_pure (wpAny_pure ⟨_, rfl, wpAny_pure (q _ hit2 (Heap.SameBut.update ..))⟩)
theorem raw_end {Q : Option Value → Shared → Prop} (hh : A.handled = none) (hit : s.heap.IsKeyIter it d es.size es.size ep) (x : RawD s.heap d es ep)
    (q : ∀ h', Heap.ExtBut it s.heap h' → Q none { s with heap := h' }) : wpAny (model prog w) A (pyNext (.ref it)) Q E s := by
  obtain ⟨oi, e1, e2, e3⟩ := id hit
  obtain ⟨o, e, hx, hd⟩ := id x
  have ty := hit.typeIs
  unfold pyNext
  refine wpAny_bind (wpAny_attempt (wpAny_callSpecial?_slot (name := Str.ofString "__next__") ty F.slot_dict_keyiterator_next (wpAny_call_entry F.slot_dict_keyiterator_next ty F.entry_dict_keyiterator_next (wpAny_bind (wpAny_pure (wpAny_bind (wpAny_bind ?_)))) (F.args_dict_keyiterator_next_1 _))))
  first
    | refine wpAny_bind (wpAny_typeNameOfWhole_keyiter ty (wpAny_pure (wpAny_bind (wpAny_fieldsOf e1 e3 ?_))))
    | refine wpAny_bind (wpAny_typeNameOf_keyiter ty (wpAny_pure (wpAny_bind (wpAny_fieldsOf e1 e3 ?_))))
  simp only [show Builtin.Dict_items.ownsTuple "dict_keyiterator" = false by decide, Bool.false_eq_true, if_false]
  refine (?_ : wpAny _ _ (if (Value.ref d == Value.none) = true then _ else _) _ _ s)
  rw [if_neg (by simp)]
  refine wpAny_bind (wpAny_pure (wpAny_bind (wpAny_dictEntries e hd ?_)))
  rw [if_neg (by simp)]
  refine wpAny_bind (wpAny_pure (wpAny_bind (wpAny_dictEpoch e hd ?_)))
  rw [if_neg (by simp)]
  refine wpAny_pure ?_
  have nn : ¬ ((es.size : Int) < 0) := by omega
  simp only [nn, if_false, Int.toNat_natCast, Array.getElem?_eq_none (Nat.le_refl es.size)]
  refine wpAny_bind ?_
  first
    | refine wpAny_bind (wpAny_typeNameOfWhole_keyiter ty (wpAny_pure ?_))
    | refine wpAny_bind (wpAny_typeNameOf_keyiter ty (wpAny_pure ?_))
  refine (?_ : wpAny _ _ (setField (.ref it) 0 .none >>= _) _ _ s)
  refine wpAny_bind (wpAny_setField e1 e3 (by simp) (?_ : wpAny _ _ (newExc (.type "StopIteration") [] >>= _) _ _ _))
  refine wpAny_bind ?_
  simp only [newExc, newTuple]
  refine wpAny_bind (wpAny_newObj_type (wpAny_bind (m := firstArgMember _ _) (wpAny_of_eq (a := Value.none) (by first | rfl | (simp only [firstArgMember]; rfl)) (wpAny_newObj_type ?_ (by size_fits)))) (by size_fits))
  simp only [raiseNew]
  refine wpAny_bind (wpAny_handled ?_)
  rw [show A.in1.handled = none from hh]
  refine wpAny_bind (wpAny_pure (wpAny_throw ?_))
  refine wpAny_bind (wpAny_isInstance (b := true) (T := "StopIteration") ⟨_, Heap.get?_push_size _ rfl, rfl⟩ isSubtype_stop (wpAny_pure ?_))
  exact q _ (((Heap.SameBut.update ..).extBut.push _).push _)
theorem raw_walks (hh : A.handled = none) (I d : Addr) (ne : d ≠ I) (es : Array DictEntry) (ep : Nat) :
    Walks prog w A I [I, d] [I] es.size (fun i v => ∃ e, es[i]? = some e ∧ v = e.key) (fun i h => h.IsKeyIter I d i es.size ep ∧ RawD h d es ep) where
  sub := fun b hb => List.mem_cons.mpr (.inl (List.mem_singleton.mp hb))
  frame := fun _ _ _ st k => ⟨st.1.at fun o e => k I (by simp) o e, st.2.at fun o e => k d (by simp) o e⟩
  item := fun i s Q E hi st q => raw_item st.1 st.2 hi fun h' z sb => q _ h' s.toks ⟨es[i], Array.getElem?_eq_getElem hi, rfl⟩ ⟨z, st.2.at fun o e => (sb.2 d ne).trans e⟩ fun b o hb e => (sb.2 b fun z => hb (by simp [z])).trans e
  done := fun s Q E st q => raw_end hh st.1 st.2 fun h' k => q h' s.toks fun b o hb e => k b o (fun z => hb (by simp [z])) e
  self := fun _ _ _ _ st q => wpAny_pyIter_keyiter st.1 q
theorem raw_src (lo : (d == sysModules) = false) : PySem.W.KdlSrc prog w "dict" d d es.size (fun i v => ∃ e, es[i]? = some e ∧ v = e.key) (fun h => RawD h d es ep) where
  type := fun _ x => x.typeIs
  there := fun _ x => by obtain ⟨o, e, _⟩ := x; exact ⟨Heap.lt_size e, Heap.lt_size e⟩
  keep := fun _ _ x k => x.at fun o e => k d (.inl rfl) o e
  notList := by decide
  notTuple := by decide
  hint := fun _ _ _ _ x q => PySem.W.kdl_hint_dict x.typeIs q
  iter := fun _ s hh x => ⟨_, _, fun _ _ q => raw_iter lo x q, raw_walks hh _ d (by obtain ⟨o, e, _⟩ := x; exact Nat.ne_of_lt (Heap.lt_size e)) es ep, ⟨⟨_, Heap.get?_push_size _ rfl, rfl, rfl⟩, x.at fun o e => Heap.get?_push_of_some _ e⟩⟩
end
end L3

namespace L3
open PySem PySem.Spec PyProof.Rows PySem.Calls L2

/-! ### rising tuples -/
def llt : List Int → List Int → Bool
  | [], [] => false
  | [], _ :: _ => true
  | _ :: _, [] => false
  | x :: xs, y :: ys => if x = y then llt xs ys else decide (x < y)
theorem llt_cons (x y : Int) (xs ys : List Int) : llt (x :: xs) (y :: ys) = if x = y then llt xs ys else decide (x < y) := by rw [llt]
theorem lex_irr : ∀ a : List Int, llt a a = false
  | [] => rfl
  | x :: a => by rw [llt_cons, if_pos rfl]; exact lex_irr a
theorem lex_trans : ∀ {a b c : List Int}, llt a b = true → llt b c = true → llt a c = true
  | [], [], c, h, _ => nomatch h
  | [], _ :: _, [], _, h => nomatch h
  | [], _ :: _, _ :: _, _, _ => rfl
  | _ :: _, [], _, h, _ => nomatch h
  | x :: a, y :: b, [], _, h => nomatch h
  | x :: a, y :: b, z :: c, h, k => by
    rw [llt_cons] at h k ⊢
    by_cases e1 : x = y
    · subst e1
      rw [if_pos rfl] at h
      by_cases e2 : x = z
      · rw [if_pos e2] at k ⊢; exact lex_trans h k
      · rw [if_neg e2] at k ⊢; exact k
    · rw [if_neg e1] at h
      have h' : x < y := of_decide_eq_true h
      by_cases e2 : y = z
      · subst e2; rw [if_neg e1]; exact h
      · rw [if_neg e2] at k
        have k' : y < z := of_decide_eq_true k
        rw [if_neg (by omega)]; exact decide_eq_true (by omega)
theorem lex_tri : ∀ {a b : List Int}, llt a b = false → llt b a = false → a = b
  | [], [], _, _ => rfl
  | [], _ :: _, h, _ => nomatch h
  | _ :: _, [], _, h => nomatch h
  | x :: a, y :: b, h, k => by
    rw [llt_cons] at h k
    by_cases e : x = y
    · subst e
      rw [if_pos rfl] at h k
      rw [lex_tri h k]
    · rw [if_neg e] at h
      rw [if_neg (fun z => e z.symm)] at k
      have h' := of_decide_eq_false h
      have k' := of_decide_eq_false k
      omega
/-- the rank of a tuple among others -/
def rankL (L : List (List Int)) (a : List Int) : Int := ((L.filter fun m => llt m a).length : Nat)
theorem rank_le {a b : List Int} (h : llt b a = false) : ∀ L : List (List Int), (L.filter fun m => llt m a).length ≤ (L.filter fun m => llt m b).length
  | [] => Nat.le_refl _
  | m :: L => by
    have ih := rank_le h L
    rw [List.filter_cons, List.filter_cons]
    by_cases c : llt m a = true
    · have c2 : llt m b = true := by
        cases e : llt a b with
        | true => exact lex_trans c e
        | false => rw [lex_tri h e]; exact c
      rw [if_pos c, if_pos c2, List.length_cons, List.length_cons]; omega
    · rw [if_neg c]
      split
      · rw [List.length_cons]; omega
      · exact ih
theorem rank_lt {a b : List Int} (h : llt a b = true) : ∀ L : List (List Int), a ∈ L → (L.filter fun m => llt m a).length < (L.filter fun m => llt m b).length
  | [], m => nomatch m
  | m :: L, hm => by
    have le : ∀ L : List (List Int), (L.filter fun m => llt m a).length ≤ (L.filter fun m => llt m b).length := by
      refine rank_le ?_
      cases e : llt b a with
      | false => rfl
      | true => have := lex_trans h e; rw [lex_irr] at this; cases this
    rw [List.filter_cons, List.filter_cons]
    by_cases c : m = a
    · subst c
      rw [if_neg (by rw [lex_irr]; simp), if_pos h, List.length_cons]
      have := le L; omega
    · have hm' : a ∈ L := by
        rcases List.mem_cons.mp hm with z | z
        · exact absurd z.symm c
        · exact z
      have ih := rank_lt h L hm'
      by_cases c2 : llt m a = true
      · rw [if_pos c2, if_pos (lex_trans c2 h), List.length_cons, List.length_cons]; omega
      · rw [if_neg c2]
        split
        · rw [List.length_cons]; omega
        · exact ih
theorem rank_iff {L : List (List Int)} {a b : List Int} (ha : a ∈ L) : decide (rankL L a < rankL L b) = llt a b := by
  unfold rankL
  cases e : llt a b with
  | true => exact decide_eq_true (by have := rank_lt e L ha; omega)
  | false => exact decide_eq_false (by have := rank_le e L; omega)

/-! ### comparing tuples of ints, as the sort does -/
section
variable {prog : Program} {w : World} {A : Around} {E : Value → Shared → Prop} {s : Shared}
theorem one_lt {b : Bool} {x y : Int} {t u : Tok} {Q : Bool → Shared → Prop} (q : Q (decide (x < y)) s) : wpAny (model prog w) A (oneLt' b (.int x t) (.int y u)) Q E s := by
  cases b with
  | true => exact oneLt_int q
  | false => exact PySem.W.kat_one _ _ (lt_int (show PySem.W.BoolBack Q (.bool (decide (x < y))) s from q))
theorem lex_walk {b : Bool} {l r : Nat} {Q : Bool → Shared → Prop} : ∀ {xs ys : List Value} {ms ns : List Int} (i : Nat), IntsAre xs ms → IntsAre ys ns → l + ns.length = r + ms.length → Q (llt ms ns) s →
    PySem.W.KatLex prog w A b (decide (l < r)) Q (xs.zip ys) i s
  | _, _, _, _, i, .nil, .nil, e, q => by
    refine PySem.W.kat_nil ?_
    rw [decide_eq_false (show ¬ l < r by simp only [List.length_nil] at e; omega)]; exact q
  | _, _, _, _, i, .nil, .cons n t k, e, q => by
    refine PySem.W.kat_nil ?_
    rw [decide_eq_true (show l < r by simp only [List.length_nil, List.length_cons] at e; omega)]; exact q
  | _, _, _, _, i, .cons n t k, .nil, e, q => by
    refine PySem.W.kat_nil ?_
    rw [decide_eq_false (show ¬ l < r by simp only [List.length_nil, List.length_cons] at e; omega)]; exact q
  | _, _, _, _, i, .cons x t (ns := ms) k1, .cons y u (ns := ns) k2, e, q => by
    rw [llt_cons] at q
    refine PySem.W.kat_cons (wpAny_eqBool_int ?_)
    by_cases c : x = y
    · subst c
      rw [if_pos rfl] at q
      rw [show (x == x) = true by simp]
      exact PySem.W.kat_yes (lex_walk (i + 1) k1 k2 (by simp only [List.length_cons] at e; omega) q)
    · rw [if_neg c] at q
      rw [show (x == y) = false by simp [c]]
      exact PySem.W.kat_no (one_lt q)
/-- what the sort's own test says of two good items -/
theorem cm_of {κ : SortKind} {G : Keyed → Prop} {rk : Keyed → Int} (h : ∀ x y Q (E' : Value → Shared → Prop), G x → G y → Q (decide (rk x < rk y)) s → wpAny (model prog w) A (keyLt' κ x.1 y.1) Q E' s) : TS.Cm prog w A E s κ G rk where
  lt := fun x y st Q gx gy hk q => by
    rw [lt'_eq]
    refine wpS_bind (wpS_get ?_)
    rw [hk]
    exact wpS_bind (wpS_lift (wpAny_attempt (h x y _ _ gx gy ⟨rfl, wpS_pure q⟩)))

theorem TS_zip_same {l : List Value} {p : Value × Value} (h : p ∈ l.zip l) : p.1 = p.2 := by
  obtain ⟨i, hi, e⟩ := List.getElem_of_mem h
  rw [List.getElem_zip] at e
  rw [← e]
/-- list.sort, whatever is compared -/
theorem sort_list {a : Addr} {vs : List Value} {n : Nat} {P : Fin → Shared → Prop} {G : Keyed → Prop} {rk : Keyed → Int} (ho : s.heap.get? a = some (seqObj "list" vs.toArray n)) (hz : vs.length ≤ sizeLine) (hg : ∀ v ∈ vs, G (v, v))
    (hK : ∀ h', (∀ b o, b ≠ a → s.heap.get? b = some o → h'.get? b = some o) → 2 ≤ vs.length → ∃ κ, (∀ Q' : SortKind → Shared → Prop, Q' κ { s with heap := h' } → wpAny (model prog w) A (keyKind' vs.toArray) Q' E { s with heap := h' }) ∧ TS.Cm prog w A E { s with heap := h' } κ G rk)
    (h : ∀ (out : List Value) h' e, out.Perm vs → out.Pairwise (fun x y => rk (x, x) ≤ rk (y, y)) → (∀ b o, b ≠ a → s.heap.get? b = some o → h'.get? b = some o) → h'.get? a = some (seqObj "list" out.toArray e) → P (.done (.ret .none)) { s with heap := h' }) :
    wpAny (model prog w) A (Builtin.«list.sort» ⟨[.ref a], []⟩) P E s := by
  rw [list_sort_plain]
  have ha : a < s.heap.objs.size := Heap.lt_size ho
  have zz : vs.toArray.size ≤ sizeLine := by simpa using hz
  refine wpAny_bind (listItems_at ho rfl (wpAny_bind (listUpdate_at ho rfl ?_ zz (Nat.zero_le _))))
  obtain ⟨e1, ho1⟩ : ∃ e1, (s.heap.update a (Obj.mapSeq fun _ => #[])).get? a = some (seqObj "list" #[] e1) := ⟨_, get?_update_seq ho (fun _ => #[])⟩
  have k1 : ∀ b o, b ≠ a → s.heap.get? b = some o → (s.heap.update a (Obj.mapSeq fun _ => #[])).get? b = some o := fun b o hb e => (Heap.get?_update_ne _ _ _ _ hb).trans e
  refine wpAny_bind (seqEpoch_at ho1 rfl (wpAny_bind (wpAny_newTuple (wpAny_bind (wpAny_newList (wpAny_holding ?_) (Nat.zero_le _))) hz)))
  generalize hH : ((s.heap.update a (Obj.mapSeq fun _ => #[])).push { cls := .type "tuple", data := .seq vs.toArray.toList.toArray }).push { cls := .type "list", data := .seq ([] : List Value).toArray } = H2
  have k2 : ∀ b o, (s.heap.update a (Obj.mapSeq fun _ => #[])).get? b = some o → H2.get? b = some o := fun b o e => by
    rw [← hH]; exact Heap.get?_push_of_some _ (Heap.get?_push_of_some _ e)
  have ho2 : H2.get? a = some (seqObj "list" #[] e1) := k2 _ _ ho1
  have k3 : ∀ b o, b ≠ a → s.heap.get? b = some o → H2.get? b = some o := fun b o hb e => k2 b o (k1 b o hb e)
  dsimp only
  have fin : ∀ (st' : SortSt), (arrOf st').Perm (vs.toArray.zip vs.toArray) → TS.Srt rk (arrOf st') 0 (vs.toArray.zip vs.toArray).size → failedOf st' = none →
      wpAny (model prog w) A (do
        let touched := (← seqEpoch a) != e1
        Builtin.List.listUpdate (.ref a) fun _ => (arrOf st').map (·.2)
        if let some e := failedOf st' then rule "list.sort.comparison-raised"; throw e
        if touched then rule "list.sort.modified"; raiseError "ValueError" "list modified during sort"
        ret .none) P E { s with heap := H2 } := fun st' hp hs hf => by
    have same : ∀ p ∈ (arrOf st').toList, p.1 = p.2 := fun p hpm => by
      have hm := (Array.perm_iff_toList_perm.mp hp).mem_iff.mp hpm
      rw [Array.toList_zip] at hm
      exact TS_zip_same hm
    have pl : ((arrOf st').map (·.2)).toList.Perm vs := by
      rw [Array.toList_map]
      have := (Array.perm_iff_toList_perm.mp hp).map (·.2)
      rw [Array.toList_zip] at this
      refine this.trans (List.Perm.of_eq ?_)
      exact List.map_snd_zip (by simp)
    have pw : ((arrOf st').map (·.2)).toList.Pairwise (fun x y => rk (x, x) ≤ rk (y, y)) := by
      rw [Array.toList_map]
      refine List.pairwise_map.mpr (List.pairwise_iff_getElem.mpr fun i j hi hj hij => ?_)
      have zs : (arrOf st').size = (vs.toArray.zip vs.toArray).size := hp.size_eq
      have hj' : j < (arrOf st').size := by simpa using hj
      have := hs i j (Nat.zero_le _) (Nat.le_of_lt hij) (by omega)
      have q1 : (arrOf st')[i]? = some (arrOf st').toList[i] := by rw [← Array.getElem?_toList]; exact List.getElem?_eq_getElem hi
      have q2 : (arrOf st')[j]? = some (arrOf st').toList[j] := by rw [← Array.getElem?_toList]; exact List.getElem?_eq_getElem hj
      rw [TS.R_some q1, TS.R_some q2] at this
      have z1 := same _ (List.getElem_mem hi)
      have z2 := same _ (List.getElem_mem hj)
      rw [show ((arrOf st').toList[i].2, (arrOf st').toList[i].2) = (arrOf st').toList[i] from Prod.ext z1.symm rfl, show ((arrOf st').toList[j].2, (arrOf st').toList[j].2) = (arrOf st').toList[j] from Prod.ext z2.symm rfl]
      exact this
    have sz : ((arrOf st').map (·.2)).size ≤ sizeLine + 1 := by
      have := pl.length_eq
      rw [Array.length_toList] at this; omega
    refine wpAny_bind (seqEpoch_at ho2 rfl (wpAny_bind (listUpdate_at ho2 rfl ?_ (Nat.zero_le _) sz)))
    rw [hf]
    simp only [bne_self_eq_false, Bool.false_eq_true, if_false]
    refine wpAny_pure (h ((arrOf st').map (·.2)).toList _ _ pl pw (fun b o hb e => (Heap.get?_update_ne _ _ _ _ hb).trans (k3 b o hb e)) (get?_update_seq ho2 fun _ => ((arrOf st').map (·.2)).toList.toArray))
  by_cases c : vs.toArray.size < 2
  · rw [if_pos c, if_pos c]
    refine wpAny_bind (wpAny_pure ?_)
    rw [StateT.run_pure]
    refine wpAny_bind (wpAny_pure ?_)
    refine fin _ (Array.Perm.refl _) (fun i j _ hij hj => ?_) rfl
    rw [Array.size_zip] at hj
    have e : i = j := by omega
    subst e; exact Int.le_refl _
  · rw [if_neg c, if_neg c]
    obtain ⟨κ, c1, c2⟩ := hK H2 k3 (by simp at c; omega)
    refine wpAny_bind (c1 _ (wpAny_bind ?_))
    have g0 : TS.AllG G (vs.toArray.zip vs.toArray) := fun p hp => by
      rw [Array.toList_zip] at hp
      have e := TS_zip_same hp
      have hm := (List.of_mem_zip hp).1
      have : p = (p.1, p.1) := Prod.ext rfl e.symm
      rw [this]; exact hg _ hm
    refine wpAny_mono (TS.sortRuns_ok (a₀ := vs.toArray.zip vs.toArray) (st := SortSt.mk' κ (vs.toArray.zip vs.toArray) #[] 7 none)
      (Q := fun _ st' => (arrOf st').Perm (vs.toArray.zip vs.toArray) ∧ TS.Srt rk (arrOf st') 0 (vs.toArray.zip vs.toArray).size ∧ failedOf st' = none) c2 g0 ⟨Array.Perm.refl _, rfl, rfl⟩ rfl fun st' b1 b2 => ⟨b1.perm, b2, b1.failed⟩) ?_ fun _ _ e => e
    rintro ⟨⟨⟩, st'⟩ s' ⟨rfl, q1, q2, q3⟩
    exact fin st' q1 q2 q3
end
end L3

namespace L3
open PySem PySem.Spec PyProof.Rows PySem.Calls L2
theorem b_sorted : bootBuiltins "sorted" = some (.builtin "sorted") := by decide +kernel
section
variable {prog : Program} {w : World} {A : Around} {E : Value → Shared → Prop} {s : Shared}
/-- sorted(xs), whatever is compared -/
theorem sorted_any {l : Addr} {vs : List Value} {Q : Value → Shared → Prop} {G : Keyed → Prop} {rk : Keyed → Int} (hl : s.heap.IsList l vs.toArray) (hz : vs.length ≤ sizeLine) (hg : ∀ v ∈ vs, G (v, v))
    (hK : ∀ h' A' E', (∀ b o, s.heap.get? b = some o → h'.get? b = some o) → 2 ≤ vs.length → ∃ κ, (∀ Q' : SortKind → Shared → Prop, Q' κ { s with heap := h' } → wpAny (model prog w) A' (keyKind' vs.toArray) Q' E' { s with heap := h' }) ∧ TS.Cm prog w A' E' { s with heap := h' } κ G rk)
    (h : ∀ (out : List Value) h' e, out.Perm vs → out.Pairwise (fun x y => rk (x, x) ≤ rk (y, y)) → (∀ b o, s.heap.get? b = some o → h'.get? b = some o) → h'.get? (s.heap.objs.size + 1) = some (seqObj "list" out.toArray e) → Q (.ref (s.heap.objs.size + 1)) { s with heap := h' }) :
    wpAny (model prog w) A (call (.builtin "sorted") [.ref l]) Q E s := by
  refine Calls.call_function_entry kind_sorted plain_sorted entry_sorted (args_sorted1 _) ?_
  unfold Builtin.«sorted»
  refine wpAny_bind (m := checkCount "sorted" 1 1 _) (wpAny_pure (wpAny_bind (collect_list hl (wpAny_bind (wpAny_newList ?_ hz)) hz)))
  have z1 : ((s.heap.push (seqObj "list" #[] 0)).update s.heap.objs.size (Obj.mapSeq (· ++ vs.toArray))).objs.size = s.heap.objs.size + 1 := by
    rw [Heap.size_update, size_push']
  have k1 : ∀ b o, s.heap.get? b = some o → ((s.heap.push (seqObj "list" #[] 0)).update s.heap.objs.size (Obj.mapSeq (· ++ vs.toArray))).get? b = some o := fun b o e => by
    rw [Heap.get?_update_ne _ _ _ _ (Nat.ne_of_lt (Heap.lt_size e))]; exact Heap.get?_push_of_some _ e
  refine (?_ : wpAny _ _ _ _ _ { s with heap := ((s.heap.push (seqObj "list" #[] 0)).update s.heap.objs.size (Obj.mapSeq (· ++ vs.toArray))).push (seqObj "list" vs.toArray 0) })
  rw [z1]
  have e1 : (((s.heap.push (seqObj "list" #[] 0)).update s.heap.objs.size (Obj.mapSeq (· ++ vs.toArray))).push (seqObj "list" vs.toArray 0)).get? (s.heap.objs.size + 1) = some (seqObj "list" vs.toArray 0) := by
    rw [← z1]; exact Heap.get?_push_size _ rfl
  have k2 : ∀ b o, s.heap.get? b = some o → (((s.heap.push (seqObj "list" #[] 0)).update s.heap.objs.size (Obj.mapSeq (· ++ vs.toArray))).push (seqObj "list" vs.toArray 0)).get? b = some o := fun b o e => Heap.get?_push_of_some _ (k1 b o e)
  have ne : ∀ b o, s.heap.get? b = some o → b ≠ s.heap.objs.size + 1 := fun b o e => Nat.ne_of_lt (Nat.lt_succ_of_lt (Heap.lt_size e))
  refine wpAny_bind (wpAny_holding (wpAny_call_entry slot_list_sort ⟨_, e1, rfl⟩ entry_list_sort (sort_list (G := G) (rk := rk) e1 hz hg (fun h' k c => hK h' _ _ (fun b o e => k b o (ne b o e) (k2 b o e)) c) fun out h' e p q k ho => ⟨_, rfl, wpAny_pure ⟨_, rfl, ?_⟩⟩) (args_list_sort _)))
  exact h out h' e p q (fun b o z => k b o (ne b o z) (k2 b o z)) ho
end

/-! ### sorted of tuples of ints -/
/-- the ints of the tuple at a value -/
def intsAt (h : Heap) : Value → List Int
  | .ref a => match h.get? a with
    | some o => match o.data with
      | .seq xs _ => xs.toList.map numOf
      | _ => []
    | none => []
  | _ => []
theorem nums_are : ∀ {vs : List Value} {ns : List Int}, IntsAre vs ns → vs.map numOf = ns
  | _, _, .nil => rfl
  | _, _, .cons n t k => by rw [List.map_cons, nums_are k]; rfl
def refV : Value → V
  | .ref a => .ref a
  | _ => .non
def rSortT (K : PySem.W.Frag) : List V → Hp → VK → Prop := fun xs H Q => ∃ (p : Addr) (ys : List V) (ms : List (List Int)), xs = [.ref p] ∧ SqL K H p ys ∧ Dens K H (ms.map itup) ys ∧ (∀ m ∈ ms, m ≠ []) ∧
  ∀ (l : Addr) (ns : List (List Int)) (zs : List V), H l = none → ns.Perm ms → ns.Pairwise (fun a b => llt b a = false) → Dens K (upd H l (.lst zs)) (ns.map itup) zs → Q (.ref l) (upd H l (.lst zs))
section
variable {X : Cx}
theorem dens_at {H : Hp} {K : PySem.W.Frag} : ∀ {ms : List (List Int)} {ys : List V} {vs : List Value} {v : Value}, Dens K H (ms.map itup) ys → Vals ys vs → v ∈ vs → ∃ m y, m ∈ ms ∧ Den K H (itup m) y ∧ RelV y v
  | [], ys, vs, v, h, r, hv => by
    simp only [List.map_nil, Dens] at h
    subst h; cases r; cases hv
  | m :: ms, ys, vs, v, h, r, hv => by
    simp only [List.map_cons, Dens] at h
    obtain ⟨y, t, rfl, h1, h2⟩ := h
    cases r with
    | cons q k =>
      rcases List.mem_cons.mp hv with rfl | hv
      · exact ⟨m, y, by simp, h1, q⟩
      · obtain ⟨m', y', e1, e2, e3⟩ := dens_at h2 k hv
        exact ⟨m', y', List.mem_cons_of_mem _ e1, e2, e3⟩
theorem tup_at {pins : List (Addr × Obj)} {σ : L2.St} {H : Hp} {s : Shared} {m : List Int} {y : V} {v : Value} (I : Inv X pins σ H s) (h : Den X.K H (itup m) y) (r : RelV y v) :
    ∃ a o xs n, y = .ref a ∧ v = .ref a ∧ s.heap.get? a = some o ∧ o.cls = .type "tuple" ∧ o.data = .seq xs n ∧ IntsAre xs.toList m ∧ intsAt s.heap v = m := by
  obtain ⟨a, ys, rfl, h1, h2⟩ := h.tup_of
  rw [dens_ints_of h2] at h1
  cases r
  obtain ⟨its, rv, ⟨o, e1, e2, n, e3⟩, _⟩ := I.tuple h1
  have hi := intsAre_vals rv
  refine ⟨a, o, its.toArray, n, rfl, rfl, e1, e2, e3, by simpa using hi, ?_⟩
  unfold intsAt
  simp only [e1, e3]
  exact nums_are (by simpa using hi)
theorem ints_of_dens {pins : List (Addr × Obj)} {σ : L2.St} {H : Hp} {s : Shared} (I : Inv X pins σ H s) : ∀ {ms : List (List Int)} {ys : List V} {vs : List Value}, Dens X.K H (ms.map itup) ys → Vals ys vs → vs.map (intsAt s.heap) = ms
  | [], ys, vs, h, r => by
    simp only [List.map_nil, Dens] at h
    subst h; cases r; rfl
  | m :: ms, ys, vs, h, r => by
    simp only [List.map_cons, Dens] at h
    obtain ⟨y, t, rfl, h1, h2⟩ := h
    cases r with
    | cons q k =>
      obtain ⟨_, _, _, _, _, _, _, _, _, _, e⟩ := tup_at I h1 q
      rw [List.map_cons, e, ints_of_dens I h2 k]
theorem tups_of {h : Heap} : ∀ {vs : List Value}, (∀ v ∈ vs, ∃ a o xs n t k, v = .ref a ∧ h.get? a = some o ∧ o.cls = .type "tuple" ∧ o.data = .seq xs n ∧ xs[0]? = some (.int k t)) → ∃ fs, PySem.W.KatTups h vs fs ∧ fs.length = vs.length ∧ ∀ f ∈ fs, ∃ k t, f = .int k t
  | [], _ => ⟨[], PySem.W.KatTups.nil, rfl, fun _ h => nomatch h⟩
  | v :: vs, hv => by
    obtain ⟨fs, e1, e2, e3⟩ := tups_of (vs := vs) fun u hu => hv u (List.mem_cons_of_mem _ hu)
    obtain ⟨a, o, xs, n, t, k, rfl, f1, f2, f3, f4⟩ := hv v (by simp)
    refine ⟨.int k t :: fs, PySem.W.KatTups.cons f1 f2 f3 f4 e1, by simp [e2], fun f hf => ?_⟩
    rcases List.mem_cons.mp hf with rfl | hf
    · exact ⟨k, t, rfl⟩
    · exact e3 f hf
theorem looks_int {M : Model} {h : Heap} (k : Int) (t : Tok) : PySem.W.Looks M h (typeOf (.int k t)) (.type "int") := fun A' Q' E' s' _ q => wpAny_typeOf (T := "int") (typeIs_int s' k t) q
theorem vals_ref : ∀ {vs : List Value}, (∀ v ∈ vs, ∃ a, v = .ref a) → Vals (vs.map refV) vs
  | [], _ => .nil
  | v :: vs, h => by
    obtain ⟨a, rfl⟩ := h v (by simp)
    exact .cons rfl (vals_ref fun u hu => h u (List.mem_cons_of_mem _ hu))
theorem call_sortT : CallR X (.builtin "sorted") (rSortT X.K) := by
  intro pins s σ H xs us Q I r h
  obtain ⟨p, ys, ms, rfl, hp, hd, hne, q⟩ := h
  obtain ⟨u, rfl, r1⟩ := vals1 r
  cases r1
  obtain ⟨its, rv, pl, hz⟩ := I.list hp
  have em := ints_of_dens I hd rv
  have at_ : ∀ v ∈ its, ∃ m y a o xs n, m ∈ ms ∧ Den X.K H (itup m) y ∧ y = .ref a ∧ v = .ref a ∧ s.heap.get? a = some o ∧ o.cls = .type "tuple" ∧ o.data = .seq xs n ∧ IntsAre xs.toList m ∧ intsAt s.heap v = m := fun v hv => by
    obtain ⟨m, y, e1, e2, e3⟩ := dens_at hd rv hv
    obtain ⟨a, o, xs, n, f⟩ := tup_at I e2 e3
    exact ⟨m, y, a, o, xs, n, e1, e2, f⟩
  refine sorted_any (G := fun p => p.1 ∈ its) (rk := fun p => rankL (its.map (intsAt s.heap)) (intsAt s.heap p.1)) pl.isList (by rw [← rv.length]; exact hz) (fun v hv => hv) (fun h' A' E' k c => ?_) fun out h' e op ow k ho => ?_
  · -- what is compared
    obtain ⟨fs, e1, e2, e3⟩ := tups_of (h := h') (vs := its) fun v hv => by
      obtain ⟨m, y, a, o, xs, n, f1, f2, rfl, rfl, f3, f4, f5, f6, f7⟩ := at_ v hv
      cases xs with
      | mk l =>
        cases f6 with
        | nil => exact absurd rfl (hne _ f1)
        | cons x t g => exact ⟨a, o, _, n, t, x, rfl, k _ _ f3, f4, f5, rfl⟩
    refine ⟨tuples' true, fun Q' hq => ?_, cm_of fun x y Q' E2 gx gy hq => ?_⟩
    · exact PySem.W.kat_kind (T := .type "int") (s := { s with heap := h' }) e1 (by omega) (fun v hv => by obtain ⟨z, t, rfl⟩ := e3 v hv; exact looks_int z t) (by decide) hq
    · obtain ⟨m1, _, a1, o1, xs1, n1, _, _, _, ea1, g3, g4, g5, g6, g7⟩ := at_ _ gx
      obtain ⟨m2, _, a2, o2, xs2, n2, _, _, _, ea2, k3, k4, k5, k6, k7⟩ := at_ _ gy
      rw [rank_iff (List.mem_map.mpr ⟨_, gx, rfl⟩), g7, k7] at hq
      rw [ea1, ea2]
      refine PySem.W.kat_lt (s := { s with heap := h' }) (k _ _ g3) g5 (k _ _ k3) k5 (lex_walk 0 g6 k6 ?_ hq)
      have l1 := g6.length
      have l2 := k6.length
      rw [Array.length_toList] at l1 l2
      omega
  · -- the new list
    have hre : ∀ v ∈ out, v ∈ its := fun v hv => op.mem_iff.mp hv
    have hvr : Vals (out.map refV) out := vals_ref fun v hv => by
      obtain ⟨_, _, a, _, _, _, _, _, _, e, _⟩ := at_ v (hre v hv); exact ⟨a, e⟩
    have hl : H (s.heap.objs.size + 1) = none := I.hok.fresh (Nat.le_succ _)
    have ol : (out.map refV).length ≤ sizeLine := by rw [List.length_map, op.length_eq, ← rv.length]; exact hz
    refine ⟨.ref (s.heap.objs.size + 1), upd H (s.heap.objs.size + 1) (.lst (out.map refV)), I.laid (t' := s.toks) k (Nat.le_succ _) (show ObjOk X.prog X.w _ h' _ (.lst (out.map refV)) from ⟨ol, out, e, hvr, ho⟩), rfl, ?_⟩
    refine q _ (out.map (intsAt s.heap)) _ hl ((op.map _).trans (List.Perm.of_eq em)) ?_ ?_
    · refine List.pairwise_map.mpr (List.Pairwise.imp_of_mem (fun {x y} hx hy hle => ?_) ow)
      have := rank_iff (L := its.map (intsAt s.heap)) (a := intsAt s.heap y) (b := intsAt s.heap x) (List.mem_map.mpr ⟨y, hre y hy, rfl⟩)
      rw [← this]
      have hle' : rankL (its.map (intsAt s.heap)) (intsAt s.heap x) ≤ rankL (its.map (intsAt s.heap)) (intsAt s.heap y) := hle
      exact decide_eq_false (by omega)
    · have all : ∀ (l : List Value), (∀ v ∈ l, v ∈ its) → Dens X.K (upd H (s.heap.objs.size + 1) (.lst (out.map refV))) ((l.map (intsAt s.heap)).map itup) (l.map refV) := by
        intro l
        induction l with
        | nil => intro _; exact Dens.nil
        | cons v l ih =>
          intro hv
          obtain ⟨m, y, a, o, xs, n, f1, f2, rfl, rfl, f3, f4, f5, f6, f7⟩ := at_ v (hv v (by simp))
          rw [List.map_cons, List.map_cons, List.map_cons]
          refine Dens.cons ?_ (ih fun u hu => hv u (List.mem_cons_of_mem _ hu))
          rw [f7]
          exact Den.same (same_new hl _) _ _ f2
      exact all out hre
end

/-! ### a dict with tuples for keys: its keys as a list, its size -/
section
variable {X : Cx}
def keyT (k : List Int) : List Key := k.map Sum.inl
theorem keyT_kV (k : List Int) : (keyT k).map kV = k.map V.int := by
  unfold keyT; rw [List.map_map]; rfl
/-- what stands under the keys: addresses of tuples -/
def KeysAt (H : Hp) (ks : List (List Key)) (ys : List V) : Prop := Paired (fun (k : List Key) (y : V) => ∃ b, y = .ref b ∧ H b = some (.tup (k.map kV))) ks ys
def rListD : List V → Hp → VK → Prop := fun xs H Q => ∃ (a : Addr) (kvs : List (List Key × V)), xs = [.ref a] ∧ H a = some (.dT kvs) ∧ ∀ (l : Addr) (ys : List V), H l = none → KeysAt H (kvs.map (·.1)) ys → Q (.ref l) (upd H l (.lst ys))
theorem call_listD (hc : X.calm = true) : CallR X (.type "list") rListD := by
  intro pins s σ H xs us Q I r h
  obtain ⟨a, kvs, rfl, ha, q⟩ := h
  obtain ⟨u, rfl, r1⟩ := vals1 r
  cases r1
  obtain ⟨z, lo, zs, rel, o, es, ep, e1, e2, e3, e4, e5⟩ := (show ObjOk X.prog X.w H s.heap a (.dT kvs) from I.hok a _ ha)
  have hsz : es.size = kvs.length := by
    rw [← Array.length_toList, e4, List.length_map]; exact (Paired.length rel).symm
  refine PySem.W.kdl_call (raw_src lo) (I.ok.hd hc) ⟨o, e1, e2, e3⟩ (by rw [hsz]; exact z) fun h' tk acc c k hS it => ?_
  -- the items are the addresses of the keys
  have hv : acc.toList = zs.map fun x => Value.ref x.2.1 := by
    refine List.ext_getElem? fun i => ?_
    rw [Array.getElem?_toList]
    by_cases hi : i < es.size
    · have ha' : i < acc.size := by rw [it.1]; exact hi
      obtain ⟨en, f1, f2⟩ := it.2 i acc[i] (Array.getElem?_eq_getElem ha')
      rw [Array.getElem?_eq_getElem ha', f2]
      rw [← Array.getElem?_toList, e4, List.getElem?_map] at f1
      rw [List.getElem?_map]
      cases g : zs[i]? with
      | none => rw [g] at f1; cases f1
      | some x => rw [g] at f1; cases f1; rfl
    · rw [Array.getElem?_eq_none (by rw [it.1]; omega), List.getElem?_map, List.getElem?_eq_none (by have := Paired.length rel; omega)]; rfl
  have hk : KeysAt H (kvs.map (·.1)) (zs.map fun x => V.ref x.2.1) := by
    unfold KeysAt
    clear q z hsz e4 e5 hv it ha
    induction rel with
    | nil => exact .nil
    | cons hq t ih => exact .cons ⟨_, rfl, by rw [← hq.2.1]⟩ ih
  have hvr : Vals (zs.map fun x => V.ref x.2.1) (zs.map fun x => Value.ref x.2.1) := by
    clear q z hsz e4 e5 hv it hk rel
    induction zs with
    | nil => exact .nil
    | cons x t ih => exact .cons rfl ih
  have hl : H s.heap.objs.size = none := I.hok.fresh (Nat.le_refl _)
  refine ⟨.ref s.heap.objs.size, _, I.laid (t' := tk) k (Nat.le_refl _) (show ObjOk X.prog X.w _ h' _ (.lst (zs.map fun x => V.ref x.2.1)) from ⟨?_, acc.toList, c, by rw [hv]; exact hvr, by simpa using hS⟩), rfl, q _ _ hl hk⟩
  rw [List.length_map, ← Paired.length rel]; exact z
end
end L3

namespace Ma
open PySem L2 L3
/-! ### the lines of points, rising -/
def lnl (l : Ln) : List Int := [l.a, l.b, l.c]
theorem lnl_inj {l m : Ln} (h : lnl l = lnl m) : l = m := by
  cases l; cases m
  unfold lnl at h
  simp only [List.cons.injEq, and_true] at h
  obtain ⟨h1, h2, h3⟩ := h
  subst h1 h2 h3; rfl
structure LinesIs (ps : List Pt) (L : List Ln) : Prop where
  srt : L.Pairwise fun l m => llt (lnl l) (lnl m) = true
  mem : ∀ l, l ∈ L ↔ IsL ps l
theorem LinesIs.nd {ps : List Pt} {L : List Ln} (h : LinesIs ps L) : L.Nodup := h.srt.imp fun {l m} z e => by
  rw [e, lex_irr] at z; cases z
/-- the places of the points on a line -/
def places (l : Ln) (ps : List Pt) : List Int := ((List.range ps.length).filter fun k => decide (On l (ps.getD k (0, 0)))).map fun (k : Nat) => (k : Int)
def placesTo (l : Ln) (ps : List Pt) (n : Nat) : List Int := ((List.range n).filter fun k => decide (On l (ps.getD k (0, 0)))).map fun (k : Nat) => (k : Int)
theorem placesTo_succ (l : Ln) (ps : List Pt) (n : Nat) : placesTo l ps (n + 1) = if On l (ps.getD n (0, 0)) then placesTo l ps n ++ [(n : Int)] else placesTo l ps n := by
  unfold placesTo
  rw [List.range_succ, List.filter_append, List.map_append]
  by_cases c : On l (ps.getD n (0, 0))
  · rw [if_pos c, List.filter_cons, if_pos (decide_eq_true c)]; rfl
  · rw [if_neg c, List.filter_cons, if_neg (by rw [decide_eq_false c]; simp)]; simp
theorem placesTo_len (l : Ln) (ps : List Pt) (n : Nat) : (placesTo l ps n).length ≤ n := by
  unfold placesTo
  rw [List.length_map]
  refine Nat.le_trans (List.length_filter_le _ _) ?_
  rw [List.length_range]; exact Nat.le_refl _
/-- a row: the line and its places -/
def rowD (ps : List Pt) (l : Ln) : PyData := .tuple [ln l, .list ((places l ps).map .int)]
def rowsD (ps : List Pt) (L : List Ln) : PyData := .list (L.map (rowD ps))
/-! ### the lines of pairs, as they come -/
/-- the pairs below k, and of k those with j below m -/
def Seen (ps : List Pt) (k m : Nat) (l : Ln) : Prop := ∃ i j : Nat, j < i ∧ (i < k ∨ (i = k ∧ j < m)) ∧ ∃ p q, ps[j]? = some p ∧ ps[i]? = some q ∧ l = lineOf p q
theorem seen_all {ps : List Pt} (nd : ps.Nodup) {l : Ln} : Seen ps ps.length 0 l ↔ IsL ps l := by
  constructor
  · rintro ⟨i, j, hij, hi, p, q, ep, eq, rfl⟩
    refine ⟨p, List.mem_of_getElem? ep, q, List.mem_of_getElem? eq, fun z => ?_, rfl⟩
    subst z
    have hj := (List.getElem?_eq_some_iff.mp ep)
    have hi' := (List.getElem?_eq_some_iff.mp eq)
    exact List.pairwise_iff_getElem.mp nd j i hj.1 hi'.1 hij (hj.2.trans hi'.2.symm)
  · rintro ⟨p, hp, q, hq, ne, rfl⟩
    obtain ⟨a, ha, ea⟩ := List.getElem_of_mem hp
    obtain ⟨b, hb, eb⟩ := List.getElem_of_mem hq
    have nab : a ≠ b := fun z => by subst z; exact ne (ea.symm.trans eb)
    rcases Nat.lt_or_gt_of_ne nab with c | c
    · exact ⟨b, a, c, .inl hb, p, q, by rw [List.getElem?_eq_getElem ha, ea], by rw [List.getElem?_eq_getElem hb, eb], rfl⟩
    · exact ⟨a, b, c, .inl ha, q, p, by rw [List.getElem?_eq_getElem hb, eb], by rw [List.getElem?_eq_getElem ha, ea], (line_swap ne).symm⟩
theorem seen_step {ps : List Pt} {k m : Nat} {p q : Pt} (hm : m < k) (ep : ps[m]? = some p) (eq : ps[k]? = some q) (l : Ln) : Seen ps k (m + 1) l ↔ Seen ps k m l ∨ l = lineOf p q := by
  constructor
  · rintro ⟨i, j, hij, hi, p', q', e1, e2, rfl⟩
    rcases hi with hi | ⟨rfl, hj⟩
    · exact .inl ⟨i, j, hij, .inl hi, p', q', e1, e2, rfl⟩
    · by_cases c : j = m
      · subst c
        rw [ep] at e1; rw [eq] at e2; cases e1; cases e2
        exact .inr rfl
      · exact .inl ⟨i, j, hij, .inr ⟨rfl, by omega⟩, p', q', e1, e2, rfl⟩
  · rintro (⟨i, j, hij, hi, r⟩ | rfl)
    · exact ⟨i, j, hij, by omega, r⟩
    · exact ⟨k, m, hm, .inr ⟨rfl, by omega⟩, p, q, ep, eq, rfl⟩
theorem seen_next {ps : List Pt} {k : Nat} (l : Ln) : Seen ps (k + 1) 0 l ↔ Seen ps k k l := by
  constructor
  · rintro ⟨i, j, hij, hi, r⟩
    exact ⟨i, j, hij, by omega, r⟩
  · rintro ⟨i, j, hij, hi, r⟩
    exact ⟨i, j, hij, by omega, r⟩
theorem seen_none {ps : List Pt} (l : Ln) : ¬ Seen ps 0 0 l := by
  rintro ⟨i, j, hij, hi, r⟩; omega
end Ma

namespace L3
open PySem PySem.Spec PyProof.Rows PySem.Calls L2
/-! ### deep data with the addresses of its lists -/
mutual
def DenA (K : PySem.W.Frag) (H : Hp) : PyData → V → List Addr → Prop
  | .none, v, as => v = .non ∧ as = []
  | .bool b, v, as => v = .bl b ∧ as = []
  | .int i, v, as => v = .int i ∧ as = []
  | .str x, v, as => v = .str x ∧ as = []
  | .tuple ds, v, as => ∃ a xs, v = .ref a ∧ SqT K H a xs ∧ DensA K H ds xs as
  | .list ds, v, as => ∃ a xs bs, v = .ref a ∧ H a = some (.lst xs) ∧ DensA K H ds xs bs ∧ as = a :: bs
  | .dict _, _, _ => False
def DensA (K : PySem.W.Frag) (H : Hp) : List PyData → List V → List Addr → Prop
  | [], xs, as => xs = [] ∧ as = []
  | d :: ds, xs, as => ∃ x r bs cs, xs = x :: r ∧ DenA K H d x bs ∧ DensA K H ds r cs ∧ as = bs ++ cs
end
mutual
theorem DenA.den {K : PySem.W.Frag} {H : Hp} : ∀ (d : PyData) (v : V) (as : List Addr), DenA K H d v as → Den K H d v
  | .none, v, as, h => by simp only [DenA] at h; simp only [Den]; exact h.1
  | .bool b, v, as, h => by simp only [DenA] at h; simp only [Den]; exact h.1
  | .int i, v, as, h => by simp only [DenA] at h; simp only [Den]; exact h.1
  | .str x, v, as, h => by simp only [DenA] at h; simp only [Den]; exact h.1
  | .tuple ds, v, as, h => by
    simp only [DenA] at h
    obtain ⟨a, xs, e1, e2, e3⟩ := h
    simp only [Den]
    exact ⟨a, xs, e1, e2, DensA.dens ds xs as e3⟩
  | .list ds, v, as, h => by
    simp only [DenA] at h
    obtain ⟨a, xs, bs, e1, e2, e3, _⟩ := h
    simp only [Den]
    exact ⟨a, xs, e1, SqL.of e2, DensA.dens ds xs bs e3⟩
  | .dict _, v, as, h => by simp only [DenA] at h
theorem DensA.dens {K : PySem.W.Frag} {H : Hp} : ∀ (ds : List PyData) (xs : List V) (as : List Addr), DensA K H ds xs as → Dens K H ds xs
  | [], xs, as, h => by simp only [DensA] at h; simp only [Dens]; exact h.1
  | d :: ds, xs, as, h => by
    simp only [DensA] at h
    obtain ⟨x, r, bs, cs, e1, e2, e3, _⟩ := h
    simp only [Dens]
    exact ⟨x, r, e1, DenA.den d x bs e2, DensA.dens ds r cs e3⟩
end
mutual
theorem DenA.same {K : PySem.W.Frag} {H H' : Hp} (e : Same H H') : ∀ (d : PyData) (v : V) (as : List Addr), DenA K H d v as → DenA K H' d v as
  | .none, v, as, h => by simpa only [DenA] using h
  | .bool b, v, as, h => by simpa only [DenA] using h
  | .int i, v, as, h => by simpa only [DenA] using h
  | .str x, v, as, h => by simpa only [DenA] using h
  | .tuple ds, v, as, h => by
    simp only [DenA] at h ⊢
    obtain ⟨a, xs, e1, e2, e3⟩ := h
    exact ⟨a, xs, e1, same_seqT e e2, DensA.same e ds xs as e3⟩
  | .list ds, v, as, h => by
    simp only [DenA] at h ⊢
    obtain ⟨a, xs, bs, e1, e2, e3, e4⟩ := h
    exact ⟨a, xs, bs, e1, e _ _ e2, DensA.same e ds xs bs e3, e4⟩
  | .dict _, v, as, h => by simp only [DenA] at h
theorem DensA.same {K : PySem.W.Frag} {H H' : Hp} (e : Same H H') : ∀ (ds : List PyData) (xs : List V) (as : List Addr), DensA K H ds xs as → DensA K H' ds xs as
  | [], xs, as, h => by simpa only [DensA] using h
  | d :: ds, xs, as, h => by
    simp only [DensA] at h ⊢
    obtain ⟨x, r, bs, cs, e1, e2, e3, e4⟩ := h
    exact ⟨x, r, bs, cs, e1, DenA.same e d x bs e2, DensA.same e ds r cs e3, e4⟩
end
mutual
/-- another list is written -/
theorem DenA.upd {K : PySem.W.Frag} {H : Hp} {p : Addr} {ys : List V} {o : HO} (hp : H p = some (.lst ys)) : ∀ (d : PyData) (v : V) (as : List Addr), p ∉ as → DenA K H d v as → DenA K (upd H p o) d v as
  | .none, v, as, _, h => by simpa only [DenA] using h
  | .bool b, v, as, _, h => by simpa only [DenA] using h
  | .int i, v, as, _, h => by simpa only [DenA] using h
  | .str x, v, as, _, h => by simpa only [DenA] using h
  | .tuple ds, v, as, n, h => by
    simp only [DenA] at h ⊢
    obtain ⟨a, xs, e1, e2, e3⟩ := h
    exact ⟨a, xs, e1, upd_seqT hp e2, DensA.upd hp ds xs as n e3⟩
  | .list ds, v, as, n, h => by
    simp only [DenA] at h ⊢
    obtain ⟨a, xs, bs, e1, e2, e3, e4⟩ := h
    subst e4
    rw [List.mem_cons, not_or] at n
    exact ⟨a, xs, bs, e1, by rw [upd_ne (Ne.symm n.1)]; exact e2, DensA.upd hp ds xs bs n.2 e3, rfl⟩
  | .dict _, v, as, _, h => by simp only [DenA] at h
theorem DensA.upd {K : PySem.W.Frag} {H : Hp} {p : Addr} {ys : List V} {o : HO} (hp : H p = some (.lst ys)) : ∀ (ds : List PyData) (xs : List V) (as : List Addr), p ∉ as → DensA K H ds xs as → DensA K (upd H p o) ds xs as
  | [], xs, as, _, h => by simpa only [DensA] using h
  | d :: ds, xs, as, n, h => by
    simp only [DensA] at h ⊢
    obtain ⟨x, r, bs, cs, e1, e2, e3, e4⟩ := h
    subst e4
    rw [List.mem_append, not_or] at n
    exact ⟨x, r, bs, cs, e1, DenA.upd hp d x bs n.1 e2, DensA.upd hp ds r cs n.2 e3, rfl⟩
end
mutual
/-- what holds no list -/
theorem DenA.of {K : PySem.W.Frag} {H : Hp} : ∀ (d : PyData) (v : V), nol d = true → Den K H d v → DenA K H d v []
  | .none, v, _, h => by simp only [Den] at h; simp only [DenA]; exact ⟨h, by trivial⟩
  | .bool b, v, _, h => by simp only [Den] at h; simp only [DenA]; exact ⟨h, by trivial⟩
  | .int i, v, _, h => by simp only [Den] at h; simp only [DenA]; exact ⟨h, by trivial⟩
  | .str x, v, _, h => by simp only [Den] at h; simp only [DenA]; exact ⟨h, by trivial⟩
  | .tuple ds, v, n, h => by
    simp only [Den] at h
    simp only [nol] at n
    obtain ⟨a, xs, e1, e2, e3⟩ := h
    simp only [DenA]
    exact ⟨a, xs, e1, e2, DensA.of ds xs n e3⟩
  | .list ds, v, n, h => by simp only [nol] at n; cases n
  | .dict _, v, n, h => by simp only [nol] at n; cases n
theorem DensA.of {K : PySem.W.Frag} {H : Hp} : ∀ (ds : List PyData) (xs : List V), nols ds = true → Dens K H ds xs → DensA K H ds xs []
  | [], xs, _, h => by simp only [Dens] at h; simp only [DensA]; exact ⟨h, by trivial⟩
  | d :: ds, xs, n, h => by
    simp only [nols, Bool.and_eq_true] at n
    simp only [Dens] at h
    obtain ⟨x, r, e1, e2, e3⟩ := h
    simp only [DensA]
    exact ⟨x, r, [], [], e1, DenA.of d x n.1 e2, DensA.of ds r n.2 e3, rfl⟩
end
section
variable {K : PySem.W.Frag} {H : Hp}
theorem DensA.nil : DensA K H [] [] [] := by simp only [DensA]; exact ⟨by trivial, by trivial⟩
theorem DensA.cons {d : PyData} {ds : List PyData} {x : V} {r : List V} {bs cs : List Addr} (h : DenA K H d x bs) (t : DensA K H ds r cs) : DensA K H (d :: ds) (x :: r) (bs ++ cs) := by
  simp only [DensA]; exact ⟨x, r, bs, cs, rfl, h, t, rfl⟩
theorem DensA.snoc : ∀ {ds : List PyData} {xs : List V} {as bs : List Addr} {d : PyData} {x : V}, DensA K H ds xs as → DenA K H d x bs → DensA K H (ds ++ [d]) (xs ++ [x]) (as ++ bs)
  | [], xs, as, bs, d, x, h, k => by
    simp only [DensA] at h
    obtain ⟨rfl, rfl⟩ := h
    have := DensA.cons k DensA.nil
    rw [List.append_nil] at this
    exact this
  | e :: ds, xs, as, bs, d, x, h, k => by
    simp only [DensA] at h
    obtain ⟨y, r, b1, c1, rfl, h1, h2, rfl⟩ := h
    rw [List.append_assoc]
    exact DensA.cons h1 (DensA.snoc h2 k)
theorem denA_lst {a : Addr} {xs : List V} {ds : List PyData} {bs : List Addr} (h : H a = some (.lst xs)) (t : DensA K H ds xs bs) : DenA K H (.list ds) (.ref a) (a :: bs) := by simp only [DenA]; exact ⟨a, xs, bs, rfl, h, t, rfl⟩
theorem denA_tup {a : Addr} {xs : List V} {ds : List PyData} {bs : List Addr} (h : SqT K H a xs) (t : DensA K H ds xs bs) : DenA K H (.tuple ds) (.ref a) bs := by simp only [DenA]; exact ⟨a, xs, rfl, h, t⟩
theorem DenA.lst_of {v : V} {ds : List PyData} {as : List Addr} (h : DenA K H (.list ds) v as) : ∃ a xs bs, v = .ref a ∧ H a = some (.lst xs) ∧ DensA K H ds xs bs ∧ as = a :: bs := by simpa only [DenA] using h
theorem DenA.tup_of {v : V} {ds : List PyData} {as : List Addr} (h : DenA K H (.tuple ds) v as) : ∃ a xs, v = .ref a ∧ SqT K H a xs ∧ DensA K H ds xs as := by simpa only [DenA] using h
theorem DensA.cons_of {d : PyData} {ds : List PyData} {xs : List V} {as : List Addr} (h : DensA K H (d :: ds) xs as) : ∃ x r bs cs, xs = x :: r ∧ DenA K H d x bs ∧ DensA K H ds r cs ∧ as = bs ++ cs := by simpa only [DensA] using h
theorem DensA.nil_of {xs : List V} {as : List Addr} (h : DensA K H [] xs as) : xs = [] ∧ as = [] := by simpa only [DensA] using h
end
/-- new data, its lists each its own -/
structure NewD (K : PySem.W.Frag) (H0 H : Hp) (d : PyData) (v : V) (as : List Addr) : Prop where
  den : DenA K H d v as
  nd : as.Nodup
  fr : ∀ a ∈ as, H0 a = none
/-- a dict of lines -/
theorem keys_dens {K : PySem.W.Frag} {H : Hp} {ks : List (List Int)} : ∀ {ys : List V}, KeysAt H (ks.map keyT) ys → Dens K H (ks.map itup) ys := by
  induction ks with
  | nil => intro ys h; cases h; exact Dens.nil
  | cons k ks ih =>
    intro ys h
    cases h with
    | cons q t =>
      obtain ⟨b, rfl, e⟩ := q
      rw [keyT_kV] at e
      exact Dens.cons (den_tup (SqT.of e) (dens_ints k)) (ih t)
end L3
namespace Ma
open PySem L2 L3
def lnOf (m : List Int) : Ln := ⟨m.getD 0 0, m.getD 1 0, m.getD 2 0⟩
def entry (l : Ln) : List Key × V := (keyT (lnl l), .bl true)
theorem keyT_inj {a b : List Int} (h : keyT a = keyT b) : a = b := by
  unfold keyT at h
  induction a generalizing b with
  | nil => cases b with
    | nil => rfl
    | cons _ _ => simp at h
  | cons x a ih => cases b with
    | nil => simp at h
    | cons y b =>
      rw [List.map_cons, List.map_cons] at h
      injection h with h1 h2
      injection h1 with h1
      rw [h1, ih h2]
theorem put_line (ks : List Ln) (l : Ln) : putK (ks.map entry) (keyT (lnl l)) (.bl true) = (if l ∈ ks then ks else ks ++ [l]).map entry := by
  have hany : ((ks.map entry).any fun kv => decide (kv.1 = keyT (lnl l))) = decide (l ∈ ks) := by
    induction ks with
    | nil => rfl
    | cons k ks ih =>
      rw [List.map_cons, List.any_cons, ih]
      by_cases c : k = l
      · subst c; simp [entry]
      · have c2 : ¬ (entry k).1 = keyT (lnl l) := fun z => c (lnl_inj (keyT_inj z))
        have c3 : ¬ l = k := fun z => c z.symm
        simp [c2, c3]
  unfold putK
  rw [hany]
  by_cases c : l ∈ ks
  · rw [if_pos (decide_eq_true c), if_pos c]
    have : ∀ kv ∈ ks.map entry, (if kv.1 = keyT (lnl l) then (kv.1, V.bl true) else kv) = kv := fun kv hkv => by
      obtain ⟨k, _, rfl⟩ := List.mem_map.mp hkv
      split
      · rfl
      · rfl
    calc (ks.map entry).map (fun kv => if kv.1 = keyT (lnl l) then (kv.1, V.bl true) else kv) = (ks.map entry).map id := List.map_congr_left this
      _ = ks.map entry := List.map_id _
  · rw [if_neg (by simpa using c), if_neg c, List.map_append]; rfl
/-- sorted, the lines rise -/
theorem lines_sorted {ps : List Pt} {ks : List Ln} (nd : ks.Nodup) (hm : ∀ l, l ∈ ks ↔ IsL ps l) {ns : List (List Int)} (hp : ns.Perm (ks.map lnl)) (hs : ns.Pairwise fun a b => llt b a = false) : ∃ L, ns = L.map lnl ∧ LinesIs ps L := by
  have back : ∀ n ∈ ns, lnl (lnOf n) = n := fun n hn => by
    obtain ⟨l, _, rfl⟩ := List.mem_map.mp (hp.mem_iff.mp hn)
    rfl
  have e1 : ns = (ns.map lnOf).map lnl := by
    rw [List.map_map]
    calc ns = ns.map id := (List.map_id _).symm
      _ = ns.map (lnl ∘ lnOf) := List.map_congr_left fun n hn => (back n hn).symm
  have hp2 : (ns.map lnOf).Perm ks := by
    have := hp.map lnOf
    rw [List.map_map] at this
    refine this.trans (List.Perm.of_eq ?_)
    calc ks.map (lnOf ∘ lnl) = ks.map id := List.map_congr_left fun _ _ => rfl
      _ = ks := List.map_id _
  have nd2 : (ns.map lnOf).Nodup := hp2.nodup_iff.mpr nd
  refine ⟨ns.map lnOf, e1, ?_, fun l => (hp2.mem_iff).trans (hm l)⟩
  rw [e1] at hs
  have h2 := List.pairwise_map.mp hs
  refine (h2.and nd2).imp fun {l m} z => ?_
  cases c : llt (lnl l) (lnl m) with
  | true => rfl
  | false => exact absurd (lnl_inj (lex_tri c z.1)) z.2
end Ma

namespace L3
open PySem PySem.Spec PyProof.Rows PySem.Calls L2
/-! ### lists of numbers, lists of points -/
end L3
namespace Ma
open PySem L2 L3
def plst (ps : List Pt) : PyData := .list (ps.map pt)
theorem eqvAll_pts : ∀ ps qs : List Pt, PyData.eqvAll (ps.map pt) (qs.map pt) = decide (ps = qs)
  | [], [] => rfl
  | [], n :: ns => by simp [PyData.eqvAll]
  | m :: ms, [] => by simp [PyData.eqvAll]
  | m :: ms, n :: ns => by
    simp only [List.map_cons, PyData.eqvAll, eqv_pt, eqvAll_pts ms ns]
    by_cases h1 : m = n <;> by_cases h2 : ms = ns <;> simp [h1, h2]
theorem eqv_plst (ps qs : List Pt) : PyData.eqv (plst ps) (plst qs) = decide (ps = qs) := eqvAll_pts ps qs
theorem canlay_pts : ∀ ps : List Pt, PyData.canLayAll0 (ps.map pt) = true
  | [] => rfl
  | m :: ms => by
    rw [List.map_cons]
    simp only [PyData.canLayAll0, canlay_pts ms, Bool.and_true]; rfl
theorem dep_pts : ∀ ps : List Pt, PyData.depthAll (ps.map pt) ≤ 1
  | [] => by simp [PyData.depthAll]
  | m :: ms => by
    rw [List.map_cons]
    simp only [PyData.depthAll]
    exact Nat.max_le.mpr ⟨Nat.le_refl _, dep_pts ms⟩
theorem shp_plst (ps : List Pt) : shp (plst ps) = true := by
  unfold shp plst
  simp only [PyData.canLay0, canlay_pts, PyData.depth, Bool.true_and]
  refine decide_eq_true ?_
  have := dep_pts ps
  omega
end Ma
namespace Tw
open PySem L2 L3
/-- a list of points -/
def PtsAt (K : PySem.W.Frag) (H : Hp) (r : Addr) (ps : List Ma.Pt) : Prop := ∃ xs, H r = some (.lst xs) ∧ Dens K H (ps.map Ma.pt) xs
theorem PtsAt.same {K : PySem.W.Frag} {H H' : Hp} {r : Addr} {ps : List Ma.Pt} (s : Same H H') (h : PtsAt K H r ps) : PtsAt K H' r ps := by
  obtain ⟨xs, h1, h2⟩ := h
  exact ⟨xs, s _ _ h1, Dens.same s _ _ h2⟩
theorem PtsAt.get {K : PySem.W.Frag} {H : Hp} {r : Addr} {ps : List Ma.Pt} (h : PtsAt K H r ps) : ∃ xs, H r = some (.lst xs) ∧ xs.length = ps.length ∧ ∀ (i : Nat) p, ps[i]? = some p → ∃ x, xs[i]? = some x ∧ Den K H (Ma.pt p) x := by
  obtain ⟨xs, h1, h2⟩ := h
  refine ⟨xs, h1, by have := Dens.length h2; rw [List.length_map] at this; exact this, fun i p e => ?_⟩
  exact Dens.at (i := i) h2 (by rw [List.getElem?_map, e]; rfl)
theorem ifT {A B : Prop} (h : A) : if true = true then A else B := by rw [if_pos rfl]; exact h
theorem ifF {A B : Prop} (h : B) : if false = true then A else B := by rw [if_neg (by simp)]; exact h
mutual
theorem DenA.there {K : PySem.W.Frag} {H : Hp} : ∀ (d : PyData) (v : V) (as : List Addr), DenA K H d v as → ∀ a ∈ as, ∃ xs, H a = some (.lst xs)
  | .none, v, as, h, a, m => by simp only [DenA] at h; rw [h.2] at m; cases m
  | .bool b, v, as, h, a, m => by simp only [DenA] at h; rw [h.2] at m; cases m
  | .int i, v, as, h, a, m => by simp only [DenA] at h; rw [h.2] at m; cases m
  | .str x, v, as, h, a, m => by simp only [DenA] at h; rw [h.2] at m; cases m
  | .tuple ds, v, as, h, a, m => by
    simp only [DenA] at h
    obtain ⟨b, xs, e1, e2, e3⟩ := h
    exact DensA.there ds xs as e3 a m
  | .list ds, v, as, h, a, m => by
    simp only [DenA] at h
    obtain ⟨b, xs, bs, e1, e2, e3, e4⟩ := h
    rw [e4] at m
    rcases List.mem_cons.mp m with z | z
    · rw [z]; exact ⟨xs, e2⟩
    · exact DensA.there ds xs bs e3 a z
  | .dict _, v, as, h, a, m => by simp only [DenA] at h
theorem DensA.there {K : PySem.W.Frag} {H : Hp} : ∀ (ds : List PyData) (xs : List V) (as : List Addr), DensA K H ds xs as → ∀ a ∈ as, ∃ xs, H a = some (.lst xs)
  | [], xs, as, h, a, m => by simp only [DensA] at h; rw [h.2] at m; cases m
  | d :: ds, xs, as, h, a, m => by
    simp only [DensA] at h
    obtain ⟨x, r, bs, cs, e1, e2, e3, e4⟩ := h
    rw [e4] at m
    rcases List.mem_append.mp m with z | z
    · exact DenA.there d x bs e2 a z
    · exact DensA.there ds r cs e3 a z
end
theorem densA_ints {K : PySem.W.Frag} {H : Hp} : ∀ ms : List Int, DensA K H (ms.map PyData.int) (ms.map V.int) []
  | [] => DensA.nil
  | m :: ms => DensA.cons (bs := []) (by simp only [DenA]; exact ⟨by trivial, by trivial⟩) (densA_ints ms)
mutual
theorem DenA.none_of {K : PySem.W.Frag} {H : Hp} : ∀ (d : PyData) (v : V) (as : List Addr), nol d = true → DenA K H d v as → as = []
  | .none, v, as, _, h => by simp only [DenA] at h; exact h.2
  | .bool b, v, as, _, h => by simp only [DenA] at h; exact h.2
  | .int i, v, as, _, h => by simp only [DenA] at h; exact h.2
  | .str x, v, as, _, h => by simp only [DenA] at h; exact h.2
  | .tuple ds, v, as, n, h => by
    simp only [nol] at n
    simp only [DenA] at h
    obtain ⟨b, xs, e1, e2, e3⟩ := h
    exact DensA.none_of ds xs as n e3
  | .list ds, v, as, n, h => by simp only [nol] at n; cases n
  | .dict _, v, as, n, h => by simp only [nol] at n; cases n
theorem DensA.none_of {K : PySem.W.Frag} {H : Hp} : ∀ (ds : List PyData) (xs : List V) (as : List Addr), nols ds = true → DensA K H ds xs as → as = []
  | [], xs, as, _, h => by simp only [DensA] at h; exact h.2
  | d :: ds, xs, as, n, h => by
    simp only [nols, Bool.and_eq_true] at n
    simp only [DensA] at h
    obtain ⟨x, r, bs, cs, e1, e2, e3, e4⟩ := h
    rw [e4, DenA.none_of d x bs n.1 e2, DensA.none_of ds r cs n.2 e3]; rfl
end
structure PsOk (ps : List Ma.Pt) : Prop where
  good : Ma.Good ps
  two : 2 ≤ ps.length
  len : ps.length ≤ 20
theorem isL_lb {ps : List Ma.Pt} (o : PsOk ps) {l : Ma.Ln} (h : Ma.IsL ps l) : Ma.LB l ∧ Ma.Told l := by
  obtain ⟨p, hp, q, hq, ne, rfl⟩ := h
  exact ⟨Ma.line_lb ne (o.good.inb p hp) (o.good.inb q hq), Ma.lineOf_told ne⟩
/-! ### told rows: a line and its own list of places -/
def Row (K : PySem.W.Frag) (H : Hp) (ps : List Ma.Pt) (l : Ma.Ln) (x : V) (pl : Addr) : Prop := ∃ t z, x = .ref t ∧ SqT K H t [z, .ref pl] ∧ Den K H (Ma.ln l) z ∧ H pl = some (.lst ((Ma.places l ps).map V.int))
theorem Row.same {K : PySem.W.Frag} {H H' : Hp} {ps : List Ma.Pt} {l : Ma.Ln} {x : V} {pl : Addr} (s : Same H H') (h : Row K H ps l x pl) : Row K H' ps l x pl := by
  obtain ⟨t, z, e, h1, h2, h3⟩ := h
  exact ⟨t, z, e, same_seqT s h1, Den.same s _ _ h2, s _ _ h3⟩
theorem row_of {K : PySem.W.Frag} {H : Hp} {ps : List Ma.Pt} {l : Ma.Ln} {x : V} {as : List Addr} (h : DenA K H (Ma.rowD ps l) x as) : ∃ pl, as = [pl] ∧ Row K H ps l x pl := by
  obtain ⟨t, xs, rfl, h1, h2⟩ := h.tup_of
  obtain ⟨z, r, bs, cs, rfl, hz, h3, rfl⟩ := h2.cons_of
  obtain ⟨y, r, ds, es, rfl, hy, h4, rfl⟩ := h3.cons_of
  obtain ⟨rfl, rfl⟩ := h4.nil_of
  obtain ⟨pl, ys, gs, rfl, h5, h6, rfl⟩ := hy.lst_of
  have e1 := dens_ints_of (DensA.dens _ _ _ h6)
  have e2 : bs = [] ∧ gs = [] := by
    constructor
    · exact DenA.none_of _ _ _ (Ma.nol_ln l) hz
    · exact DensA.none_of _ _ _ (nols_ints _) h6
  obtain ⟨rfl, rfl⟩ := e2
  refine ⟨pl, rfl, t, z, rfl, h1, DenA.den _ _ _ hz, ?_⟩
  rw [h5, e1]
structure RowsAt (K : PySem.W.Frag) (H : Hp) (ps : List Ma.Pt) (L : List Ma.Ln) (xs : List V) (as : List Addr) : Prop where
  lx : xs.length = L.length
  la : as.length = L.length
  at_ : ∀ (i : Nat) l, L[i]? = some l → ∃ x pl, xs[i]? = some x ∧ as[i]? = some pl ∧ Row K H ps l x pl
theorem rows_of {K : PySem.W.Frag} {H : Hp} {ps : List Ma.Pt} : ∀ {L : List Ma.Ln} {xs : List V} {as : List Addr}, DensA K H (L.map (Ma.rowD ps)) xs as → RowsAt K H ps L xs as
  | [], xs, as, h => by
    obtain ⟨rfl, rfl⟩ := h.nil_of
    exact ⟨rfl, rfl, fun i l e => by simp at e⟩
  | l :: L, xs, as, h => by
    rw [List.map_cons] at h
    obtain ⟨x, r, bs, cs, rfl, h1, h2, rfl⟩ := h.cons_of
    obtain ⟨pl, rfl, hr⟩ := row_of h1
    have ih := rows_of h2
    refine ⟨by simp [ih.lx], by simp [ih.la], fun i m e => ?_⟩
    cases i with
    | zero =>
      cases e
      exact ⟨x, pl, rfl, rfl, hr⟩
    | succ i =>
      obtain ⟨y, q, e1, e2, e3⟩ := ih.at_ i m e
      exact ⟨y, q, e1, e2, e3⟩
theorem RowsAt.same {K : PySem.W.Frag} {H H' : Hp} {ps : List Ma.Pt} {L : List Ma.Ln} {xs : List V} {as : List Addr} (s : Same H H') (h : RowsAt K H ps L xs as) : RowsAt K H' ps L xs as :=
  ⟨h.lx, h.la, fun i l e => by
    obtain ⟨x, pl, e1, e2, e3⟩ := h.at_ i l e
    exact ⟨x, pl, e1, e2, e3.same s⟩⟩
end Tw

namespace Ma
open PySem L2 L3
theorem places_mem {l : Ln} {ps : List Pt} {k : Int} (h : k ∈ places l ps) : ∃ (i : Nat) (p : Pt), k = i ∧ ps[i]? = some p ∧ On l p := by
  unfold places at h
  obtain ⟨i, hi, rfl⟩ := List.mem_map.mp h
  obtain ⟨h1, h2⟩ := List.mem_filter.mp hi
  have hl := List.mem_range.mp h1
  have e : ps[i]? = some ps[i] := List.getElem?_eq_getElem hl
  have h3 := of_decide_eq_true h2
  rw [List.getD_eq_getElem?_getD, e] at h3
  exact ⟨i, _, rfl, e, h3⟩
theorem mem_places {l : Ln} {ps : List Pt} {i : Nat} {p : Pt} (e : ps[i]? = some p) (h : On l p) : (i : Int) ∈ places l ps := by
  unfold places
  refine List.mem_map.mpr ⟨i, List.mem_filter.mpr ⟨List.mem_range.mpr (List.getElem?_eq_some_iff.mp e).1, decide_eq_true ?_⟩, rfl⟩
  rw [List.getD_eq_getElem?_getD, e]; exact h
theorem isL_told {ps : List Pt} {l : Ln} (h : IsL ps l) : Told l := by
  obtain ⟨p, hp, q, hq, ne, rfl⟩ := h
  exact lineOf_told ne
/-! ### how many lie on a line, how many lines there are -/
end Ma

namespace Ma
open PySem L2 L3
/-! ### the least gap -/
theorem lt_chain {a b c x y z : Int} (hx : 0 < x) (hy : 0 < y) (hz : 0 < z) (h1 : c * x < a * z) (h2 : a * y < b * x) : c * y < b * z := by
  have e1 : c * x * y < a * z * y := Int.mul_lt_mul_of_pos_right h1 hy
  have e2 : a * y * z < b * x * z := Int.mul_lt_mul_of_pos_right h2 hz
  have e3 : a * z * y = a * y * z := by rw [Int.mul_assoc, Int.mul_comm z y, ← Int.mul_assoc]
  have e4 : c * x * y = c * y * x := by rw [Int.mul_assoc, Int.mul_comm x y, ← Int.mul_assoc]
  have e5 : b * x * z = b * z * x := by rw [Int.mul_assoc, Int.mul_comm x z, ← Int.mul_assoc]
  have : c * y * x < b * z * x := by omega
  exact Int.lt_of_mul_lt_mul_right this (Int.le_of_lt hx)
theorem GLt.trans {l m k : Ln} {p q r : Pt} (hl : Told l) (hm : Told m) (hk : Told k) (h1 : GLt l p m q) (h2 : GLt m q k r) : GLt l p k r := by
  unfold GLt at *
  exact lt_chain (x := nn m) (y := nn k) (z := nn l) (a := off m q * off m q) (nn_pos hm.up) (nn_pos hk.up) (nn_pos hl.up) h1 h2
theorem gap_parts {l : Ln} (T : Told l) (p : Pt) : ∃ x y, gapOf l p = [x, y] ∧ 0 < y ∧ x * nn l = off l p * off l p * y ∧ y ≤ nn l ∧ Int.gcd x y = 1 ∧ (0 < x ↔ ¬ On l p) ∧ 0 ≤ x := by
  have n0 := nn_pos T.up
  obtain ⟨x, y, e, y0, h, hb, g⟩ := frac_parts (t := off l p * off l p) (b := nn l) (by omega)
  have xs : 0 ≤ off l p * off l p := sq_nn _
  have x0 : 0 ≤ x := by
    refine Classical.byContradiction fun z => ?_
    have h1 : x * nn l < 0 := Int.mul_neg_of_neg_of_pos (by omega) n0
    have h2 : 0 ≤ off l p * off l p * y := Int.mul_nonneg xs (by omega)
    omega
  refine ⟨x, y, e, y0, h, by omega, g, ?_, x0⟩
  rw [← gap_nought T.up]
  unfold gapOf
  rw [e]
  constructor
  · intro z w
    simp only [List.cons.injEq] at w
    omega
  · intro z
    refine Classical.byContradiction fun w => ?_
    have x00 : x = 0 := by omega
    subst x00
    have : y = 1 := by
      have g' : Int.gcd 0 y = y.natAbs := Int.gcd_zero_left y
      rw [g'] at g; omega
    exact z (by rw [this])
theorem mul4 (x v n m : Int) : x * v * (n * m) = (x * n) * (v * m) := by
  rw [Int.mul_assoc, Int.mul_assoc, ← Int.mul_assoc v, Int.mul_comm v n, Int.mul_assoc n v m]
theorem gap_lt {l m : Ln} (hl : Told l) (hm : Told m) {p q : Pt} {x y u v : Int} (y0 : 0 < y) (v0 : 0 < v) (h1 : x * nn l = off l p * off l p * y) (h2 : u * nn m = off m q * off m q * v) : x * v < u * y ↔ GLt l p m q := by
  have n1 := nn_pos hl.up
  have n2 := nn_pos hm.up
  have nm : 0 < nn l * nn m := Int.mul_pos n1 n2
  have yv : 0 < y * v := Int.mul_pos y0 v0
  have a1 : x * v * (nn l * nn m) = off l p * off l p * nn m * (y * v) := by
    rw [mul4, h1, Int.mul_comm v (nn m), ← mul4]
  have a2 : u * y * (nn l * nn m) = off m q * off m q * nn l * (y * v) := by
    rw [Int.mul_comm (nn l), mul4, h2, Int.mul_comm y (nn l), ← mul4, Int.mul_comm v y]
  unfold GLt
  constructor
  · intro h
    have := Int.mul_lt_mul_of_pos_right h nm
    rw [a1, a2] at this
    exact Int.lt_of_mul_lt_mul_right this (Int.le_of_lt yv)
  · intro h
    have := Int.mul_lt_mul_of_pos_right h yv
    rw [← a1, ← a2] at this
    exact Int.lt_of_mul_lt_mul_right this (Int.le_of_lt nm)
theorem dvd_co {x y v : Int} (g : Int.gcd x y = 1) (h : y ∣ x * v) : y ∣ v := by
  have h1 : y.natAbs ∣ x.natAbs * v.natAbs := by rw [← Int.natAbs_mul]; exact Int.natAbs_dvd_natAbs.mpr h
  have co : Nat.Coprime y.natAbs x.natAbs := by unfold Nat.Coprime; rw [Nat.gcd_comm]; exact g
  exact Int.natAbs_dvd_natAbs.mp (co.dvd_of_dvd_mul_left h1)
theorem low_unique {x y u v : Int} (y0 : 0 < y) (v0 : 0 < v) (g1 : Int.gcd x y = 1) (g2 : Int.gcd u v = 1) (h : x * v = u * y) : x = u ∧ y = v := by
  have d1 : y ∣ v := by
    have : y ∣ x * v := ⟨u, by rw [h, Int.mul_comm]⟩
    exact dvd_co g1 this
  have d2 : v ∣ y := by
    have : v ∣ u * y := ⟨x, by rw [← h, Int.mul_comm]⟩
    exact dvd_co g2 this
  have l1 := Int.le_of_dvd v0 d1
  have l2 := Int.le_of_dvd y0 d2
  have e : y = v := by omega
  subst e
  exact ⟨Int.eq_of_mul_eq_mul_right (by omega) h, rfl⟩
/-- the nearest: least gap of all points and lines they don't lie on -/
structure Near (ps : List Pt) (l : Ln) (p : Pt) : Prop where
  isl : IsL ps l
  mem : p ∈ ps
  no : ¬ On l p
  min : ∀ m q, IsL ps m → q ∈ ps → ¬ On m q → ¬ GLt m q l p
theorem Near.gap {ps : List Pt} {l m : Ln} {p q : Pt} (h1 : Near ps l p) (h2 : Near ps m q) : gapOf l p = gapOf m q := by
  obtain ⟨x, y, e1, y0, b1, _, g1, _⟩ := gap_parts h1.isl.told p
  obtain ⟨u, v, e2, v0, b2, _, g2, _⟩ := gap_parts h2.isl.told q
  have a := h1.min m q h2.isl h2.mem h2.no
  have b := h2.min l p h1.isl h1.mem h1.no
  rw [← gap_lt h2.isl.told h1.isl.told v0 y0 b2 b1] at a
  rw [← gap_lt h1.isl.told h2.isl.told y0 v0 b1 b2] at b
  obtain ⟨rfl, rfl⟩ := low_unique y0 v0 g1 g2 (show x * v = u * y by omega)
  rw [e1, e2]
theorem Near.ncol {ps : List Pt} {l : Ln} {p : Pt} (h : Near ps l p) : ¬ Col ps := by
  rintro ⟨m, T, hm⟩
  obtain ⟨a, ha, b, hb, ne, rfl⟩ := h.isl
  have := line_unique T ne (hm a ha) (hm b hb)
  exact h.no (this ▸ hm p h.mem)
def NearIs (ps : List Pt) (d : PyData) : Prop := (Col ps ∧ d = .none) ∨ ∃ (i : Nat) (p : Pt) (l : Ln), ps[i]? = some p ∧ Near ps l p ∧ d = .tuple [.int i, ln l, itup (gapOf l p)]
end Ma

namespace Ma
open PySem L2 L3
/-! ### pairs of places -/
theorem any_int (ms : List Int) (k : Int) : ((ms.map PyData.int).any fun e => PyData.eqv e (.int k)) = decide (k ∈ ms) := by
  induction ms with
  | nil => rfl
  | cons m ms ih =>
    rw [List.map_cons, List.any_cons, ih]
    by_cases h : m = k
    · subst h; simp [PyData.eqv]
    · have h' : ¬ k = m := fun z => h z.symm
      simp [PyData.eqv, h, h']
end Ma
namespace L3
open PySem PySem.Spec PyProof.Rows PySem.Calls L2
/-! ### a dict is written: other data stay -/
section
variable {K : PySem.W.Frag} {H : Hp} {a : Addr} {xs : List V}
end
end L3
namespace Tw
open PySem L2 L3
end Tw

namespace L3
open PySem PySem.Spec PyProof.Rows PySem.Calls L2
/-! ### sep.join(texts) -/
section
variable {X : Cx}
end
end L3

/-! ### the table of a set: a search meets an empty slot -/
namespace Tb
open PySem SetTable
/-- n steps of a search -/
def adv (t : SetTable) : Nat → Probe → Probe
  | 0, p => p
  | n + 1, p => adv t n (t.advance p)
theorem adv_add (t : SetTable) : ∀ (a b : Nat) (p : Probe), adv t (a + b) p = adv t b (adv t a p)
  | 0, b, p => by rw [Nat.zero_add]; rfl
  | a + 1, b, p => by rw [Nat.add_right_comm]; exact adv_add t a b (t.advance p)
theorem adv_succ (t : SetTable) (n : Nat) (p : Probe) : adv t (n + 1) p = t.advance (adv t n p) := adv_add t n 1 p
/-- the state at the head of a run -/
def hd (m i per : Nat) (d : Option Nat) : Probe := { j := i, more := runEnd m i - i, i := i, perturb := per, dummy := d }
theorem run_le (m i : Nat) : runEnd m i - i ≤ 9 := by unfold runEnd; split <;> omega
theorem adv_run (t : SetTable) : ∀ (n : Nat) (p : Probe), n ≤ p.more → adv t n p = { p with j := p.j + n, more := p.more - n }
  | 0, p, _ => rfl
  | n + 1, p, h => by
    show adv t n (t.advance p) = _
    have e : t.advance p = { p with j := p.j + 1, more := p.more - 1 } := by unfold advance; rw [if_pos (by omega)]
    rw [e, adv_run t n _ (by show n ≤ p.more - 1; omega)]
    show Probe.mk _ _ _ _ _ = Probe.mk _ _ _ _ _
    congr 1
    · show p.j + 1 + n = p.j + (n + 1); omega
    · show p.more - 1 - n = p.more - (n + 1); omega
def lpN (m i per : Nat) : Nat := (leap m i per).1
theorem adv_leap (t : SetTable) (p : Probe) : adv t (p.more + 1) p = hd t.mask (lpN t.mask p.i p.perturb) (p.perturb / 32) p.dummy := by
  rw [adv_succ, adv_run t _ p (Nat.le_refl _)]
  unfold advance
  rw [if_neg (by show ¬ (p.more - p.more > 0); omega)]
  rfl
/-- q leaps -/
def lps (m : Nat) : Nat → Nat × Nat → Nat × Nat
  | 0, x => x
  | q + 1, x => lps m q (lpN m x.1 x.2, x.2 / 32)
theorem lps_add (m : Nat) : ∀ (a b : Nat) (x : Nat × Nat), lps m (a + b) x = lps m b (lps m a x)
  | 0, b, x => by rw [Nat.zero_add]; rfl
  | a + 1, b, x => by rw [Nat.add_right_comm]; exact lps_add m a b _
theorem lps_per (m : Nat) : ∀ (q : Nat) (x : Nat × Nat), (lps m q x).2 = x.2 / 32 ^ q
  | 0, x => by simp [lps]
  | q + 1, x => by
    show (lps m q (lpN m x.1 x.2, x.2 / 32)).2 = _
    rw [lps_per m q, Nat.pow_succ, Nat.mul_comm, ← Nat.div_div_eq_div_mul]
theorem lps_lt (m : Nat) : ∀ (q : Nat) (x : Nat × Nat), (lps m (q + 1) x).1 ≤ m
  | 0, x => Nat.le_of_lt_succ (Nat.mod_lt _ (Nat.succ_pos _))
  | q + 1, x => lps_lt m q _
theorem adv_leaps (t : SetTable) (d : Option Nat) : ∀ (q : Nat) (i per : Nat), ∃ n, n ≤ 10 * q ∧ adv t n (hd t.mask i per d) = hd t.mask (lps t.mask q (i, per)).1 (lps t.mask q (i, per)).2 d
  | 0, i, per => ⟨0, Nat.le_refl _, rfl⟩
  | q + 1, i, per => by
    obtain ⟨n, hn, e⟩ := adv_leaps t d q (lpN t.mask i per) (per / 32)
    have hr := run_le t.mask i
    refine ⟨(runEnd t.mask i - i + 1) + n, by omega, ?_⟩
    rw [adv_add]
    have := adv_leap t (hd t.mask i per d)
    rw [show (hd t.mask i per d).more = runEnd t.mask i - i from rfl] at this
    rw [this]
    exact e
/-! the leaps go round -/
def orb (m : Nat) : Nat → Nat
  | 0 => 0
  | n + 1 => (orb m n * 5 + 1) % (m + 1)
def Full (m : Nat) : Prop := orb m (m + 1) = 0 ∧ ∀ J, J ≤ m → ∃ n, n ≤ m ∧ orb m n = J
theorem full7 : Full 7 := ⟨by decide +kernel, by
  have h : ∀ J, J < 8 → ∃ n, n < 8 ∧ orb 7 n = J := by decide +kernel
  exact fun J hJ => by obtain ⟨n, h1, h2⟩ := h J (by omega); exact ⟨n, by omega, h2⟩⟩
theorem full31 : Full 31 := ⟨by decide +kernel, by
  have h : ∀ J, J < 32 → ∃ n, n < 32 ∧ orb 31 n = J := by decide +kernel
  exact fun J hJ => by obtain ⟨n, h1, h2⟩ := h J (by omega); exact ⟨n, by omega, h2⟩⟩
def orbs (m : Nat) : Nat → Nat → List Nat
  | 0, _ => []
  | n + 1, x => x :: orbs m n ((x * 5 + 1) % (m + 1))
theorem orbs_mem (m J : Nat) : ∀ (n a : Nat), J ∈ orbs m n (orb m a) → ∃ k, k < n ∧ orb m (a + k) = J
  | 0, a, h => nomatch h
  | n + 1, a, h => by
    rcases List.mem_cons.mp h with rfl | h
    · exact ⟨0, by omega, rfl⟩
    · obtain ⟨k, h1, h2⟩ := orbs_mem m J n (a + 1) h
      exact ⟨k + 1, by omega, by rw [← h2]; congr 1; omega⟩
theorem full127 : Full 127 := ⟨by decide +kernel, by
  have h : (List.range 128).all (fun J => (orbs 127 128 0).contains J) = true := by decide +kernel
  intro J hJ
  have h2 := List.all_eq_true.mp h J (List.mem_range.mpr (by omega))
  obtain ⟨n, h3, h4⟩ := orbs_mem 127 J 128 0 (by show J ∈ orbs 127 128 0; simpa using h2)
  exact ⟨n, by omega, by simpa using h4⟩⟩
theorem lps_zero (m : Nat) : ∀ (n a : Nat), (lps m n (orb m a, 0)) = (orb m (a + n), 0)
  | 0, a => rfl
  | n + 1, a => by
    show lps m n (lpN m (orb m a) 0, 0 / 32) = _
    have e : lpN m (orb m a) 0 = orb m (a + 1) := by
      show (orb m a * 5 + 1 + 0 / 32) % (m + 1) = (orb m a * 5 + 1) % (m + 1)
      simp
    rw [e, Nat.zero_div, lps_zero m n (a + 1)]
    congr 2; omega
theorem orb_round {m : Nat} (F : Full m) : ∀ b, orb m (m + 1 + b) = orb m b
  | 0 => F.1
  | b + 1 => by
    show (orb m (m + 1 + b) * 5 + 1) % (m + 1) = _
    rw [orb_round F b]; rfl
/-- within mask + 14 leaps each slot is a run's head -/
theorem reach {m : Nat} (F : Full m) {i per : Nat} (hp : per < 2 ^ 64) {J : Nat} (hJ : J ≤ m) : ∃ q, q ≤ m + 13 ∧ (lps m q (i, per)).1 = J := by
  have e1 : (lps m 13 (i, per)).2 = 0 := by
    rw [lps_per]
    exact Nat.div_eq_of_lt (Nat.lt_trans hp (by decide))
  have e2 : (lps m 13 (i, per)).1 ≤ m := lps_lt m 12 _
  obtain ⟨a, ha, ea⟩ := F.2 _ e2
  obtain ⟨b, hb, eb⟩ := F.2 _ hJ
  have e3 : lps m 13 (i, per) = (orb m a, 0) := by rw [ea, ← e1]
  by_cases c : a ≤ b
  · refine ⟨13 + (b - a), by omega, ?_⟩
    rw [lps_add, e3, lps_zero]
    show orb m (a + (b - a)) = J
    rw [show a + (b - a) = b by omega, eb]
  · refine ⟨13 + (m + 1 + b - a), by omega, ?_⟩
    rw [lps_add, e3, lps_zero]
    show orb m (a + (m + 1 + b - a)) = J
    rw [show a + (m + 1 + b - a) = m + 1 + b by omega, orb_round F, eb]
/-- so a search comes to each slot -/
theorem adv_reach {t : SetTable} (F : Full t.mask) {p : Probe} (hp : p.perturb < 2 ^ 64) (hm : p.more ≤ 9) {J : Nat} (hJ : J ≤ t.mask) : ∃ n, n < 10 * turns t.mask ∧ (adv t n p).j = J := by
  obtain ⟨q, hq, e⟩ := reach F (i := lpN t.mask p.i p.perturb) (per := p.perturb / 32) (Nat.lt_of_le_of_lt (Nat.div_le_self _ _) hp) hJ
  obtain ⟨n, hn, e2⟩ := adv_leaps t p.dummy q (lpN t.mask p.i p.perturb) (p.perturb / 32)
  refine ⟨(p.more + 1) + n, by unfold turns; omega, ?_⟩
  rw [adv_add, adv_leap, e2]
  exact e
structure PrOk (p : Probe) : Prop where
  per : p.perturb < 2 ^ 64
  more : p.more ≤ 9
  du : p.dummy = none
theorem PrOk.adv1 {t : SetTable} {p : Probe} (h : PrOk p) : PrOk (t.advance p) := by
  unfold advance
  split
  · exact ⟨h.per, by have := h.more; show p.more - 1 ≤ 9; omega, h.du⟩
  · exact ⟨Nat.lt_of_le_of_lt (Nat.div_le_self _ _) h.per, run_le _ _, h.du⟩
theorem PrOk.adv {t : SetTable} : ∀ (n : Nat) {p : Probe}, PrOk p → PrOk (adv t n p)
  | 0, p, h => h
  | n + 1, p, h => PrOk.adv n h.adv1
theorem bits_lt (h : Int) : bits h < 2 ^ 64 := by
  unfold bits
  have := Int.emod_lt_of_pos h (show (0 : Int) < 2 ^ 64 by decide)
  have := Int.emod_nonneg h (show (2 ^ 64 : Int) ≠ 0 by decide)
  omega
theorem start_ok (t : SetTable) (h : Int) : PrOk (t.probeStart h) := ⟨bits_lt h, run_le _ _, rfl⟩
theorem start_hd (t : SetTable) (h : Int) : t.probeStart h = hd t.mask (bits h % (t.mask + 1)) (bits h) none := rfl
/-! which slots are taken -/
theorem has_nil (j : Nat) : has #[] j = false := by simp [has]
theorem slot_live {t : SetTable} {j i : Nat} (h : t.slot j = .live i) : t.place[i]? = some j := by
  unfold slot at h
  dsimp only at h
  split at h
  · rename_i c
    injection h with h
    subst h
    simpa using c
  · split at h <;> cases h
theorem slot_cases {t : SetTable} (hd : t.dummies = #[]) (j : Nat) : t.slot j = .empty ∨ ∃ i, t.slot j = .live i := by
  unfold slot
  dsimp only
  split
  · exact .inr ⟨_, rfl⟩
  · rw [hd, has_nil]; exact .inl rfl
theorem nodup_le : ∀ {l m : List Nat}, l.Nodup → (∀ x ∈ l, x ∈ m) → l.length ≤ m.length
  | [], m, _, _ => Nat.zero_le _
  | x :: l, m, nd, h => by
    rw [List.nodup_cons] at nd
    have hx := h x List.mem_cons_self
    have h2 : ∀ y ∈ l, y ∈ m.erase x := fun y hy => by
      have ne : y ≠ x := fun e => nd.1 (e ▸ hy)
      exact (List.mem_erase_of_ne ne).mpr (h y (List.mem_cons_of_mem _ hy))
    have := nodup_le nd.2 h2
    rw [List.length_erase_of_mem hx] at this
    have : 0 < m.length := List.length_pos_of_mem hx
    show l.length + 1 ≤ m.length
    omega
theorem free_there {t : SetTable} (hd : t.dummies = #[]) (hf : t.place.size ≤ t.mask) : ∃ J, J ≤ t.mask ∧ t.slot J = .empty := by
  refine Classical.byContradiction fun c => ?_
  have h : ∀ J ∈ List.range (t.mask + 1), J ∈ t.place.toList := fun J hJ => by
    have hJ' := List.mem_range.mp hJ
    rcases slot_cases hd J with e | ⟨i, e⟩
    · exact (c ⟨J, by omega, e⟩).elim
    · have := slot_live e
      rw [← Array.getElem?_toList] at this
      exact List.mem_of_getElem? this
  have := nodup_le List.nodup_range h
  rw [List.length_range, Array.length_toList] at this
  omega
theorem empty_ahead {t : SetTable} (F : Full t.mask) (hd : t.dummies = #[]) (hf : t.place.size ≤ t.mask) {p : Probe} (h : PrOk p) : ∃ n, n < 10 * turns t.mask ∧ t.slot (adv t n p).j = .empty := by
  obtain ⟨J, h1, h2⟩ := free_there hd hf
  obtain ⟨n, h3, h4⟩ := adv_reach F h.per h.more h1
  exact ⟨n, h3, by rw [h4]; exact h2⟩
/-- one look along the slots -/
theorem go_spec {t : SetTable} (hd : t.dummies = #[]) (ha : Nat → Int) (h : Int) : ∀ (fuel : Nat) (p : Probe) (n : Nat), n < fuel → t.slot (adv t n p).j = .empty →
    ∃ m, m ≤ n ∧ (∀ l, l < m → ∃ i, t.slot (adv t l p).j = .live i ∧ ha i ≠ h) ∧
      ((t.slot (adv t m p).j = .empty ∧ SetTable.probe.go t ha h fuel p = some (.empty (adv t m p).j p.dummy)) ∨
       (∃ i, m < n ∧ t.slot (adv t m p).j = .live i ∧ ha i = h ∧ SetTable.probe.go t ha h fuel p = some (.candidate (adv t m p).j i (adv t (m + 1) p))))
  | 0, p, n, hn, _ => absurd hn (Nat.not_lt_zero _)
  | fuel + 1, p, n, hn, he => by
    rcases slot_cases hd p.j with e | ⟨i, e⟩
    · refine ⟨0, Nat.zero_le _, fun l hl => absurd hl (Nat.not_lt_zero _), .inl ⟨e, ?_⟩⟩
      unfold probe.go; rw [e]; rfl
    · have hn0 : n ≠ 0 := fun z => by subst z; rw [show adv t 0 p = p from rfl, e] at he; cases he
      obtain ⟨n', rfl⟩ : ∃ n', n = n' + 1 := ⟨n - 1, by omega⟩
      by_cases c : ha i = h
      · refine ⟨0, Nat.zero_le _, fun l hl => absurd hl (Nat.not_lt_zero _), .inr ⟨i, Nat.succ_pos _, e, c, ?_⟩⟩
        unfold probe.go; rw [e]
        show (if (ha i == h) = true then _ else _) = _
        rw [if_pos (by simpa using c)]; rfl
      · obtain ⟨m, h1, h2, h3⟩ := go_spec hd ha h fuel (t.advance p) n' (by omega) he
        have eg : SetTable.probe.go t ha h (fuel + 1) p = SetTable.probe.go t ha h fuel (t.advance p) := by
          rw [probe.go, e]
          show (if (ha i == h) = true then _ else _) = _
          rw [if_neg (by simpa using c)]
        have ed : (t.advance p).dummy = p.dummy := by unfold advance; split <;> rfl
        refine ⟨m + 1, by omega, fun l hl => ?_, ?_⟩
        · cases l with
          | zero => exact ⟨i, e, c⟩
          | succ l => exact h2 l (by omega)
        · rw [eg, ← ed]
          rcases h3 with ⟨a, b⟩ | ⟨i', a, b, c', d⟩
          · exact .inl ⟨a, b⟩
          · exact .inr ⟨i', by omega, b, c', d⟩
end Tb

namespace Tb
open PySem SetTable
/-! ### the places rise: what `below` finds -/
abbrev Rise (l : List Nat) : Prop := l.Pairwise (· < ·)
theorem below_go {xs : Array Nat} {j : Nat} (hs : Rise xs.toList) : ∀ (fuel lo hi : Nat), hi - lo ≤ fuel → lo ≤ hi → hi ≤ xs.size → (∀ i v, i < lo → xs[i]? = some v → v < j) → (∀ i v, hi ≤ i → xs[i]? = some v → j ≤ v) →
    ∀ r, below.go xs j fuel lo hi = r → r ≤ xs.size ∧ (∀ i v, i < r → xs[i]? = some v → v < j) ∧ ∀ i v, r ≤ i → xs[i]? = some v → j ≤ v
  | 0, lo, hi, hf, hl, hh, h1, h2, r, e => by
    have : lo = hi := by omega
    subst this
    unfold below.go at e; subst e
    exact ⟨hh, h1, h2⟩
  | fuel + 1, lo, hi, hf, hl, hh, h1, h2, r, e => by
    unfold below.go at e
    by_cases c : lo < hi
    · rw [if_pos c] at e
      dsimp only at e
      have hm : (lo + hi) / 2 < xs.size := by omega
      have em : xs[(lo + hi) / 2]? = some xs[(lo + hi) / 2] := Array.getElem?_eq_getElem hm
      have eg : xs.getD ((lo + hi) / 2) j = xs[(lo + hi) / 2] := by simp [Array.getD, hm]
      rw [eg] at e
      have mono : ∀ a b u v, a ≤ b → xs[a]? = some u → xs[b]? = some v → u ≤ v := fun a b u v hab ea eb => by
        rw [← Array.getElem?_toList] at ea eb
        obtain ⟨la, ea⟩ := List.getElem?_eq_some_iff.mp ea
        obtain ⟨lb, eb⟩ := List.getElem?_eq_some_iff.mp eb
        rcases Nat.lt_or_eq_of_le hab with z | rfl
        · have := List.pairwise_iff_getElem.mp hs a b la lb z
          omega
        · omega
      by_cases d : xs[(lo + hi) / 2] < j
      · rw [if_pos d] at e
        refine below_go hs fuel _ hi (by omega) (by omega) hh (fun i v hi' ev => ?_) h2 r e
        have := mono i ((lo + hi) / 2) v _ (by omega) ev em
        omega
      · rw [if_neg d] at e
        refine below_go hs fuel lo _ (by omega) (by omega) (by omega) h1 (fun i v hi' ev => ?_) r e
        have := mono ((lo + hi) / 2) i _ v hi' em ev
        omega
    · rw [if_neg c] at e
      subst e
      have : lo = hi := by omega
      subst this
      exact ⟨hh, h1, h2⟩
theorem below_spec {xs : Array Nat} (hs : Rise xs.toList) (j : Nat) : below xs j ≤ xs.size ∧ (∀ i v, i < below xs j → xs[i]? = some v → v < j) ∧ ∀ i v, below xs j ≤ i → xs[i]? = some v → j ≤ v :=
  below_go hs xs.size 0 xs.size (by omega) (by omega) (Nat.le_refl _) (fun i v h => absurd h (Nat.not_lt_zero _)) (fun i v h e => by
    have := (Array.getElem?_eq_some_iff.mp e).1; omega) _ rfl
theorem slot_taken {t : SetTable} (hs : Rise t.place.toList) {j : Nat} (h : j ∈ t.place.toList) : ∃ i, t.slot j = .live i := by
  obtain ⟨i, hi, e⟩ := List.getElem_of_mem h
  have ei : t.place[i]? = some j := by rw [← Array.getElem?_toList, List.getElem?_eq_getElem hi, e]
  obtain ⟨b0, b1, b2⟩ := below_spec hs j
  have hb : below t.place j = i := by
    rcases Nat.lt_trichotomy (below t.place j) i with z | z | z
    · -- the one at below is ≥ j but less than that at i
      have hlt : below t.place j < t.place.toList.length := by omega
      have e3 : t.place[below t.place j]? = some t.place.toList[below t.place j] := by rw [← Array.getElem?_toList]; exact List.getElem?_eq_getElem hlt
      have h4 := b2 _ _ (Nat.le_refl _) e3
      have h5 := List.pairwise_iff_getElem.mp hs _ i hlt hi z
      omega
    · exact z
    · have := b1 i j z ei; omega
  refine ⟨i, ?_⟩
  unfold slot
  dsimp only
  rw [hb, ei]
  simp
theorem slot_empty {t : SetTable} (hs : Rise t.place.toList) (hd : t.dummies = #[]) {j : Nat} : t.slot j = .empty ↔ j ∉ t.place.toList := by
  constructor
  · intro e m
    obtain ⟨i, e2⟩ := slot_taken hs m
    rw [e] at e2; cases e2
  · intro h
    rcases slot_cases hd j with e | ⟨i, e⟩
    · exact e
    · have := slot_live e
      rw [← Array.getElem?_toList] at this
      exact (h (List.mem_of_getElem? this)).elim
/-! ### a table that is in order -/
abbrev En := Int × Value
/-- the slots and what stands there -/
def prs (t : SetTable) (es : Array En) : List (Nat × En) := t.place.toList.zip es.toList
/-- the way of a search to slot j: taken slots alone -/
def Way (m : Nat) (tk : Nat → Prop) (h : Int) (j : Nat) : Prop :=
  ∃ n, (adv { mask := m, place := #[], dummies := #[], finger := 0, led := true, moves := 0, plain := true } n (hd m (bits h % (m + 1)) (bits h) none)).j = j ∧
    ∀ l, l < n → tk (adv { mask := m, place := #[], dummies := #[], finger := 0, led := true, moves := 0, plain := true } l (hd m (bits h % (m + 1)) (bits h) none)).j
theorem adv_mask {t u : SetTable} (h : t.mask = u.mask) : ∀ (n : Nat) (p : Probe), adv t n p = adv u n p
  | 0, p => rfl
  | n + 1, p => by
    show adv t n (t.advance p) = adv u n (u.advance p)
    have e : t.advance p = u.advance p := by unfold advance; rw [h]
    rw [e]; exact adv_mask h n _
theorem Way.imp {m : Nat} {tk tk' : Nat → Prop} {h : Int} {j : Nat} (w : Way m tk h j) (f : ∀ j, tk j → tk' j) : Way m tk' h j := by
  obtain ⟨n, a, b⟩ := w
  exact ⟨n, a, fun l hl => f _ (b l hl)⟩
structure Ok (t : SetTable) (es : Array En) : Prop where
  sz : t.place.size = es.size
  du : t.dummies = #[]
  mk7 : (t.mask = 7 ∧ es.size ≤ 4) ∨ (t.mask = 31 ∧ es.size ≤ 18) ∨ (t.mask = 127 ∧ es.size ≤ 76)
  ri : Rise t.place.toList
  way : ∀ j e, (j, e) ∈ prs t es → Way t.mask (· ∈ t.place.toList) e.1 j
theorem Ok.full {t : SetTable} {es : Array En} (o : Ok t es) : Full t.mask := by
  rcases o.mk7 with ⟨h, _⟩ | ⟨h, _⟩ | ⟨h, _⟩ <;> rw [h]
  · exact full7
  · exact full31
  · exact full127
theorem Ok.le {t : SetTable} {es : Array En} (o : Ok t es) : t.place.size ≤ t.mask := by
  have := o.sz
  rcases o.mk7 with ⟨h, _⟩ | ⟨h, _⟩ | ⟨h, _⟩ <;> omega
theorem Ok.fits {t : SetTable} {es : Array En} (o : Ok t es) : t.fits es.size = true := by
  have h1 := o.sz
  have h2 := o.le
  have e : t.fill = t.place.size := by show t.place.size + t.dummies.size = _; rw [o.du]; rfl
  unfold SetTable.fits
  rw [e, h1]
  simp
  omega
theorem Ok.way0 {t : SetTable} {es : Array En} {h : Int} : ∀ n, adv { mask := t.mask, place := #[], dummies := #[], finger := 0, led := true, moves := 0, plain := true } n (hd t.mask (bits h % (t.mask + 1)) (bits h) none) = adv t n (t.probeStart h) := fun n => by rw [start_hd]; apply adv_mask; rfl
theorem fresh_ok (led : Bool) : Ok (.fresh 0 0 led) #[] where
  sz := rfl
  du := rfl
  mk7 := .inl ⟨rfl, Nat.zero_le _⟩
  ri := List.Pairwise.nil
  way := fun j e h => nomatch h
/-- what a whole search tells: an empty slot at the end of a way, all of it taken by others -/
theorem Ok.absent {t : SetTable} {es : Array En} (o : Ok t es) {h : Int} {m : Nat} (he : t.slot (adv t m (t.probeStart h)).j = .empty)
    {bad : En → Prop} (hb : ∀ l i e, l < m → t.slot (adv t l (t.probeStart h)).j = .live i → es[i]? = some e → ¬ bad e) : ∀ e ∈ es.toList, e.1 = h → ¬ bad e := by
  intro e me eh
  obtain ⟨i, hi, ei⟩ := List.getElem_of_mem me
  have hi2 : i < t.place.toList.length := by have := o.sz; rw [Array.length_toList] at hi ⊢; omega
  have mz : (t.place.toList[i], e) ∈ prs t es := by
    unfold prs
    refine List.mem_of_getElem? (i := i) ?_
    rw [List.getElem?_zip_eq_some]
    exact ⟨List.getElem?_eq_getElem hi2, by rw [List.getElem?_eq_getElem hi, ei]⟩
  obtain ⟨n, e1, e2⟩ := o.way _ _ mz
  rw [Ok.way0 (es := es), eh] at e1
  have e2' : ∀ l, l < n → (adv t l (t.probeStart h)).j ∈ t.place.toList := fun l hl => by
    have := e2 l hl
    rw [Ok.way0 (es := es), eh] at this; exact this
  have hn := slot_empty (j := (adv t m (t.probeStart h)).j) o.ri o.du |>.mp he
  rcases Nat.lt_trichotomy m n with z | z | z
  · exact (hn (e2' m z)).elim
  · subst z; rw [e1] at hn; exact (hn (List.getElem_mem hi2)).elim
  · -- its own slot was met
    obtain ⟨i', e3⟩ := slot_taken o.ri (List.getElem_mem hi2)
    have e4 := slot_live e3
    have : i' = i := by
      rw [← Array.getElem?_toList] at e4
      obtain ⟨hi', e5⟩ := List.getElem?_eq_some_iff.mp e4
      rcases Nat.lt_trichotomy i' i with y | y | y
      · have := List.pairwise_iff_getElem.mp o.ri i' i hi' hi2 y; omega
      · exact y
      · have := List.pairwise_iff_getElem.mp o.ri i i' hi2 hi' y; omega
    subst this
    refine hb n i' e z (by rw [e1]; exact e3) ?_
    rw [← Array.getElem?_toList, List.getElem?_eq_getElem hi, ei]
/-! ### one more -/
theorem insert_rise {l : List Nat} {p j : Nat} (hs : Rise l) (h1 : ∀ i v, i < p → l[i]? = some v → v < j) (h2 : ∀ i v, p ≤ i → l[i]? = some v → j < v) : Rise (l.take p ++ j :: l.drop p) := by
  have a1 : ∀ x ∈ l.take p, x < j := fun x hx => by
    obtain ⟨i, hi, e⟩ := List.getElem_of_mem hx
    have hi' : i < p := by rw [List.length_take] at hi; omega
    rw [List.getElem_take] at e
    have hl : i < l.length := by rw [List.length_take] at hi; omega
    exact h1 i x hi' (by rw [List.getElem?_eq_getElem hl, e])
  have a2 : ∀ x ∈ l.drop p, j < x := fun x hx => by
    obtain ⟨i, hi, e⟩ := List.getElem_of_mem hx
    rw [List.getElem_drop] at e
    have hl : p + i < l.length := by rw [List.length_drop] at hi; omega
    exact h2 (p + i) x (by omega) (by rw [List.getElem?_eq_getElem hl, e])
  refine List.pairwise_append.mpr ⟨hs.sublist (List.take_sublist p l), List.pairwise_cons.mpr ⟨a2, hs.sublist (List.drop_sublist p l)⟩, fun x hx y hy => ?_⟩
  rcases List.mem_cons.mp hy with rfl | hy
  · exact a1 x hx
  · exact Nat.lt_trans (a1 x hx) (a2 y hy)
theorem put_place (t : SetTable) (j : Nat) : (t.put j).1.place.toList = t.place.toList.take (below t.place j) ++ j :: t.place.toList.drop (below t.place j) := SetTable.toList_insertAt _ _ _
theorem mem_insert {α : Type} {l : List α} {p : Nat} {x y : α} : y ∈ l.take p ++ x :: l.drop p ↔ y ∈ l ∨ y = x := by
  have h : y ∈ l ↔ y ∈ l.take p ++ l.drop p := by rw [List.take_append_drop]
  rw [h, List.mem_append, List.mem_append, List.mem_cons]
  constructor
  · rintro (a | a | a)
    · exact .inl (.inl a)
    · exact .inr a
    · exact .inl (.inr a)
  · rintro ((a | a) | a)
    · exact .inl a
    · exact .inr (.inr a)
    · exact .inr (.inl a)
theorem zip_insert {α β : Type} (l : List α) (m : List β) (p : Nat) (x : α) (y : β) (h : l.length = m.length) : (l.take p ++ x :: l.drop p).zip (m.take p ++ y :: m.drop p) = (l.zip m).take p ++ (x, y) :: (l.zip m).drop p := by
  rw [List.zip_append (by rw [List.length_take, List.length_take, h]), List.zip_cons_cons]; unfold List.zip; rw [List.take_zipWith, List.drop_zipWith]
/-- the table with one more, before it is looked whether it is too full -/
structure Ok1 (t : SetTable) (es : Array En) : Prop where
  sz : t.place.size = es.size
  du : t.dummies = #[]
  mk7 : (t.mask = 7 ∧ es.size ≤ 5) ∨ (t.mask = 31 ∧ es.size ≤ 19) ∨ (t.mask = 127 ∧ es.size ≤ 77)
  ri : Rise t.place.toList
  way : ∀ j e, (j, e) ∈ prs t es → Way t.mask (· ∈ t.place.toList) e.1 j
theorem Ok.put {t : SetTable} {es : Array En} (o : Ok t es) {h : Int} {x : Value} {m : Nat} (he : t.slot (adv t m (t.probeStart h)).j = .empty) (ht : ∀ l, l < m → t.slot (adv t l (t.probeStart h)).j ≠ .empty) :
    Ok1 (t.put (adv t m (t.probeStart h)).j).1 (insertAt es (t.put (adv t m (t.probeStart h)).j).2 (h, x)) ∧ (t.put (adv t m (t.probeStart h)).j).1.mask = t.mask ∧ ((insertAt es (t.put (adv t m (t.probeStart h)).j).2 (h, x)).toList.Perm (es.push (h, x)).toList) := by
  generalize hj : (adv t m (t.probeStart h)).j = j at he
  have hn : j ∉ t.place.toList := (slot_empty o.ri o.du).mp he
  obtain ⟨b0, b1, b2⟩ := below_spec o.ri j
  have ep : (t.put j).2 = below t.place j := rfl
  have em : (t.put j).1.mask = t.mask := rfl
  have pm := SetTable.insertAt_perm es (t.put j).2 (h, x)
  have es1 : (insertAt es (t.put j).2 (h, x)).size = es.size + 1 := by
    rw [← Array.length_toList, pm.length_eq, Array.toList_push, List.length_append, Array.length_toList]; rfl
  have ps1 : (t.put j).1.place.size = t.place.size + 1 := by
    rw [← Array.length_toList, put_place, List.length_append, List.length_cons, List.length_take, List.length_drop, Array.length_toList]
    omega
  have hz : prs (t.put j).1 (insertAt es (t.put j).2 (h, x)) = (prs t es).take (below t.place j) ++ (j, (h, x)) :: (prs t es).drop (below t.place j) := by
    unfold prs
    rw [put_place, SetTable.toList_insertAt, ep]
    exact zip_insert _ _ _ _ _ (by rw [Array.length_toList, Array.length_toList, o.sz])
  refine ⟨⟨by rw [es1, ps1, o.sz], ?_, ?_, ?_, fun j' e' hm => ?_⟩, em, pm⟩
  · show (if has t.dummies j = true then _ else _) = _
    rw [o.du, has_nil]; rfl
  · rw [em, es1]
    rcases o.mk7 with ⟨a, b⟩ | ⟨a, b⟩ | ⟨a, b⟩
    · exact .inl ⟨a, by omega⟩
    · exact .inr (.inl ⟨a, by omega⟩)
    · exact .inr (.inr ⟨a, by omega⟩)
  · rw [put_place]
    refine insert_rise o.ri (fun i v h1 e => b1 i v h1 (by rw [← Array.getElem?_toList]; exact e)) (fun i v h1 e => ?_)
    have := b2 i v h1 (by rw [← Array.getElem?_toList]; exact e)
    have ne : v ≠ j := fun z => hn (z ▸ List.mem_of_getElem? e)
    omega
  · rw [hz] at hm
    have tk : ∀ k, k ∈ t.place.toList → k ∈ (t.put j).1.place.toList := fun k hk => by rw [put_place]; exact mem_insert.mpr (.inl hk)
    rcases mem_insert.mp hm with q | q
    · exact (o.way j' e' q).imp tk
    · injection q with q1 q2
      subst q1; subst q2
      refine ⟨m, ?_, fun l hl => ?_⟩
      · rw [em, Ok.way0 (es := es)]; exact hj
      · rw [em, Ok.way0 (es := es)]
        refine tk _ (Classical.byContradiction fun c => ?_)
        exact ht l hl ((slot_empty o.ri o.du).mpr c)
theorem Ok1.ok {t : SetTable} {es : Array En} (o : Ok1 t es) (h : t.tooFull = false) : Ok t es := by
  refine ⟨o.sz, o.du, ?_, o.ri, o.way⟩
  have e : t.fill = t.place.size := by show t.place.size + t.dummies.size = _; rw [o.du]; rfl
  have h1 := o.sz
  unfold tooFull at h
  rw [e] at h
  have h2 := of_decide_eq_false h
  rcases o.mk7 with ⟨a, b⟩ | ⟨a, b⟩ | ⟨a, b⟩
  · exact .inl ⟨a, by omega⟩
  · exact .inr (.inl ⟨a, by omega⟩)
  · exact .inr (.inr ⟨a, by omega⟩)
theorem Ok1.fits {t : SetTable} {es : Array En} (o : Ok1 t es) : t.fits es.size = true := by
  have h1 := o.sz
  have e : t.fill = t.place.size := by show t.place.size + t.dummies.size = _; rw [o.du]; rfl
  unfold SetTable.fits
  rw [e, h1]
  rcases o.mk7 with ⟨a, b⟩ | ⟨a, b⟩ | ⟨a, b⟩ <;> (simp; omega)
end Tb

namespace Tb
open PySem SetTable
/-! ### laid anew -/
abbrev tm (m : Nat) : SetTable := { mask := m, place := #[], dummies := #[], finger := 0, led := true, moves := 0, plain := true }
theorem getD_in {ow : Array (Option Nat)} {j : Nat} (h : j < ow.size) (d d' : Option Nat) : ow.getD j d = ow.getD j d' := by simp [Array.getD, h]
theorem free_spec {m J : Nat} {ow : Array (Option Nat)} (hs : ow.size = m + 1) (hJ : J ≤ m) (eJ : ow.getD J none = none) : ∀ (fuel q i per : Nat), i ≤ m → q < fuel → (lps m q (i, per)).1 = J →
    ∃ j, layClean.free m ow fuel i per = some j ∧ j ≤ m ∧ ow.getD j none = none ∧ ∃ n, (adv (tm m) n (hd m i per none)).j = j ∧ ∀ l, l < n → (ow.getD (adv (tm m) l (hd m i per none)).j none).isSome = true
  | 0, q, i, per, _, h, _ => absurd h (Nat.not_lt_zero _)
  | fuel + 1, q, i, per, hi, hq, eq => by
    have hrun : i ≤ runEnd m i ∧ runEnd m i ≤ m := by unfold runEnd; split <;> omega
    unfold layClean.free
    cases hf : (List.range (runEnd m i + 1 - i)).find? fun k => (ow.getD (i + k) (some 0)).isNone with
    | some k =>
      obtain ⟨h1, h2, h3⟩ := List.find?_range_eq_some.mp hf
      have hk := List.mem_range.mp h2
      have hb : i + k ≤ m := by omega
      have path : ∀ l, l ≤ k → (adv (tm m) l (hd m i per none)).j = i + l := fun l hl => by
        rw [adv_run (tm m) l _ (by show l ≤ runEnd m i - i; omega)]; rfl
      refine ⟨i + k, rfl, hb, ?_, k, path k (Nat.le_refl _), fun l hl => ?_⟩
      · rw [getD_in (by omega) none (some 0)]
        exact Option.isNone_iff_eq_none.mp h1
      · rw [path l (Nat.le_of_lt hl), getD_in (by omega) none (some 0)]
        have := h3 l hl
        cases z : ow.getD (i + l) (some 0) with
        | none => rw [z] at this; simp at this
        | some _ => rfl
    | none =>
      have h3 := List.find?_range_eq_none.mp hf
      have full : ∀ l, l ≤ runEnd m i - i → (ow.getD (i + l) none).isSome = true := fun l hl => by
        rw [getD_in (by omega) none (some 0)]
        have := h3 l (by omega)
        cases z : ow.getD (i + l) (some 0) with
        | none => rw [z] at this; simp at this
        | some _ => rfl
      cases q with
      | zero =>
        have := full 0 (Nat.zero_le _)
        have e0 : i = J := eq
        rw [Nat.add_zero, e0, eJ] at this; cases this
      | succ q =>
        obtain ⟨j, e1, e2, e3, n, e4, e5⟩ := free_spec hs hJ eJ fuel q (lpN m i per) (per / 32) (Nat.le_of_lt_succ (Nat.mod_lt _ (Nat.succ_pos _))) (by omega) eq
        have al : adv (tm m) (runEnd m i - i + 1) (hd m i per none) = hd m (lpN m i per) (per / 32) none := adv_leap (tm m) (hd m i per none)
        refine ⟨j, e1, e2, e3, (runEnd m i - i + 1) + n, ?_, fun l hl => ?_⟩
        · rw [adv_add, al]; exact e4
        · by_cases c : l ≤ runEnd m i - i
          · rw [adv_run (tm m) l _ (by show l ≤ runEnd m i - i; omega)]
            exact full l c
          · have : l = (runEnd m i - i + 1) + (l - (runEnd m i - i + 1)) := by omega
            rw [this, adv_add, al]
            exact e5 _ (by omega)
def lv (m : Nat) (ow : Array (Option Nat)) : List (Nat × Nat) := (List.range (m + 1)).filterMap fun j => (ow.getD j none).map (j, ·)
theorem fm_succ {β : Type} {f f' : Nat → Option β} {j0 : Nat} {b : β} (h0 : f j0 = none) (h1 : f' j0 = some b) (h2 : ∀ j, j ≠ j0 → f' j = f j) : ∀ (l : List Nat), l.Nodup →
    (j0 ∉ l → (l.filterMap f').length = (l.filterMap f).length) ∧ (j0 ∈ l → (l.filterMap f').length = (l.filterMap f).length + 1)
  | [], _ => ⟨fun _ => rfl, fun h => nomatch h⟩
  | x :: l, nd => by
    rw [List.nodup_cons] at nd
    obtain ⟨i1, i2⟩ := fm_succ h0 h1 h2 l nd.2
    constructor
    · intro h
      have hx : x ≠ j0 := fun e => h (e ▸ List.mem_cons_self)
      have := i1 fun e => h (List.mem_cons_of_mem _ e)
      rw [List.filterMap_cons, List.filterMap_cons, h2 x hx]
      cases f x with
      | none => exact this
      | some _ => rw [List.length_cons, List.length_cons, this]
    · intro h
      by_cases hx : x = j0
      · subst hx
        have := i1 nd.1
        rw [List.filterMap_cons, List.filterMap_cons, h0, h1, List.length_cons, this]
      · have hm : j0 ∈ l := by
          rcases List.mem_cons.mp h with e | e
          · exact (hx e.symm).elim
          · exact e
        have := i2 hm
        rw [List.filterMap_cons, List.filterMap_cons, h2 x hx]
        cases f x with
        | none => exact this
        | some _ => rw [List.length_cons, List.length_cons, this]
structure Laid (m : Nat) (hs : List Int) (ow : Array (Option Nat)) (k : Nat) : Prop where
  size : ow.size = m + 1
  cnt : (lv m ow).length = k
  all : ∀ i, i < k → ∃ j, j ≤ m ∧ ow.getD j none = some i
  way : ∀ j i, ow.getD j none = some i → i < k ∧ ∃ h, hs[i]? = some h ∧ Way m (fun j => (ow.getD j none).isSome = true) h j
theorem laid_step {m : Nat} (F : Full m) {hs : List Int} {ow : Array (Option Nat)} {k : Nat} {h : Int} (L : Laid m hs ow k) (hk : k ≤ m) (eh : hs[k]? = some h) :
    ∃ j, layClean.free m ow (turns m) (bits h % (m + 1)) (bits h) = some j ∧ Laid m hs (ow.setIfInBounds j (some k)) (k + 1) := by
  have fr : ∃ J, J ≤ m ∧ ow.getD J none = none := by
    refine Classical.byContradiction fun c => ?_
    have : (lv m ow).length = (List.range (m + 1)).length := List.filterMap_length_eq_length.mpr fun a ha => by
      have ha' := List.mem_range.mp ha
      cases z : ow.getD a none with
      | none => exact (c ⟨a, by omega, z⟩).elim
      | some _ => rfl
    rw [L.cnt, List.length_range] at this
    omega
  obtain ⟨J, hJ, eJ⟩ := fr
  obtain ⟨q, hq, e⟩ := reach F (i := bits h % (m + 1)) (bits_lt h) hJ
  obtain ⟨j, e1, e2, e3, n, e4, e5⟩ := free_spec L.size hJ eJ (turns m) q (bits h % (m + 1)) (bits h) (Nat.le_of_lt_succ (Nat.mod_lt _ (Nat.succ_pos _))) (by unfold turns; omega) e
  have jlt : j < ow.size := by rw [L.size]; omega
  have gj : (ow.setIfInBounds j (some k)).getD j none = some k := by simp [Array.getD, jlt]
  have gn : ∀ i, i ≠ j → (ow.setIfInBounds j (some k)).getD i none = ow.getD i none := fun i hi => by
    rw [Array.getD_eq_getD_getElem?, Array.getD_eq_getD_getElem?, Array.getElem?_setIfInBounds_ne (Ne.symm hi)]
  have tk : ∀ i, (ow.getD i none).isSome = true → ((ow.setIfInBounds j (some k)).getD i none).isSome = true := fun i hi => by
    by_cases c : i = j
    · rw [c, gj]; rfl
    · rw [gn i c]; exact hi
  refine ⟨j, e1, ⟨by rw [Array.size_setIfInBounds]; exact L.size, ?_, fun i hi => ?_, fun j' i' z => ?_⟩⟩
  · have := (fm_succ (f := fun j => (ow.getD j none).map (j, ·)) (f' := fun i => ((ow.setIfInBounds j (some k)).getD i none).map (i, ·)) (j0 := j) (b := (j, k)) (by simp only [e3, Option.map_none]) (by simp only [gj, Option.map_some]) (fun i hi => by simp only [gn i hi]) (List.range (m + 1)) List.nodup_range).2 (List.mem_range.mpr (by omega))
    show List.length (List.filterMap _ _) = _
    rw [this]
    show (lv m ow).length + 1 = k + 1
    rw [L.cnt]
  · rcases Nat.lt_or_eq_of_le (Nat.le_of_lt_succ hi) with c | rfl
    · obtain ⟨j', h1, h2⟩ := L.all i c
      refine ⟨j', h1, ?_⟩
      rw [gn j' fun z => by rw [z, e3] at h2; cases h2]; exact h2
    · exact ⟨j, e2, gj⟩
  · by_cases c : j' = j
    · subst c
      rw [gj] at z; cases z
      exact ⟨Nat.lt_succ_self _, h, eh, n, e4, fun l hl => tk _ (e5 l hl)⟩
    · rw [gn j' c] at z
      obtain ⟨h1, h', h2, h3⟩ := L.way j' i' z
      exact ⟨by omega, h', h2, h3.imp tk⟩
theorem laid_all {m : Nat} (F : Full m) {hs : List Int} (hm : hs.length ≤ m) : ∀ (rest done : List Int) (ow : Array (Option Nat)), hs = done ++ rest → Laid m hs ow done.length →
    ∃ ow', rest.foldl (fun acc h => do let (owner, k) ← acc; let j ← layClean.free m owner (turns m) (bits h % (m + 1)) (bits h); pure (owner.setIfInBounds j (some k), k + 1)) (some (ow, done.length)) = some (ow', hs.length) ∧ Laid m hs ow' hs.length
  | [], done, ow, e, L => by
    rw [List.append_nil] at e; subst e
    exact ⟨ow, rfl, L⟩
  | h :: rest, done, ow, e, L => by
    have ek : hs[done.length]? = some h := by rw [e]; simp
    have hk : done.length ≤ m := by rw [e, List.length_append, List.length_cons] at hm; omega
    obtain ⟨j, e1, L1⟩ := laid_step F L hk ek
    obtain ⟨ow', e2, L2⟩ := laid_all F hm rest (done ++ [h]) (ow.setIfInBounds j (some done.length)) (by rw [e]; simp) (by rw [List.length_append]; exact L1)
    refine ⟨ow', ?_, L2⟩
    rw [List.foldl_cons, ← e2]
    congr 1
    show (layClean.free m ow (turns m) (bits h % (m + 1)) (bits h)).bind _ = _
    rw [e1, List.length_append]; rfl
theorem layClean_some {m : Nat} (F : Full m) (hs : Array Int) (hm : hs.size ≤ m) : ∃ ow, layClean m hs = some ow ∧ Laid m hs.toList ow hs.size := by
  have L0 : Laid m hs.toList (Array.replicate (m + 1) none) ([] : List Int).length := by
    have g0 : ∀ j, (Array.replicate (m + 1) (none : Option Nat)).getD j none = none := fun j => by
      rw [Array.getD_eq_getD_getElem?, Array.getElem?_replicate]; split <;> rfl
    refine ⟨Array.size_replicate, ?_, fun i hi => absurd hi (Nat.not_lt_zero _), fun j i z => by rw [g0] at z; cases z⟩
    show (List.filterMap _ _).length = 0
    rw [List.length_eq_zero_iff, List.filterMap_eq_nil_iff]
    intro a _
    rw [g0]; rfl
  obtain ⟨ow, e, L⟩ := laid_all F (hs := hs.toList) (by simpa using hm) hs.toList [] _ rfl L0
  refine ⟨ow, ?_, by simpa using L⟩
  unfold layClean
  rw [← Array.foldl_toList]
  show Option.map _ (List.foldl _ (some (Array.replicate (m + 1) none, ([] : List Int).length)) hs.toList) = _
  rw [e]; rfl
theorem lv_mem {m : Nat} {ow : Array (Option Nat)} {j k : Nat} : (j, k) ∈ lv m ow ↔ j ≤ m ∧ ow.getD j none = some k := by
  unfold lv
  rw [List.mem_filterMap]
  constructor
  · rintro ⟨a, h1, h2⟩
    cases z : ow.getD a none with
    | none => rw [z] at h2; cases h2
    | some b =>
      rw [z] at h2
      injection h2 with h2
      injection h2 with h3 h4
      subst h3; subst h4
      exact ⟨Nat.le_of_lt_succ (List.mem_range.mp h1), z⟩
  · rintro ⟨h1, h2⟩
    exact ⟨j, List.mem_range.mpr (by omega), by rw [h2]; rfl⟩
theorem lv_sub {f : Nat → Option Nat} : ∀ (l : List Nat), ((l.filterMap fun j => (f j).map (j, ·)).map (·.1)).Sublist l
  | [] => List.Sublist.refl _
  | x :: l => by
    rw [List.filterMap_cons]
    cases f x with
    | none => exact (lv_sub l).cons _
    | some b => exact (lv_sub l).cons₂ _
theorem order_spec {es : Array En} : ∀ (L : List (Nat × Nat)), (∀ x ∈ L, ∃ e, es[x.2]? = some e) → ((L.map (·.2)).filterMap (es[·]?)).length = L.length ∧
    ∀ j e, (j, e) ∈ (L.map (·.1)).zip ((L.map (·.2)).filterMap (es[·]?)) → ∃ k, (j, k) ∈ L ∧ es[k]? = some e
  | [], _ => ⟨rfl, fun j e h => nomatch h⟩
  | x :: L, h => by
    obtain ⟨i1, i2⟩ := order_spec L fun y hy => h y (List.mem_cons_of_mem _ hy)
    obtain ⟨e0, h0⟩ := h x List.mem_cons_self
    rw [List.map_cons, List.map_cons, List.filterMap_cons, h0]
    refine ⟨by rw [List.length_cons, List.length_cons, i1], fun j e hm => ?_⟩
    rw [List.zip_cons_cons] at hm
    rcases List.mem_cons.mp hm with z | z
    · injection z with z1 z2
      subst z1; subst z2
      exact ⟨x.2, List.mem_cons_self, h0⟩
    · obtain ⟨k, a, b⟩ := i2 j e z
      exact ⟨k, List.mem_cons_of_mem _ a, b⟩
theorem laid_ok {m : Nat} (F : Full m) {es : Array En} (hm : (m = 31 ∧ es.size ≤ 18) ∨ (m = 127 ∧ es.size ≤ 76)) (fi mo : Nat) (led pl : Bool) :
    ∃ t order, SetTable.laid m fi mo led pl (es.map (·.1)) = some (t, order) ∧ (order.filterMap (es[·]?)).size = es.size ∧ Ok t (order.filterMap (es[·]?)) ∧ ∀ e, e ∈ (order.filterMap (es[·]?)).toList ↔ e ∈ es.toList := by
  have hs : (es.map (·.1)).size ≤ m := by rw [Array.size_map]; omega
  obtain ⟨ow, e, L⟩ := layClean_some F (es.map (·.1)) hs
  rw [Array.size_map] at L
  have val : ∀ x ∈ lv m ow, ∃ e, es[x.2]? = some e := fun x hx => by
    obtain ⟨j, k⟩ := x
    obtain ⟨_, z⟩ := lv_mem.mp hx
    have := (L.way j k z).1
    exact ⟨es[k], Array.getElem?_eq_getElem this⟩
  obtain ⟨o1, o2⟩ := order_spec (lv m ow) val
  have et : (((lv m ow).map (·.2)).toArray.filterMap (es[·]?)).toList = ((lv m ow).map (·.2)).filterMap (es[·]?) := by
    rw [Array.toList_filterMap]
  have esz : (((lv m ow).map (·.2)).toArray.filterMap (es[·]?)).size = es.size := by
    rw [← Array.length_toList, et, o1, L.cnt]
  refine ⟨{ mask := m, place := ((lv m ow).map (·.1)).toArray, dummies := #[], finger := fi, led := led, moves := mo, plain := pl }, ((lv m ow).map (·.2)).toArray, ?_, esz, ⟨?_, rfl, ?_, ?_, fun j e' hz => ?_⟩, fun e' => ?_⟩
  · unfold SetTable.laid
    rw [e]; rfl
  · rw [esz]
    show ((lv m ow).map (·.1)).toArray.size = _
    rw [List.size_toArray, List.length_map, L.cnt]
  · rw [esz]
    rcases hm with h | h
    · exact .inr (.inl h)
    · exact .inr (.inr h)
  · show Rise ((lv m ow).map (·.1))
    exact List.Pairwise.sublist (lv_sub _) List.pairwise_lt_range
  · unfold prs at hz
    rw [et] at hz
    obtain ⟨k, h1, h2⟩ := o2 j e' hz
    obtain ⟨h3, h4⟩ := lv_mem.mp h1
    obtain ⟨_, h, h6, h7⟩ := L.way j k h4
    have eh : h = e'.1 := by
      rw [Array.getElem?_toList, Array.getElem?_map, h2] at h6
      exact (Option.some.inj h6).symm
    rw [← eh]
    refine h7.imp fun j' hj' => ?_
    show j' ∈ (lv m ow).map (·.1)
    cases z : ow.getD j' none with
    | none => rw [z] at hj'; cases hj'
    | some b =>
      have hb : j' ≤ m := by
        refine Classical.byContradiction fun c => ?_
        have : ow.getD j' none = none := by
          rw [Array.getD_eq_getD_getElem?, Array.getElem?_eq_none (by rw [L.size]; omega)]; rfl
        rw [this] at z; cases z
      exact List.mem_map.mpr ⟨(j', b), lv_mem.mpr ⟨hb, z⟩, rfl⟩
  · rw [et, List.mem_filterMap]
    constructor
    · rintro ⟨k, _, h⟩
      rw [← Array.getElem?_toList] at h
      exact List.mem_of_getElem? h
    · intro h
      obtain ⟨i, hi, ei⟩ := List.getElem_of_mem h
      rw [Array.length_toList] at hi
      obtain ⟨j, h1, h2⟩ := L.all i hi
      refine ⟨i, List.mem_map.mpr ⟨(j, i), lv_mem.mpr ⟨h1, h2⟩, rfl⟩, ?_⟩
      rw [← Array.getElem?_toList, List.getElem?_eq_getElem (by simpa using hi), ei]
theorem relaid_ok {t : SetTable} {es : Array En} (o : Ok1 t es) (hf : t.tooFull = true) (hn : es.size ≤ 21) :
    sizeAbove (grown es.size) ≤ 128 ∧ ∃ t' order, t.relaid (es.map (·.1)) (grown es.size) = some (t', order) ∧ (order.filterMap (es[·]?)).size = es.size ∧ Ok t' (order.filterMap (es[·]?)) ∧ ∀ e, e ∈ (order.filterMap (es[·]?)).toList ↔ e ∈ es.toList := by
  have e : t.fill = t.place.size := by show t.place.size + t.dummies.size = _; rw [o.du]; rfl
  have h1 := o.sz
  unfold tooFull at hf
  rw [e] at hf
  have h2 := of_decide_eq_true hf
  rcases o.mk7 with ⟨a, b⟩ | ⟨a, b⟩ | ⟨a, b⟩
  · have : es.size = 5 := by omega
    have eq : sizeAbove (grown es.size) = 32 := by rw [this]; decide
    refine ⟨by omega, ?_⟩
    unfold SetTable.relaid
    rw [eq]
    exact laid_ok full31 (.inl ⟨rfl, by omega⟩) _ _ _ _
  · have : es.size = 19 := by omega
    have eq : sizeAbove (grown es.size) = 128 := by rw [this]; decide
    refine ⟨by omega, ?_⟩
    unfold SetTable.relaid
    rw [eq]
    exact laid_ok full127 (.inr ⟨rfl, by omega⟩) _ _ _ _
  · omega
end Tb

namespace Tb
open PySem SetTable
section
variable {prog : Program} {w : World} {A : Around} {E : Value → Shared → Prop} {s : Shared}
abbrev Tk (prog : Program) (w : World) (h : Heap) (k : List Int) (b : Addr) : Prop := IsTupleKey (intKind prog w) h k b
abbrev hsh (prog : Program) (w : World) (k : List Int) : Int := tupleKeyHash (intKind prog w) k
theorem items_int {ks : List Int} {vs : List Value} (h : ItemsAre (intKind prog w) ks vs) : ∀ v ∈ vs, ∃ i t, v = Value.int i t := by
  induction h with
  | nil => intro v hv; cases hv
  | @cons k v' ks vs h1 _ ih =>
    intro v hv
    rcases List.mem_cons.mp hv with rfl | hv
    · obtain ⟨t, e⟩ := Value.isInt_shape h1
      exact ⟨_, t, e⟩
    · exact ih v hv
theorem hbv {k : List Int} {b : Addr} {Q : Bool → Shared → Prop} (hk : Tk prog w s.heap k b) (h : Q true s) : wpAny (model prog w) A (hashByValue 8 (.ref b)) Q E s := by
  have hT := hk.typeIs
  obtain ⟨o, items, n, ho, _, hd, hi⟩ := hk
  unfold hashByValue
  refine wpAny_bind (wpAny_specialOf hT F.slot_tuple_hash.lookup ?_)
  show wpAny _ _ (seqItems? (.ref b) >>= _) _ _ s
  refine wpAny_bind (wpAny_seqItems ho hd ?_)
  refine wpAny_bind ?_
  show wpAny _ _ (forIn items _ _) _ _ s
  rw [← Array.forIn_toList]
  refine wpAny_forIn_list _ (fun rest r s' => r.1 = none ∧ s' = s ∧ ∀ v ∈ rest, ∃ i t, v = Value.int i t) _ ?_ ?_ _ _ ⟨rfl, rfl, items_int hi⟩
  · rintro v rest r s' ⟨hr, rfl, hall⟩
    obtain ⟨i, t, rfl⟩ := hall v List.mem_cons_self
    rw [show ∀ n, hashByValue n (.int i t) = pure true from fun n => by cases n <;> simp [hashByValue]]
    refine wpAny_bind (wpAny_pure ?_)
    simp only [Bool.not_true, Bool.false_eq_true, if_false]
    exact wpAny_pure ⟨rfl, rfl, fun u hu' => hall u (List.mem_cons_of_mem _ hu')⟩
  · rintro ⟨r1, r2⟩ s' ⟨hr, rfl, _⟩
    simp only at hr
    subst hr
    exact wpAny_pure h
theorem oac {k : List Int} {b : Addr} {Q : Bool → Shared → Prop} (hk : Tk prog w s.heap k b) (h : Q false s) : wpAny (model prog w) A (ofAClassStatement 8 (.ref b)) Q E s := by
  have hT := hk.typeIs
  obtain ⟨o, items, n, ho, _, hd, hi⟩ := hk
  unfold ofAClassStatement
  refine wpAny_bind (wpAny_typeOf hT ?_)
  simp only [beq_self_eq_true, if_true]
  refine wpAny_bind (wpAny_pure ?_)
  simp only [Bool.not_true, Bool.false_eq_true, if_false]
  refine wpAny_bind (wpAny_seqItems ho hd ?_)
  dsimp only
  refine wpAny_bind ?_
  rw [← Array.forIn_toList]
  refine wpAny_forIn_list _ (fun rest r s' => r.1 = none ∧ s' = s ∧ ∀ v ∈ rest, ∃ i t, v = Value.int i t) _ ?_ ?_ _ _ ⟨rfl, rfl, items_int hi⟩
  · rintro v rest r s' ⟨hr, rfl, hall⟩
    obtain ⟨i, t, rfl⟩ := hall v List.mem_cons_self
    rw [show ∀ n, ofAClassStatement n (.int i t) = pure false from fun n => by cases n <;> simp [ofAClassStatement]]
    refine wpAny_bind (wpAny_pure ?_)
    simp only [Bool.false_eq_true, if_false]
    exact wpAny_pure ⟨rfl, rfl, fun u hu' => hall u (List.mem_cons_of_mem _ hu')⟩
  · rintro ⟨r1, r2⟩ s' ⟨hr, rfl, _⟩
    simp only at hr
    subst hr
    exact wpAny_pure h
theorem scs {k : List Int} {b : Addr} {Q : Bool → Shared → Prop} (hk : Tk prog w s.heap k b) {st : List Value} (hst : ∀ y ∈ st, ∃ k' b', y = Value.ref b' ∧ Tk prog w s.heap k' b') (h : Q false s) :
    wpAny (model prog w) A (searchCouldBeSeen (.ref b) st) Q E s := by
  unfold searchCouldBeSeen
  refine wpAny_bind ?_
  refine wpAny_forIn_list _ (fun rest r s' => r.1 = none ∧ s' = s ∧ ∀ y ∈ rest, ∃ k' b', y = Value.ref b' ∧ Tk prog w s.heap k' b') _ ?_ ?_ _ _ ⟨rfl, rfl, hst⟩
  · rintro y rest r s' ⟨hr, rfl, hall⟩
    obtain ⟨k', b', rfl, hk'⟩ := hall y List.mem_cons_self
    have hrest := fun u hu' => hall u (List.mem_cons_of_mem _ hu')
    dsimp only [carriedByValue]
    by_cases c : (b == b') = true
    · rw [c]
      simp only [Bool.true_or, if_true]
      exact wpAny_pure ⟨rfl, rfl, hrest⟩
    · rw [Bool.eq_false_iff.mpr c]
      simp only [Bool.false_or, Bool.and_self, Bool.false_eq_true, if_false]
      refine wpAny_bind (wpAny_eqIsQuiet_tuple hk ?_)
      simp only [Bool.not_true, Bool.false_eq_true, if_false]
      refine wpAny_bind (wpAny_eqIsQuiet_tuple hk' ?_)
      simp only [Bool.not_true, Bool.false_eq_true, if_false]
      refine wpAny_bind (oac hk ?_)
      simp only [Bool.false_eq_true, if_false]
      refine wpAny_bind (oac hk' ?_)
      simp only [Bool.false_eq_true, if_false]
      exact wpAny_pure ⟨rfl, rfl, hrest⟩
  · rintro ⟨r1, r2⟩ s' ⟨hr, rfl, _⟩
    simp only at hr
    subst hr
    exact wpAny_pure h
end
end Tb
namespace Tb
open PySem SetTable
section
variable {prog : Program} {w : World} {A : Around} {E : Value → Shared → Prop} {s : Shared}
theorem gave_no {t : SetTable} {es : Array En} (o : Ok t es) : t.gaveWay = false := by
  unfold SetTable.gaveWay
  rcases o.mk7 with ⟨h, _⟩ | ⟨h, _⟩ | ⟨h, _⟩ <;> rw [h] <;> rfl
/-- the elements are tuples of ints under their hashes -/
def Els (prog : Program) (w : World) (h : Heap) (es : Array En) : Prop := ∀ e ∈ es.toList, ∃ k b, e = (hsh prog w k, Value.ref b) ∧ Tk prog w h k b
theorem search_T {a b : Addr} {k : List Int} {o : Obj} {es : Array En} {ep : Nat} {t : SetTable} {Q : SetFound → Shared → Prop} (hu : A.units < cLine) (ho : s.heap.get? a = some o) (hd : o.data = .set es ep t) (ok : Ok t es) (el : Els prog w s.heap es) (hk : Tk prog w s.heap k b) :
    ∀ (fuel n : Nat) (stand : Option Probe) (p : Probe), stand.getD (t.probeStart (hsh prog w k)) = p → PrOk p → n < fuel → t.slot (adv t n p).j = .empty →
      ((∃ e ∈ es.toList, ∃ b', e.2 = Value.ref b' ∧ Tk prog w s.heap k b') → Q (.there none) s) →
      (∀ m, t.slot (adv t m p).j = .empty → (∀ l, l < m → t.slot (adv t l p).j ≠ .empty) → (∀ l i e, l < m → t.slot (adv t l p).j = .live i → es[i]? = some e → ¬ ∃ b', e.2 = Value.ref b' ∧ Tk prog w s.heap k b') → Q (.free (adv t m p).j false) s) →
      wpAny (model prog w) A (setSearchFrom a (.ref b) (hsh prog w k) true fuel stand) Q E s := by
  intro fuel
  induction fuel with
  | zero => intro n _ _ _ _ hn; exact absurd hn (Nat.not_lt_zero _)
  | succ fuel ih =>
    intro n stand p hp po hn he qt qf
    unfold setSearchFrom
    refine wpAny_bind (wpAny_setState_of ho hd ok.fits ?_)
    dsimp only
    rw [gave_no ok]
    simp only [Bool.false_eq_true, if_false]
    rw [hp]
    obtain ⟨n', hn', he'⟩ := empty_ahead ok.full ok.du ok.le po
    unfold SetTable.probe
    obtain ⟨ha, hha⟩ : ∃ f : Nat → Int, f = fun i => (es[i]?.map (·.1)).getD 0 := ⟨_, rfl⟩
    obtain ⟨m, hm, hlt, hc⟩ := go_spec ok.du ha (hsh prog w k) _ p n' hn' he'
    have hai : ∀ i e, es[i]? = some e → ha i = e.1 := fun i e z => by
      rw [hha]
      show (es[i]?.map (·.1)).getD 0 = e.1
      rw [z]; rfl
    have skip : ∀ l i e, l < m → t.slot (adv t l p).j = .live i → es[i]? = some e → ¬ ∃ b', e.2 = Value.ref b' ∧ Tk prog w s.heap k b' := fun l i e hl z1 z2 z3 => by
      obtain ⟨i', y1, y2⟩ := hlt l hl
      rw [z1] at y1; cases y1
      obtain ⟨k2, b2, e2, t2⟩ := el e (by rw [← Array.getElem?_toList] at z2; exact List.mem_of_getElem? z2)
      obtain ⟨b', e3, t3⟩ := z3
      rw [e2] at e3
      injection e3 with e3
      subst e3
      have := IsTupleKey.inj t2 t3
      subst this
      apply y2
      rw [hai i e z2, e2]
    rcases hc with ⟨h1, h2⟩ | ⟨i, h0, h1, h2, h3⟩
    · subst hha
      erw [h2]
      dsimp only
      rw [po.du]
      refine wpAny_pure (qf m h1 (fun l hl z => ?_) skip)
      obtain ⟨i, y, _⟩ := hlt l hl
      rw [z] at y; cases y
    · subst hha
      erw [h3]
      dsimp only
      have hi : i < es.size := by
        have := slot_live h1
        have := (Array.getElem?_eq_some_iff.mp this).1
        rw [ok.sz] at this; exact this
      have ei : es[i]? = some es[i] := Array.getElem?_eq_getElem hi
      obtain ⟨k2, b2, e2, t2⟩ := el es[i] (by rw [← Array.getElem_toList]; exact List.getElem_mem _)
      have after : wpAny (model prog w) A (do
          let some (_, y) := es[i]? | unsupported "internal:set-entry"
          let equal ← holding [y] (eqBool y (.ref b))
          let (es', _, t') ← setState a
          if true && equal then return SetFound.there none
          let some same := t'.sameMemory t.moves t.mask | unsupported "set.changed-during-lookup:is-the-new-block-at-the-old-address"
          let still ← match (if same then t'.slot (adv t m p).j else .empty) with
            | .live i' => match es'[i']? with
              | some (_, y') => do pure (if ← isSame y' y then some i' else none)
              | none => pure none
            | _ => pure none
          match still with
          | none => rule "set.search.anew"; setSearchFrom a (.ref b) (hsh prog w k) true fuel none
          | some i' => if equal then return SetFound.there (some i') else setSearchFrom a (.ref b) (hsh prog w k) true fuel (some (adv t (m + 1) p))) Q E s := by
        rw [ei, e2]
        dsimp only
        refine wpAny_bind (wpAny_holding (wpAny_eqBool_tuple hu t2 hk ?_))
        refine wpAny_bind (wpAny_setState_of ho hd ok.fits ?_)
        dsimp only
        by_cases c : k2 = k
        · subst c
          simp only [decide_true, Bool.and_self, if_true]
          exact wpAny_pure (qt ⟨es[i], by rw [← Array.getElem_toList]; exact List.getElem_mem _, b2, by rw [e2], t2⟩)
        · rw [decide_eq_false c]
          simp only [Bool.and_false, Bool.false_eq_true, if_false]
          have sm : t.sameMemory t.moves t.mask = some true := by unfold SetTable.sameMemory; simp
          rw [sm]
          dsimp only
          simp only [if_true]
          rw [h1]
          dsimp only
          rw [ei, e2]
          dsimp only
          refine wpAny_bind (wpAny_isSame_ref_self (wpAny_bind (wpAny_pure ?_)))
          simp only [if_true]
          have hmn : m < n := by
            refine Classical.byContradiction fun z => ?_
            rcases Nat.lt_or_eq_of_le (Nat.le_of_not_lt z) with y | y
            · obtain ⟨i', y1, _⟩ := hlt n y
              rw [he] at y1; cases y1
            · rw [y, h1] at he; cases he
          have esh : ∀ l, adv t (m + 1 + l) p = adv t l (adv t (m + 1) p) := fun l => adv_add t (m + 1) l p
          refine ih (n - (m + 1)) (some (adv t (m + 1) p)) (adv t (m + 1) p) rfl (PrOk.adv _ po) (by omega) (by rw [← esh, show m + 1 + (n - (m + 1)) = n by omega]; exact he) qt fun m' q1 q2 q3 => ?_
          rw [← esh]
          refine qf (m + 1 + m') (by rw [esh]; exact q1) (fun l hl z => ?_) fun l i' e' hl z1 z2 => ?_
          · rcases Nat.lt_trichotomy l m with y | y | y
            · obtain ⟨i', y1, _⟩ := hlt l y
              rw [z] at y1; cases y1
            · rw [y, h1] at z; cases z
            · have : l = m + 1 + (l - (m + 1)) := by omega
              rw [this, esh] at z
              exact q2 _ (by omega) z
          · rcases Nat.lt_trichotomy l m with y | y | y
            · exact skip l i' e' y z1 z2
            · subst y
              rw [h1] at z1; cases z1
              rw [ei] at z2; cases z2
              rintro ⟨b', z3, z4⟩
              rw [e2] at z3
              injection z3 with z3
              subst z3
              exact c (IsTupleKey.inj t2 z4)
            · have : l = m + 1 + (l - (m + 1)) := by omega
              rw [this, esh] at z1
              exact q3 _ i' e' (by omega) z1 z2
      cases hl : t.led with
      | true =>
        simp only [Bool.not_true, Bool.false_eq_true, if_false]
        exact after
      | false =>
        simp only [Bool.not_false, if_true]
        refine wpAny_bind (scs hk (fun y hy => ?_) ?_)
        · obtain ⟨e, m1, rfl⟩ := List.mem_map.mp hy
          have m2 : e ∈ es.toList := by
            rw [Array.toList_filter] at m1
            exact (List.mem_filter.mp m1).1
          obtain ⟨k3, b3, e3, t3⟩ := el e m2
          exact ⟨k3, b3, by rw [e3], t3⟩
        · simp only [Bool.false_eq_true, if_false]
          exact after
end
end Tb

namespace Tb
open PySem SetTable
section
variable {prog : Program} {w : World} {A : Around} {E : Value → Shared → Prop} {s : Shared}
/-- a set of tuples of ints -/
def SetT (prog : Program) (w : World) (h : Heap) (a : Addr) (ks : List (List Int)) : Prop :=
  ∃ o es ep t, h.get? a = some o ∧ o.ExactSet ∧ o.data = .set es ep t ∧ Ok t es ∧ Els prog w h es ∧ es.size = ks.length ∧ ∀ k, k ∈ ks ↔ ∃ e ∈ es.toList, ∃ b, e.2 = Value.ref b ∧ Tk prog w h k b
theorem tk_at {h h' : Heap} {k : List Int} {b : Addr} (x : Tk prog w h k b) (q : ∀ o, h.get? b = some o → h'.get? b = some o) : Tk prog w h' k b := by
  obtain ⟨o, items, n, ho, r⟩ := x
  exact ⟨o, items, n, q o ho, r⟩
theorem tk_ne {h : Heap} {k : List Int} {a b : Addr} {o : Obj} {es : Array En} {ep : Nat} {t : SetTable} (x : Tk prog w h k b) (ho : h.get? a = some o) (hd : o.data = .set es ep t) : b ≠ a := by
  obtain ⟨o', items, n, ho', _, hd', _⟩ := x
  intro z
  subst z
  rw [ho] at ho'
  cases ho'
  rw [hd] at hd'
  cases hd'
/-- what is stored anew in the set, told of the heap behind it -/
theorem stored {a : Addr} {o : Obj} {es es1 : Array En} {ep : Nat} {t t1 : SetTable} {h : Heap} (ho : h.get? a = some o) (hex : o.ExactSet) (hd : o.data = .set es ep t) :
    ∃ o1, (h.update a (Obj.putSet es1 t1)).get? a = some o1 ∧ o1.ExactSet ∧ o1.data = .set es1 (ep + 1) t1 ∧ Heap.SameBut a h (h.update a (Obj.putSet es1 t1)) := by
  refine ⟨{ o with data := .set es1 (ep + 1) t1 }, ?_, hex, rfl, Heap.SameBut.update h a _⟩
  have z := Heap.get?_update_self (Obj.putSet es1 t1) ho (by rw [putSet_of es1 t1 hd]; rfl)
  rw [putSet_of es1 t1 hd] at z
  exact z
theorem size_small {n : Nat} (h : n ≤ 1000) : n ≤ sizeLine := by rw [sizeLine_eq]; omega
theorem add_T {a b : Addr} {k : List Int} {ks : List (List Int)} {Q : Bool → Shared → Prop} (hu : A.units < cLine) (hS : SetT prog w s.heap a ks) (hk : Tk prog w s.heap k b) (hn : ks.length ≤ 20)
    (q : ∀ h', Heap.SameBut a s.heap h' → SetT prog w h' a (if k ∈ ks then ks else ks ++ [k]) → Q (decide (k ∉ ks)) { s with heap := h' }) :
    wpAny (model prog w) A (setAddHashed a (.ref b) (hsh prog w k)) Q E s := by
  obtain ⟨o, es, ep, t, ho, hex, hd, ok, el, hz, hm⟩ := id hS
  unfold setAddHashed setAddHashedIn
  refine wpAny_holding (wpAny_bind (wpAny_setState_of ho hd ok.fits ?_))
  dsimp only
  rw [show byScan (.ref b) es = false from rfl]
  simp only [Bool.false_eq_true, if_false]
  unfold setSearch
  obtain ⟨n, hn', he⟩ := empty_ahead ok.full ok.du ok.le (start_ok t (hsh prog w k))
  have hn2 : n < 100000 := by
    unfold turns at hn'
    rcases ok.mk7 with ⟨z, _⟩ | ⟨z, _⟩ | ⟨z, _⟩ <;> (rw [z] at hn'; omega)
  refine wpAny_bind (search_T hu ho hd ok el hk 100000 n none _ rfl (start_ok _ _) hn2 he (fun ex => ?_) (fun m q1 q2 q3 => ?_))
  · have hin : k ∈ ks := (hm k).mpr ex
    have z := q s.heap (Heap.SameBut.refl a s.heap) (by rw [if_pos hin]; exact hS)
    rw [decide_eq_false (fun y => y hin)] at z
    exact wpAny_pure z
  · have hin : k ∉ ks := fun z => by
      obtain ⟨e, me, b', z1, z2⟩ := (hm k).mp z
      obtain ⟨k2, b2, e2, t2⟩ := el e me
      have : k2 = k := by
        rw [e2] at z1
        injection z1 with z1
        subst z1
        exact IsTupleKey.inj t2 z2
      exact ok.absent q1 (bad := fun e => ∃ b', e.2 = Value.ref b' ∧ Tk prog w s.heap k b') q3 e me (by rw [e2, this]) ⟨b', z1, z2⟩
    dsimp only
    refine wpAny_bind (wpAny_setState_of ho hd ok.fits ?_)
    dsimp only
    simp only [Option.getD_none] at q1 q2 q3 ⊢
    obtain ⟨o1, em, pm⟩ := ok.put (x := Value.ref b) q1 q2
    generalize t.put (adv t m (t.probeStart (hsh prog w k))).j = tp at o1 em pm ⊢
    obtain ⟨t1, p1⟩ := tp
    dsimp only at o1 em pm ⊢
    generalize insertAt es p1 (hsh prog w k, Value.ref b) = es1 at o1 pm ⊢
    have mem1 : ∀ e, e ∈ es1.toList ↔ e ∈ es.toList ∨ e = (hsh prog w k, Value.ref b) := fun e => by
      rw [pm.mem_iff, Array.toList_push, List.mem_append, List.mem_singleton]
    have sz1 : es1.size = ks.length + 1 := by
      rw [← Array.length_toList, pm.length_eq, Array.toList_push, List.length_append, Array.length_toList, hz]; rfl
    -- what holds of any heap that differs at the set alone and holds these elements
    have fin : ∀ (h2 : Heap) (o2 : Obj) (es2 : Array En) (ep2 : Nat) (t2 : SetTable), Heap.SameBut a s.heap h2 → h2.get? a = some o2 → o2.ExactSet → o2.data = .set es2 ep2 t2 → Ok t2 es2 → es2.size = es1.size → (∀ e, e ∈ es2.toList ↔ e ∈ es1.toList) → Q true { s with heap := h2 } := fun h2 o2 es2 ep2 t2 sb g1 g2 g3 g4 g5 g6 => by
      have up : ∀ {k' b'}, Tk prog w s.heap k' b' → Tk prog w h2 k' b' := fun {k' b'} x => tk_at x fun o z => (sb.2 b' (tk_ne x ho hd)).trans z
      have dn : ∀ {k' b'}, b' ≠ a → Tk prog w h2 k' b' → Tk prog w s.heap k' b' := fun {k' b'} nb x => tk_at x fun o z => (sb.2 b' nb).symm.trans z
      have z := q h2 sb
      rw [if_neg hin, decide_eq_true hin] at z
      refine z ⟨o2, es2, ep2, t2, g1, g2, g3, g4, fun e me => ?_, ?_, fun k' => ?_⟩
      · rcases (mem1 e).mp ((g6 e).mp me) with y | y
        · obtain ⟨k3, b3, e3, t3⟩ := el e y
          exact ⟨k3, b3, e3, up t3⟩
        · exact ⟨k, b, y, up hk⟩
      · rw [g5, sz1, List.length_append]; rfl
      · rw [List.mem_append, List.mem_singleton, hm k']
        constructor
        · rintro (⟨e, me, b', z1, z2⟩ | rfl)
          · exact ⟨e, (g6 e).mpr ((mem1 e).mpr (.inl me)), b', z1, up z2⟩
          · exact ⟨_, (g6 _).mpr ((mem1 _).mpr (.inr rfl)), b, rfl, up hk⟩
        · rintro ⟨e, me, b', z1, z2⟩
          rcases (mem1 e).mp ((g6 e).mp me) with y | y
          · obtain ⟨k3, b3, e3, t3⟩ := el e y
            have eb : b3 = b' := by rw [e3] at z1; injection z1
            subst eb
            exact .inl ⟨e, y, b3, z1, dn (tk_ne t3 ho hd) z2⟩
          · rw [y] at z1
            injection z1 with z1
            subst z1
            exact .inr (IsTupleKey.inj (dn (tk_ne hk ho hd) z2) hk)
    obtain ⟨oA, gA, xA, dA, sA⟩ := stored (es1 := es1) (t1 := t1) ho hex hd
    refine wpAny_ite ?_
    split
    refine wpAny_bind (hbv hk ?_)
    rotate_left
    refine wpAny_bind (wpAny_pure ?_)
    all_goals
     simp only [if_true]
     refine wpAny_bind (wpAny_storeSet_of ho hd ?_ (size_small (by omega)))
     cases hf : t1.tooFull with
     | false =>
       simp only [Bool.and_false, Bool.false_eq_true, if_false]
       exact wpAny_pure (fin _ oA es1 _ t1 sA gA xA dA (o1.ok hf) rfl fun e => Iff.rfl)
     | true =>
       simp only [Bool.not_false, Bool.and_self, if_true]
       obtain ⟨b1, t2, order, r1, r2, r3, r4⟩ := relaid_ok o1 hf (by omega)
       refine wpAny_bind ?_
       unfold setRelay
       refine wpAny_bind (wpAny_setState_of (s := { s with heap := s.heap.update a (Obj.putSet es1 t1) }) gA dA o1.fits ?_)
       dsimp only
       rw [hz, ← sz1, if_neg (by rw [sizeLine_eq]; omega)]
       rw [r1]
       refine wpAny_bind (?_ : wpAny _ _ (ite (((order.filterMap (es1[·]?)).size != es1.size) = true) _ (pure (order.filterMap (es1[·]?), t2))) _ _ _)
       rw [if_neg (by rw [r2]; simp)]
       refine wpAny_pure ?_
       dsimp only
       obtain ⟨oB, gB, xB, dB, sB⟩ := stored (es1 := order.filterMap (es1[·]?)) (t1 := t2) gA xA dA
       refine wpAny_storeSet_of (s := { s with heap := s.heap.update a (Obj.putSet es1 t1) }) gA dA ?_ (size_small (by omega))
       exact wpAny_pure (fin _ oB _ _ t2 (sA.trans sB) gB xB dB r3 r2 r4)
end
end Tb

namespace Tb
open PySem SetTable
/-! ### set(xs), xs a list of tuples of ints -/
def dd (acc : List (List Int)) : List (List Int) → List (List Int)
  | [] => acc
  | m :: ms => dd (if m ∈ acc then acc else acc ++ [m]) ms
theorem dd_snoc (m : List Int) : ∀ (ms acc : List (List Int)), dd acc (ms ++ [m]) = if m ∈ dd acc ms then dd acc ms else dd acc ms ++ [m]
  | [], acc => rfl
  | x :: ms, acc => dd_snoc m ms _
theorem dd_len : ∀ (ms acc : List (List Int)), (dd acc ms).length ≤ acc.length + ms.length
  | [], acc => Nat.le_refl _
  | m :: ms, acc => by
    show (dd (if m ∈ acc then acc else acc ++ [m]) ms).length ≤ acc.length + (ms.length + 1)
    by_cases c : m ∈ acc
    · rw [if_pos c]
      have := dd_len ms acc
      omega
    · rw [if_neg c]
      have := dd_len ms (acc ++ [m])
      rw [List.length_append] at this
      have e : [m].length = 1 := rfl
      omega
theorem dd_all : ∀ (ms acc : List (List Int)), acc.Nodup → ((dd acc ms).length = acc.length + ms.length ↔ (acc ++ ms).Nodup)
  | [], acc, nd => ⟨fun _ => by rw [List.append_nil]; exact nd, fun _ => rfl⟩
  | m :: ms, acc, nd => by
    show (dd (if m ∈ acc then acc else acc ++ [m]) ms).length = acc.length + (ms.length + 1) ↔ _
    by_cases c : m ∈ acc
    · rw [if_pos c]
      have := dd_len ms acc
      constructor
      · intro h; omega
      · intro h
        rw [List.nodup_append] at h
        exact (h.2.2 m c m List.mem_cons_self rfl).elim
    · rw [if_neg c]
      have nd2 : (acc ++ [m]).Nodup := by
        rw [List.nodup_append]
        refine ⟨nd, by simp, fun a ha b hb e => ?_⟩
        rw [List.mem_singleton.mp hb] at e
        exact c (e ▸ ha)
      have := dd_all ms (acc ++ [m]) nd2
      rw [List.length_append] at this
      rw [show acc ++ m :: ms = (acc ++ [m]) ++ ms by simp, ← this]
      show _ ↔ _ = acc.length + 1 + ms.length
      constructor <;> intro h <;> omega
theorem in1_u {A : Around} : A.in1.units = A.units + 1 := rfl
section
variable {prog : Program} {w : World} {A : Around} {E : Value → Shared → Prop} {s : Shared}
theorem els_nil {h : Heap} : Els prog w h #[] := by
  intro e me
  cases me
theorem SetT.at_ {h h' : Heap} {a : Addr} {ks : List (List Int)} (x : SetT prog w h a ks) (ha : ∀ o, h.get? a = some o → h'.get? a = some o) (hb : ∀ b k o, Tk prog w h k b → h.get? b = some o → h'.get? b = some o) : SetT prog w h' a ks := by
  obtain ⟨o, es, ep, t, g1, g2, g3, g4, g5, g6, g7⟩ := x
  refine ⟨o, es, ep, t, ha o g1, g2, g3, g4, fun e me => ?_, g6, fun k => (g7 k).trans ?_⟩
  · obtain ⟨k, b, e1, e2⟩ := g5 e me
    exact ⟨k, b, e1, tk_at e2 fun o z => hb b k o e2 z⟩
  · constructor
    · rintro ⟨e, me, b, z1, z2⟩
      exact ⟨e, me, b, z1, tk_at z2 fun o z => hb b k o z2 z⟩
    · rintro ⟨e, me, b, z1, z2⟩
      obtain ⟨k3, b3, e3, t3⟩ := g5 e me
      have eb : b3 = b := by rw [e3] at z1; injection z1
      subst eb
      have t4 : Tk prog w h' k3 b3 := tk_at t3 fun o z => hb b3 k3 o t3 z
      have := IsTupleKey.inj t4 z2
      subst this
      exact ⟨e, me, b3, z1, t3⟩
/-- the walk that fills a set -/
theorem fill_T {R : Result → Shared → Prop} {I l : Addr} {items : Array Value} (hh : A.handled = none) (ne : l ≠ I) (S : Addr) (nI : S ≠ I) (nl : S ≠ l) (hu : A.units + 2 < cLine)
    (ms : List (List Int)) (bs : List Addr) (hn : ms.length = items.size) (hm : items.size ≤ 20) (hP : ∀ (i : Nat) v, items[i]? = some v → ∃ b, v = Value.ref b ∧ bs[i]? = some b) :
    ∀ (k i : Nat) (s : Shared), items.size - i = k → i ≤ items.size → (s.heap.IsListIter I l i ∧ s.heap.IsList l items) → SetT prog w s.heap S (dd [] (ms.take i)) → (∀ (j : Nat) m b, ms[j]? = some m → bs[j]? = some b → Tk prog w s.heap m b) →
      (∀ h' tk, (∀ b o, b ≠ S → b ≠ I → s.heap.get? b = some o → h'.get? b = some o) → SetT prog w h' S (dd [] ms) → R (.ok (.ret .none)) { s with heap := h', toks := tk }) →
      codeAny (model prog w) A (.builtin "set.update.loop" ⟨[.ref S, .ref I], []⟩) R s := by
  have W := Walks.list (prog := prog) (w := w) (A := A.in1) hh I l ne items
  -- a tuple stands elsewhere than the walker
  have tI : ∀ {h : Heap} {i : Nat} {k b}, h.IsListIter I l i → Tk prog w h k b → b ≠ I := fun {h i k b} x y z => by
    obtain ⟨o, e1, e2, _⟩ := x
    obtain ⟨o', _, _, e3, e4, _⟩ := y
    subst z
    rw [e1] at e3; cases e3
    rw [e2] at e4
    exact absurd (Value.type.inj e4) (by decide)
  intro k
  induction k with
  | zero =>
    intro i s hk hi st hT hts hR
    obtain rfl : i = items.size := by omega
    refine codeAny_builtin PyProof.Rows.F.entry_set_update_loop ?_
    rw [Around.under_plainId PyProof.Rows.F.plain_set_update_loop _]
    refine (?_ : wpAny _ A.in1 (pyNext (.ref I) >>= _) _ _ s)
    refine wpAny_bind (W.done s _ _ st fun h' tk kp => ?_)
    refine (?_ : wpAny _ A.in1 (ret Value.none) _ _ _)
    rw [List.take_of_length_le (by omega)] at hT
    exact wpAny_pure (hR h' tk (fun b o _ nb z => kp b o (by simpa using nb) z) (hT.at_ (fun o z => kp S o (by simpa using nI) z) fun b m o x z => kp b o (by simpa using tI st.1 x) z))
  | succ k ih =>
    intro i s hk hi st hT hts hR
    have hlt : i < items.size := by omega
    refine codeAny_builtin PyProof.Rows.F.entry_set_update_loop ?_
    rw [Around.under_plainId PyProof.Rows.F.plain_set_update_loop _]
    refine (?_ : wpAny _ A.in1 (pyNext (.ref I) >>= _) _ _ s)
    refine wpAny_bind (W.item i s _ _ hlt st fun v h' tk pv st' kp => ?_)
    obtain ⟨b, rfl, eb⟩ := hP i v pv
    have em : ms[i]? = some ms[i] := List.getElem?_eq_getElem (by omega)
    have kp' : ∀ b' m' o', Tk prog w s.heap m' b' → s.heap.get? b' = some o' → h'.get? b' = some o' := fun b' m' o' x z => kp b' o' (by simpa using tI st.1 x) z
    have hT' : SetT prog w h' S (dd [] (ms.take i)) := hT.at_ (fun o z => kp S o (by simpa using nI) z) kp'
    have hts' : ∀ (j : Nat) m b, ms[j]? = some m → bs[j]? = some b → Tk prog w h' m b := fun j m b' y1 y2 => tk_at (hts j m b' y1 y2) fun o z => kp' b' m o (hts j m b' y1 y2) z
    have hk0 := hts' i _ b em eb
    refine (?_ : wpAny _ A.in1 (holding [Value.ref b] (setAdd S (.ref b)) >>= _) _ _ _)
    refine wpAny_bind (wpAny_holding ?_)
    unfold setAdd
    refine wpAny_holding ?_
    refine wpAny_bind (wpAny_pyHash_tuple (knd := intKind prog w) (s := { s with heap := h', toks := tk }) (by rw [in1_u]; omega) hk0 ?_)
    have dl := dd_len (ms.take i) []
    have ll := List.length_take_le i ms
    refine add_T (s := { s with heap := h', toks := tk + ((ms[i]).length + 1) }) (by rw [in1_u]; omega) hT' hk0 (by simp only [List.length_nil] at dl; omega) fun h2 sb hT2 => ?_
    rw [← dd_snoc, ← (show ms.take (i + 1) = ms.take i ++ [ms[i]] by rw [List.take_succ, em]; rfl)] at hT2
    -- the set has changed alone
    obtain ⟨o0, es0, ep0, t0, g1, _, g3, _⟩ := hT'
    have keep : ∀ b' m' o', Tk prog w h' m' b' → h'.get? b' = some o' → h2.get? b' = some o' := fun b' m' o' x z => (sb.2 b' (tk_ne x g1 g3)).trans z
    refine wpAny_pure ⟨plainId_quiet PyProof.Rows.F.plain_set_update_loop _, ih (i + 1) _ (by omega) hlt (W.frame _ _ _ st' fun b' hb o z => ?_) hT2 (fun j m b' y1 y2 => tk_at (hts' j m b' y1 y2) fun o z => keep b' m o (hts' j m b' y1 y2) z) fun h3 tk3 kp3 hT3 => ?_⟩
    · have : b' ≠ S := by
        rcases List.mem_cons.mp hb with rfl | hb
        · exact nI.symm
        · obtain rfl := List.mem_singleton.mp hb; exact nl.symm
      exact (sb.2 b' this).trans z
    · exact hR h3 tk3 (fun b' o n1 n2 z => kp3 b' o n1 n2 ((sb.2 b' n1).trans (kp b' o (by simpa using n2) z))) hT3
/-- set(xs) -/
theorem call_set_T {l : Addr} {items : Array Value} {Q : Value → Shared → Prop} (hh : A.handled = none) (hu : A.units + 10 < cLine) (hl : s.heap.IsList l items) (ms : List (List Int)) (bs : List Addr) (hn : ms.length = items.size) (hm : items.size ≤ 20)
    (hP : ∀ (i : Nat) v, items[i]? = some v → ∃ b, v = Value.ref b ∧ bs[i]? = some b) (hts : ∀ (j : Nat) m b, ms[j]? = some m → bs[j]? = some b → Tk prog w s.heap m b)
    (q : ∀ h' tk, SetT prog w h' s.heap.objs.size (dd [] ms) → (∀ b o, s.heap.get? b = some o → h'.get? b = some o) → Q (.ref s.heap.objs.size) { s with heap := h', toks := tk }) :
    wpAny (model prog w) A (call (.type "set") [.ref l]) Q E s := by
  obtain ⟨c, tl, mro⟩ := F.called_set.mro
  have mk := F.called_set.made
  have sub := F.called_set.sub
  refine wpAny_call (codeAny_of_tree ?_)
  refine (?_ : wpAny _ _ (callAny (.type "set") _) _ _ _)
  refine wpAny_pure ⟨Code.quiet_builtin _ (by decide +kernel), codeAny_builtin F.entry_type_call ?_⟩
  rw [Around.under_plain (weight_type_call_type "set" [.ref l] []) rfl]
  have n1 := F.called_set.notType
  have n2 := F.called_set.canCreate
  have n3 := F.typeCall_set_1 (.ref l)
  repeat (any_goals (first | assumption | wp_step))
  refine codeAny_mono (code_set_new_1 (.ref l) (E := E) (Q₁ := fun v s1 => ∃ led : Bool, v = .ref s.heap.objs.size ∧ s1 = { s with heap := s.heap.push { cls := .type "set", dict := none, data := .set #[] 0 (.fresh 0 0 led) } }) fun led => ⟨led, rfl, rfl⟩) fun r s1 hr => ?_
  cases r with
  | error e => exact hr
  | ok fl =>
    cases fl with
    | ret obj =>
      obtain ⟨led, rfl, rfl⟩ := hr
      have gS : (s.heap.push { cls := .type "set", dict := none, data := .set #[] 0 (.fresh 0 0 led) }).get? s.heap.objs.size = some { cls := .type "set", dict := none, data := .set #[] 0 (.fresh 0 0 led) } := Heap.get?_push_size _ rfl
      have tS : Shared.TypeIs { s with heap := s.heap.push { cls := .type "set", dict := none, data := .set #[] 0 (.fresh 0 0 led) } } (.ref s.heap.objs.size) "set" := ⟨_, gS, rfl⟩
      have il := F.called_set.init.lookup
      have ib := F.called_set.init.bind (.ref s.heap.objs.size)
      repeat (any_goals (first | assumption | wp_step))
      refine codeAny_mono (codeAny_call_builtin (R := wants (fun r s2 => r = .none ∧ ∃ h' tk, s2 = { s with heap := h', toks := tk } ∧ SetT prog w h' s.heap.objs.size (dd [] ms) ∧ ∀ b o, s.heap.get? b = some o → h'.get? b = some o) E) F.called_set.init.plain F.entry_set_init (check_set_init_1 tS ?_)) fun r2 s2 hr2 => ?_
      · obtain ⟨ol, g1, g2, nl, g3⟩ := hl
        obtain ⟨ocls, odict, odata, oslots⟩ := ol
        simp only at g2 g3
        subst g2; subst g3
        have gl : (s.heap.push { cls := .type "set", dict := none, data := .set #[] 0 (.fresh 0 0 led) }).get? l = some { cls := .type "list", dict := odict, data := .seq items nl, slots := oslots } := Heap.get?_push_of_some _ g1
        have s1 := F.sub_list_set
        have s2 := F.sub_list_frozenset
        have s3 : (Value.type "list" == Value.type "dict") = false := by decide
        have il1 : (s.heap.push { cls := .type "set", dict := none, data := .set #[] 0 (.fresh 0 0 led) }).IsList l items := ⟨_, gl, rfl, nl, rfl⟩
        unfold Builtin.«set.__init__» noKeywords Builtin.Frozenset.updateFrom
        generalize eP : pyIter = PI
        wp_walk
        subst eP
        refine wpAny_pyIter_list il1 ?_
        refine wpAny_bind (wpAny_runValue ?_)
        have lS : l < s.heap.objs.size := Heap.lt_size g1
        have zS : (s.heap.push { cls := .type "set", dict := none, data := .set #[] 0 (.fresh 0 0 led) }).objs.size = s.heap.objs.size + 1 := Heap.size_push ..
        have kp : ∀ b o, s.heap.get? b = some o → ((s.heap.push { cls := .type "set", dict := none, data := .set #[] 0 (.fresh 0 0 led) }).push { cls := .type "list_iterator", data := .fields #[.ref l, .int 0 0] }).get? b = some o := fun b o z => Heap.get?_push_of_some _ (Heap.get?_push_of_some _ z)
        refine fill_T (items := items) (by simp [hh]) (by rw [zS]; exact Nat.ne_of_lt (Nat.lt_succ_of_lt lS)) s.heap.objs.size (by rw [zS]; exact Nat.ne_of_lt (Nat.lt_succ_self _)) (Nat.ne_of_gt lS) (by simp only [in1_u]; omega) ms bs hn hm hP (items.size - 0) 0 _ rfl (Nat.zero_le _)
          ⟨⟨_, Heap.get?_push_size _ rfl, rfl, rfl⟩, il1.push _⟩ ?hS0 (fun j m b y1 y2 => tk_at (hts j m b y1 y2) fun o z => kp b o z) ?hR
        case hS0 =>
          rw [List.take_zero]
          exact ⟨_, #[], 0, _, Heap.get?_push_of_some _ gS, ⟨rfl, rfl, rfl⟩, rfl, fresh_ok led, els_nil, rfl, fun k => ⟨fun z => (by cases z), fun ⟨e, me, _⟩ => (by cases me)⟩⟩
        case hR =>
          intro h' tk' kp' hT'
          refine (?_ : wpAny _ _ _ _ _ _)
          refine wpAny_pure ?_
          refine (?_ : wpAny _ _ (ret Value.none) _ _ _)
          refine wpAny_pure ⟨rfl, h', tk', rfl, hT', fun b o z => ?_⟩
          have hb := Heap.lt_size z
          exact kp' b o (Nat.ne_of_lt hb) (by rw [zS]; exact Nat.ne_of_lt (Nat.lt_succ_of_lt hb)) (kp b o z)
      · cases r2 with
        | error e => exact hr2
        | ok fl2 =>
          cases fl2 with
          | ret r =>
            obtain ⟨rfl, h', tk, rfl, hT', hk'⟩ := hr2
            repeat (any_goals (first | assumption | wp_step))
            exact q _ _ hT' hk'
          | _ => exact hr2.elim
    | _ => exact hr.elim
end
end Tb
namespace L3
open PySem PySem.Spec PyProof.Rows PySem.Calls L2
/-- how many stand in the set at a -/
def SetN (a : Addr) (n : Nat) : HO := .ext fun h => ∃ o es ep t, h.get? a = some o ∧ o.ExactSet ∧ o.data = .set es ep t ∧ t.fits es.size = true ∧ es.size = n
theorem b_set : bootBuiltins "set" = some (.type "set") := by decide +kernel
theorem b_all : bootBuiltins "all" = some (.builtin "all") := by decide +kernel
section
variable {X : Cx}
theorem tk_den {pins : List (Addr × Obj)} {σ : L2.St} {H : Hp} {s : Shared} {m : List Int} {y : V} {v : Value} (I : Inv X pins σ H s) (h : Den X.K H (itup m) y) (r : RelV y v) : ∃ b, v = .ref b ∧ Tb.Tk X.prog X.w s.heap m b := by
  obtain ⟨a, xs, rfl, h1, h2⟩ := h.tup_of
  cases r
  obtain ⟨its, rv, ⟨o, e1, e2, n, e3⟩, _⟩ := I.tuple h1
  rw [dens_ints_of h2] at rv
  refine ⟨a, rfl, o, its.toArray, n, e1, e2, e3, ?_⟩
  have : ∀ {m : List Int} {us : List Value}, Vals (m.map V.int) us → ItemsAre (intKind X.prog X.w) m us := by
    intro m
    induction m with
    | nil => intro us q; cases q; exact .nil
    | cons i m ih =>
      intro us q
      cases q with
      | cons q t =>
        obtain ⟨tk, rfl⟩ := q
        exact .cons (intKind_is _ _ _ _) (ih t)
  exact this (by simpa using rv)
def rSetT (K : PySem.W.Frag) : List V → Hp → VK → Prop := fun xs H Q => ∃ (p : Addr) (ys : List V) (ms : List (List Int)), xs = [.ref p] ∧ SqL K H p ys ∧ Dens K H (ms.map itup) ys ∧ ms.length ≤ 20 ∧ ∀ a, H a = none → Q (.ref a) (upd H a (SetN a (Tb.dd [] ms).length))
theorem call_setT (hc : X.calm = true) (hu : X.A.units + 40 < cLine) : CallR X (.type "set") (rSetT X.K) := by
  intro pins s σ H xs us Q I r h
  obtain ⟨p, ys, ms, rfl, hp, hd, h20, q⟩ := h
  obtain ⟨u, rfl, r1⟩ := vals1 r
  cases r1
  obtain ⟨its, rv, pl, hz⟩ := I.list hp
  have ly : ys.length = ms.length := by have := Dens.length hd; rw [List.length_map] at this; exact this
  have lv : ys.length = its.length := rv.length
  have at_ : ∀ (i : Nat) v, its[i]? = some v → ∃ m b, ms[i]? = some m ∧ v = .ref b ∧ Tb.Tk X.prog X.w s.heap m b := fun i v e => by
    have hi : i < ms.length := by have := (List.getElem?_eq_some_iff.mp e).1; omega
    have em : ms[i]? = some ms[i] := List.getElem?_eq_getElem hi
    obtain ⟨y, ey, dy⟩ := Dens.at (i := i) hd (d := itup ms[i]) (by rw [List.getElem?_map, em]; rfl)
    obtain ⟨v', ev, rv'⟩ := rv.get ey
    rw [e] at ev; cases ev
    obtain ⟨b, e1, e2⟩ := tk_den I dy rv'
    exact ⟨_, b, em, e1, e2⟩
  refine Tb.call_set_T (items := its.toArray) (I.ok.hd hc) (by omega) pl.isList ms (its.map fun v => match v with | .ref b => b | _ => 0) (by rw [List.size_toArray]; omega) (by rw [List.size_toArray]; omega) (fun i v e => ?_) (fun j m b e1 e2 => ?_) fun h' tk hS hk => ?_
  · rw [List.getElem?_toArray] at e
    obtain ⟨m, b, _, rfl, _⟩ := at_ i v e
    exact ⟨b, rfl, by rw [List.getElem?_map, e]; rfl⟩
  · rw [List.getElem?_map] at e2
    cases e3 : its[j]? with
    | none => rw [e3] at e2; cases e2
    | some v =>
      rw [e3] at e2
      obtain ⟨m', b', e4, rfl, e5⟩ := at_ j v e3
      cases e2
      rw [e1] at e4; cases e4
      exact e5
  · obtain ⟨o, es, ep, t, g1, g2, g3, g4, _, g6, _⟩ := hS
    have hl : H s.heap.objs.size = none := I.hok.fresh (Nat.le_refl _)
    refine ⟨.ref s.heap.objs.size, _, I.laid (t' := tk) hk (Nat.le_refl _) (show ObjOk X.prog X.w _ h' _ (SetN s.heap.objs.size (Tb.dd [] ms).length) from ⟨⟨o, es, ep, t, g1, g2, g3, g4.fits, g6⟩, ⟨o, g1⟩, fun h1 h2 z k => ?_⟩), rfl, q _ hl⟩
    obtain ⟨o', es', ep', t', y1, y⟩ := z
    exact ⟨o', es', ep', t', k _ y1, y⟩
theorem call_lenSet : CallR X (.builtin "len") (fun xs H Q => ∃ (a : Addr) (n : Nat), xs = [V.ref a] ∧ H a = some (SetN a n) ∧ n ≤ 1000 ∧ Q (.int n) H) := by
  intro pins s σ H xs us Q I r h
  obtain ⟨a, n, rfl, ha, hn, q⟩ := h
  obtain ⟨u, rfl, ru⟩ := vals1 r
  cases ru
  obtain ⟨⟨o, es, ep, t, g1, g2, g3, g4, g5⟩, _⟩ := (show ObjOk X.prog X.w H s.heap a (SetN a n) from I.hok a _ ha)
  refine call_len_set g1 g2 g3 g4 (by rw [g5]; omega) ?_
  rw [g5]
  exact ⟨.int n, H, I.tok _, ⟨_, rfl⟩, q⟩
end
end L3

namespace L3
open PySem PySem.Spec PyProof.Rows PySem.Calls L2
/-! ### names of the module, all(..), startswith -/
def GV (mg : Str → Option Value) (x : Str) (v : V) : Prop := ∃ u, mg x = some u ∧ RelV v u
section
variable {X : Cx}
theorem pe_gv {x : Str} {v : V} {pos : Pos} (h : GV X.mg x v) (hg : Gl X x := by rfl) (hd : (x == ("__debug__" : Str)) = false := by decide) : PE X (.Name x pos) (tC v) := by
  obtain ⟨u, h1, h2⟩ := h
  exact pe_glob hg h1 h2 hd
def rAllB (K : PySem.W.Frag) : List V → Hp → VK → Prop := fun xs H Q => ∃ (p : Addr) (bs : List Bool), xs = [.ref p] ∧ SqL K H p (bs.map V.bl) ∧ Q (.bl (bs.all id)) H
theorem all_range (bs : List Bool) : (List.range bs.length).all (fun i => bs.getD i true) = bs.all id := by
  apply Bool.eq_iff_iff.mpr
  rw [List.all_eq_true, List.all_eq_true]
  constructor
  · intro h b hb
    obtain ⟨i, hi, e⟩ := List.getElem_of_mem hb
    have := h i (List.mem_range.mpr hi)
    rw [List.getD_eq_getElem?_getD, List.getElem?_eq_getElem hi] at this
    rw [← e]; exact this
  · intro h i hi
    have hi' := List.mem_range.mp hi
    rw [List.getD_eq_getElem?_getD, List.getElem?_eq_getElem hi']
    exact h _ (List.getElem_mem hi')
theorem call_allB (hc : X.calm = true) : CallR X (.builtin "all") (rAllB X.K) := by
  intro pins s σ H xs us Q I r h
  obtain ⟨p, bs, rfl, hp, q⟩ := h
  obtain ⟨u, rfl, r1⟩ := vals1 r
  cases r1
  obtain ⟨its, rv, pl, hz⟩ := I.list hp
  have ll : its.length = bs.length := by have := rv.length; rw [List.length_map] at this; exact this.symm
  have nI : p ≠ s.heap.objs.size := by
    obtain ⟨o, e, _⟩ := pl.isList
    exact Nat.ne_of_lt (Heap.lt_size e)
  refine call_all_walk (wpAny_pyIter_list pl.isList ⟨s.heap.objs.size, [s.heap.objs.size, p], [s.heap.objs.size], its.toArray.size, _, _, fun i => bs.getD i true, rfl, Walks.list (A := X.A.in1) (show X.A.in1.handled = none from I.ok.hd hc) s.heap.objs.size p nI its.toArray, ⟨⟨_, Heap.get?_push_size _ rfl, rfl, rfl⟩, pl.isList.push _⟩, fun i v s' Q' E' pv hq => ?_, fun h' tk k => ?_⟩)
  · have pv : its.toArray[i]? = some v := pv
    rw [List.getElem?_toArray] at pv
    have hi : i < bs.length := by have := (List.getElem?_eq_some_iff.mp pv).1; omega
    obtain ⟨u, e1, e2⟩ := rv.get (i := i) (x := .bl bs[i]) (by rw [List.getElem?_map, List.getElem?_eq_getElem hi]; rfl)
    rw [pv] at e1; cases e1
    obtain rfl : v = Value.bool bs[i] := e2
    have : bs.getD i true = bs[i] := by rw [List.getD_eq_getElem?_getD, List.getElem?_eq_getElem hi]; rfl
    simp only [this] at hq
    exact wpAny_truthy_bool hq
  · rw [List.size_toArray, ll, all_range]
    refine ⟨.bl _, H, I.kept (t' := tk) fun b o e => k b o ?_ (Heap.get?_push_of_some _ e), rfl, q⟩
    have := Heap.lt_size e
    simp only [List.mem_singleton]
    exact Nat.ne_of_lt this
end
end L3

namespace L3
open PySem PySem.Spec PyProof.Rows PySem.Calls L2
/-! ### sorted(d), d a dict with tuples of ints for keys -/
section
variable {prog : Program} {w : World} {A : Around} {E : Value → Shared → Prop} {s : Shared} {T : String} {r d : Addr} {n : Nat} {P : Nat → Value → Prop} {OK : Heap → Prop}
/-- what is gathered, and that the heap has grown -/
theorem gather {R : List Value → Shared → Prop} (K : PySem.W.KdlSrc prog w T r d n P OK) (hh : A.handled = none) (hok : OK s.heap) (hz : n ≤ sizeLine)
    (q : ∀ (h1 : Heap) (tk : Nat) (acc : Array Value), (∀ b o, s.heap.get? b = some o → h1.get? b = some o) → s.heap.objs.size ≤ h1.objs.size → ItemsOf P acc n → R acc.toList { s with heap := h1, toks := tk }) :
    wpAny (model prog w) A (collect (.ref r)) R E s := by
  have lt := K.there _ hok
  unfold collect
  refine wpAny_bind (wpAny_runValue (codeAny_builtin entry_proto_collect' ?_))
  rw [Around.under_plainId PySem.F.plain_proto_collect _]
  refine (?_ : wpAny _ A.in1 (newList [] >>= fun l => again (.builtin "list.__iadd__" ⟨[l, .ref r], []⟩)) _ _ s)
  refine wpAny_bind (wpAny_newObj_type (wpAny_pure ⟨plainId_quiet PySem.F.plain_list_iadd _, codeAny_builtin entry_list_iadd' ?_⟩))
  rw [Around.under_plainId PySem.F.plain_list_iadd _]
  have g1 : (s.heap.push { cls := .type "list", data := .seq ([] : List Value).toArray }).get? s.heap.objs.size = some { cls := .type "list", data := .seq #[] } := Heap.get?_push_size _ rfl
  refine (?_ : wpAny _ A.in1 (Builtin.List.listExtendWith (.ref s.heap.objs.size) (.ref r) (.ref s.heap.objs.size)) _ _ _)
  have main := PySem.W.kdl_extend (A := A) (s := { s with heap := s.heap.push { cls := .type "list", data := .seq ([] : List Value).toArray } })
    (R := fun (x : Result) (t : Shared) => ∃ (h1 : Heap) (tk : Nat) (acc : Array Value) (c : Nat), x = .ok (.ret (.ref s.heap.objs.size)) ∧ t = { s with heap := h1, toks := tk } ∧
      (∀ b o, s.heap.get? b = some o → h1.get? b = some o) ∧ h1.get? s.heap.objs.size = some { cls := .type "list", dict := none, data := .seq acc c, slots := #[] } ∧ ItemsOf P acc n)
    K hh (K.keep _ _ hok fun b _ o e => Heap.get?_push_of_some _ e) s.heap.objs.size (Nat.ne_of_gt lt.1) (Nat.ne_of_gt lt.2) (.ref s.heap.objs.size) 0 g1
    (fun h1 tk acc c k g ia => ⟨h1, tk, acc, c, rfl, rfl, fun b o e => k b o (Nat.ne_of_lt (Heap.lt_size e)) (Heap.get?_push_of_some _ e), g, ia⟩) hz
  have fin : ∀ (h1 : Heap) (tk : Nat) (acc : Array Value) (c : Nat), (∀ b o, s.heap.get? b = some o → h1.get? b = some o) → h1.get? s.heap.objs.size = some { cls := .type "list", dict := none, data := .seq acc c, slots := #[] } → ItemsOf P acc n →
      wpAny (model prog w) A (do
        let o ← load s.heap.objs.size
        match o.data with
        | .seq xs _ => pure xs.toList
        | _ => unsupported "internal:collect") R E { s with heap := h1, toks := tk } := fun h1 tk acc c k g ia =>
    wpAny_bind (wpAny_load (s := { s with heap := h1, toks := tk }) g (wpAny_pure (q h1 tk acc k (Nat.le_of_lt (Heap.lt_size g)) ia)))
  refine wpAny_mono main (fun f t x => ?_) fun e t x => ?_
  · cases f with
    | done f =>
      obtain ⟨h1, tk, acc, c, e, rfl, k, g, ia⟩ := x
      cases e
      exact fin h1 tk acc c k g ia
    | again c1 =>
      refine ⟨x.1, codeAny_mono x.2 fun y t2 z => ?_⟩
      obtain ⟨h1, tk, acc, c, rfl, rfl, k, g, ia⟩ := z
      exact fin h1 tk acc c k g ia
  · obtain ⟨_, _, _, _, e', _⟩ := x
    cases e'
theorem sorted_anyD {vs : List Value} {Q : Value → Shared → Prop} {G : Keyed → Prop} {rk : Keyed → Int} (K : PySem.W.KdlSrc prog w T r d n P OK) (hh : A.handled = none) (hok : OK s.heap) (hz : n ≤ sizeLine)
    (hv : ∀ acc : Array Value, ItemsOf P acc n → acc.toList = vs) (hl : vs.length = n) (hg : ∀ v ∈ vs, G (v, v))
    (hK : ∀ h' tk A' E', (∀ b o, s.heap.get? b = some o → h'.get? b = some o) → 2 ≤ vs.length → ∃ κ, (∀ Q' : SortKind → Shared → Prop, Q' κ { s with heap := h', toks := tk } → wpAny (model prog w) A' (keyKind' vs.toArray) Q' E' { s with heap := h', toks := tk }) ∧ TS.Cm prog w A' E' { s with heap := h', toks := tk } κ G rk)
    (h : ∀ (out : List Value) l h' tk e, out.Perm vs → out.Pairwise (fun x y => rk (x, x) ≤ rk (y, y)) → (∀ b o, s.heap.get? b = some o → h'.get? b = some o) → s.heap.objs.size ≤ l → h'.get? l = some (seqObj "list" out.toArray e) → Q (.ref l) { s with heap := h', toks := tk }) :
    wpAny (model prog w) A (call (.builtin "sorted") [.ref r]) Q E s := by
  refine Calls.call_function_entry kind_sorted plain_sorted entry_sorted (args_sorted1 _) ?_
  unfold Builtin.«sorted»
  refine wpAny_bind (m := checkCount "sorted" 1 1 _) (wpAny_pure (wpAny_bind (gather (A := A.in1) K hh hok hz fun h1 tk acc k1 le ia => ?_)))
  have ea := hv acc ia
  rw [ea]
  refine wpAny_bind (wpAny_newList ?_ (by rw [hl]; exact hz))
  refine (?_ : wpAny _ _ _ _ _ { s with heap := h1.push (seqObj "list" vs.toArray 0), toks := tk })
  have e1 : (h1.push (seqObj "list" vs.toArray 0)).get? h1.objs.size = some (seqObj "list" vs.toArray 0) := Heap.get?_push_size _ rfl
  have k2 : ∀ b o, s.heap.get? b = some o → (h1.push (seqObj "list" vs.toArray 0)).get? b = some o := fun b o e => Heap.get?_push_of_some _ (k1 b o e)
  have ne : ∀ b o, s.heap.get? b = some o → b ≠ h1.objs.size := fun b o e => Nat.ne_of_lt (Heap.lt_size (k1 b o e))
  refine wpAny_bind (wpAny_holding (wpAny_call_entry slot_list_sort ⟨_, e1, rfl⟩ entry_list_sort (sort_list (G := G) (rk := rk) (s := { s with heap := h1.push (seqObj "list" vs.toArray 0), toks := tk }) e1 (by rw [hl]; exact hz) hg (fun h' k c => hK h' tk _ _ (fun b o e => k b o (ne b o e) (k2 b o e)) c) fun out h' e p q k ho => ⟨_, rfl, wpAny_pure ⟨_, rfl, ?_⟩⟩) (args_list_sort _)))
  exact h out _ h' tk e p q (fun b o z => k b o (ne b o z) (k2 b o z)) le ho
end
def rSortD (K : PySem.W.Frag) : List V → Hp → VK → Prop := fun xs H Q => ∃ (p : Addr) (kvs : List (List Key × V)) (ms : List (List Int)), xs = [.ref p] ∧ H p = some (.dT kvs) ∧ kvs.map (·.1) = ms.map keyT ∧ (∀ m ∈ ms, m ≠ []) ∧
  ∀ (l : Addr) (ns : List (List Int)) (zs : List V), H l = none → ns.Perm ms → ns.Pairwise (fun a b => llt b a = false) → Dens K (upd H l (.lst zs)) (ns.map itup) zs → Q (.ref l) (upd H l (.lst zs))
section
variable {X : Cx}
theorem call_sortD (hc : X.calm = true) : CallR X (.builtin "sorted") (rSortD X.K) := by
  intro pins s σ H xs us Q I r h
  obtain ⟨p, kvs, ms, rfl, hp, hkv, hne, q⟩ := h
  obtain ⟨u, rfl, r1⟩ := vals1 r
  cases r1
  obtain ⟨z, lo, zs, rel, o, es, ep, e1, e2, e3, e4, e5⟩ := (show ObjOk X.prog X.w H s.heap p (.dT kvs) from I.hok p _ hp)
  have hsz : es.size = kvs.length := by
    rw [← Array.length_toList, e4, List.length_map]; exact (Paired.length rel).symm
  -- the keys' addresses
  have hk : KeysAt H (kvs.map (·.1)) (zs.map fun x => V.ref x.2.1) := by
    unfold KeysAt
    clear q z hsz e4 e5 hkv hp
    induction rel with
    | nil => exact .nil
    | cons hq t ih => exact .cons ⟨_, rfl, by rw [← hq.2.1]⟩ ih
  have rv : Vals (zs.map fun x => V.ref x.2.1) (zs.map fun x => Value.ref x.2.1) := by
    clear q z hsz e4 e5 hk rel
    induction zs with
    | nil => exact .nil
    | cons x t ih => exact .cons rfl ih
  rw [hkv] at hk
  have hd := keys_dens (K := X.K) hk
  generalize eits : (zs.map fun x => Value.ref x.2.1) = its at rv
  generalize (zs.map fun x => V.ref x.2.1) = ys at rv hd
  have em := ints_of_dens I hd rv
  have at_ : ∀ v ∈ its, ∃ m y a o xs n, m ∈ ms ∧ Den X.K H (itup m) y ∧ y = .ref a ∧ v = .ref a ∧ s.heap.get? a = some o ∧ o.cls = .type "tuple" ∧ o.data = .seq xs n ∧ IntsAre xs.toList m ∧ intsAt s.heap v = m := fun v hv => by
    obtain ⟨m, y, f1, f2, f3⟩ := dens_at hd rv hv
    obtain ⟨a, o, xs, n, f⟩ := tup_at I f2 f3
    exact ⟨m, y, a, o, xs, n, f1, f2, f⟩
  have il : its.length = es.size := by rw [← eits, List.length_map, ← Array.length_toList, e4, List.length_map]
  refine sorted_anyD (raw_src lo) (I.ok.hd hc) (s := s) (vs := its) (G := fun p => p.1 ∈ its) (rk := fun p => rankL (its.map (intsAt s.heap)) (intsAt s.heap p.1)) ⟨o, e1, e2, e3⟩ (by rw [hsz]; exact z) (fun acc it => ?_) il (fun v hv => hv) (fun h' tk A' E' k c => ?_) fun out l h' tk e op ow k le ho => ?_
  · rw [← eits]
    refine List.ext_getElem? fun i => ?_
    rw [Array.getElem?_toList]
    by_cases hi : i < es.size
    · have ha' : i < acc.size := by rw [it.1]; exact hi
      obtain ⟨en, f1, f2⟩ := it.2 i acc[i] (Array.getElem?_eq_getElem ha')
      rw [Array.getElem?_eq_getElem ha', f2]
      rw [← Array.getElem?_toList, e4, List.getElem?_map] at f1
      rw [List.getElem?_map]
      cases g : zs[i]? with
      | none => rw [g] at f1; cases f1
      | some x => rw [g] at f1; cases f1; rfl
    · rw [Array.getElem?_eq_none (by rw [it.1]; omega), List.getElem?_map, List.getElem?_eq_none (by have := Paired.length rel; omega)]; rfl
  · -- what is compared
    obtain ⟨fs, f1, f2, f3⟩ := tups_of (h := h') (vs := its) fun v hv => by
      obtain ⟨m, y, a, o, xs, n, f1, f2, rfl, rfl, f3, f4, f5, f6, f7⟩ := at_ v hv
      cases xs with
      | mk l =>
        cases f6 with
        | nil => exact absurd rfl (hne _ f1)
        | cons x t g => exact ⟨a, o, _, n, t, x, rfl, k _ _ f3, f4, f5, rfl⟩
    refine ⟨tuples' true, fun Q' hq => ?_, cm_of fun x y Q' E2 gx gy hq => ?_⟩
    · exact PySem.W.kat_kind (T := .type "int") (s := { s with heap := h', toks := tk }) f1 (by omega) (fun v hv => by obtain ⟨z, t, rfl⟩ := f3 v hv; exact looks_int z t) (by decide) hq
    · obtain ⟨m1, _, a1, o1, xs1, n1, _, _, _, ea1, g3, g4, g5, g6, g7⟩ := at_ _ gx
      obtain ⟨m2, _, a2, o2, xs2, n2, _, _, _, ea2, k3, k4, k5, k6, k7⟩ := at_ _ gy
      rw [rank_iff (List.mem_map.mpr ⟨_, gx, rfl⟩), g7, k7] at hq
      rw [ea1, ea2]
      refine PySem.W.kat_lt (s := { s with heap := h', toks := tk }) (k _ _ g3) g5 (k _ _ k3) k5 (lex_walk 0 g6 k6 ?_ hq)
      have l1 := g6.length
      have l2 := k6.length
      rw [Array.length_toList] at l1 l2
      omega
  · -- the new list
    have hre : ∀ v ∈ out, v ∈ its := fun v hv => op.mem_iff.mp hv
    have hvr : Vals (out.map refV) out := vals_ref fun v hv => by
      obtain ⟨_, _, a, _, _, _, _, _, _, e, _⟩ := at_ v (hre v hv); exact ⟨a, e⟩
    have hl : H l = none := I.hok.fresh le
    have ol : (out.map refV).length ≤ sizeLine := by rw [List.length_map, op.length_eq, il, hsz]; exact z
    refine ⟨.ref l, upd H l (.lst (out.map refV)), I.laid (t' := tk) k le (show ObjOk X.prog X.w _ h' _ (.lst (out.map refV)) from ⟨ol, out, e, hvr, ho⟩), rfl, ?_⟩
    refine q _ (out.map (intsAt s.heap)) _ hl ((op.map _).trans (List.Perm.of_eq em)) ?_ ?_
    · refine List.pairwise_map.mpr (List.Pairwise.imp_of_mem (fun {x y} hx hy hle => ?_) ow)
      have := rank_iff (L := its.map (intsAt s.heap)) (a := intsAt s.heap y) (b := intsAt s.heap x) (List.mem_map.mpr ⟨y, hre y hy, rfl⟩)
      rw [← this]
      have hle' : rankL (its.map (intsAt s.heap)) (intsAt s.heap x) ≤ rankL (its.map (intsAt s.heap)) (intsAt s.heap y) := hle
      exact decide_eq_false (by omega)
    · have all : ∀ (k : List Value), (∀ v ∈ k, v ∈ its) → Dens X.K (upd H l (.lst (out.map refV))) ((k.map (intsAt s.heap)).map itup) (k.map refV) := by
        intro k
        induction k with
        | nil => intro _; exact Dens.nil
        | cons v k ih =>
          intro hv
          obtain ⟨m, y, a, o, xs, n, f1, f2, rfl, rfl, f3, f4, f5, f6, f7⟩ := at_ v (hv v (by simp))
          rw [List.map_cons, List.map_cons, List.map_cons]
          refine Dens.cons ?_ (ih fun u hu => hv u (List.mem_cons_of_mem _ hu))
          rw [f7]
          exact Den.same (same_new hl _) _ _ f2
      exact all out hre
end
end L3

namespace Tw
open PySem L2 L3
def top (i : Nat) : Stmt := PySem.Challenge.pw_twoline_k08_nearest_points.main.body.getD i (.Pass ⟨0, 0, 0, 0⟩)
abbrev s_greatest_divisor : Stmt := top 5
abbrev s_fraction : Stmt := top 6
abbrev s_line_of : Stmt := top 7
abbrev s_offset : Stmt := top 8
abbrev s_on : Stmt := top 9
abbrev s_gap : Stmt := top 10
abbrev s_is_point : Stmt := top 15
abbrev s_are_points : Stmt := top 16
abbrev s_refuse_bad : Stmt := top 17
abbrev s_lines_of_pairs : Stmt := top 19
abbrev s_places_on : Stmt := top 20
abbrev s_lines : Stmt := top 21
abbrev s_gaps_off_lines : Stmt := top 22
abbrev s_is_smaller : Stmt := top 23
abbrev s_nearest : Stmt := top 24
abbrev t_cell_at : Stmt := top 26
abbrev t_whole : Stmt := top 27
abbrev t_point_by : Stmt := top 28
abbrev t_points_by : Stmt := top 29
abbrev t_set : Stmt := top 30
abbrev t_divisor : Stmt := top 31
abbrev t_low : Stmt := top 32
abbrev t_line : Stmt := top 33
abbrev t_on : Stmt := top 34
abbrev t_is_tuple : Stmt := top 35
abbrev t_lines : Stmt := top 36
abbrev t_gap : Stmt := top 37
abbrev t_least : Stmt := top 38
abbrev t_law : Stmt := top 39
end Tw
namespace Tw
open PySem L2 L3
/-- what law(script) promises: for a list of at most 63 ints the answer is True -/
def spLaw (K : PySem.W.Frag) : Sp := fun vs H Q _ => ∃ (a : Addr) (ns : List Int), vs = [.ref a] ∧ SqL K H a (ns.map V.int) ∧ ns.length ≤ 63 ∧ ∀ H', Q (.bl true) H'
theorem walk {l : PySem.W.OpenLaw} {k : Nat} {q : Program} {loose : List Str} {XP : (Str → Option Value) → Heap → Prop} {YP : World → Heap → Prop} {d : DefRec} {K : Params → PySem.W.Frag} (hn : l.most = some 63) (hdf : d.params.defaults = []) (hr : Room k callerA)
    (hY : ∀ (w : World) (h : Heap), YP w h → (K w.params).In h)
    (F : ∀ (w : World) (mg : Str → Option Value) (fa : Addr) (h : Heap), (K w.params).In h → h.Ns mainGlobals mg → mg d.name = some (.ref fa) →
      ∃ fd : FuncData, (∀ (s : Shared) (u : Value), BindsTo s fd ⟨[u], []⟩ [("script", u)]) ∧ ∀ base : Heap, (K w.params).In base → base.Ns mainGlobals mg → FnOk l.prog w (K w.params) mg base (CXE l.prog w) k fa fd ["script"] (spLaw (K w.params))) :
    PySem.W.WalkO q loose XP YP l.row.toRowW d [] (fun f vs => PySem.call f vs) :=
  L2.walk_of (n := 63) (k := k) (x := "script") (CX := fun w => CXE l.prog w) (sp := fun w => spLaw (K w.params)) hn (by decide) hdf hr hY F (fun _ _ a ns hl _ hS => ⟨a, ns, rfl, hS, hl, fun _ => rfl⟩) fun _ _ _ _ _ z => cxe_no z
end Tw

namespace Tw
open PySem L2 L3
/-- a reader with a default, of a list of ints -/
def spCell (K : PySem.W.Frag) : Sp := fun vs H Q _ => ∃ (a : Addr) (ns : List Int) (k : Int), vs = [.ref a, .int k] ∧ SqL K H a (ns.map V.int) ∧ 0 ≤ k ∧ Q (.int (Ma.cell ns k)) H
section
variable {P : Program} {w : World} {K : PySem.W.Frag} {mg : Str → Option Value} {base : Heap}
theorem sc_cell_at : FnScope ["script", "k"] ["script", "k"] (defScope t_cell_at) := ⟨rfl, rfl, rfl, by decide +kernel, rfl, by decide +kernel, by decide +kernel⟩
theorem c_cell_at (S : Src K mg "_law_cell_at" t_cell_at) (m_len : mg "len" = none) : Cal P w K mg base 1 "_law_cell_at" ["script", "k"] (spCell K) := by
  refine S.cal (fun f fd F => okN F sc_cell_at (fun vs H Q E h => ?_) (fun cdv A outer s H vs Q E hr h => ?_)) (fun _ _ _ _ _ _ us hl => match us, hl with | [_, _], _ => rfl)
  · obtain ⟨a, ns, k, rfl, _⟩ := h
    rfl
  obtain ⟨a, ns, k, rfl, hS, h0, q⟩ := h
  refine ⟨_, pss_cons (ps_if (cmp op_lt (pv 1) (callB b_len call_len_seq m_len (a1 (pv 0)))) (pss_one (ps_ret (ixL (pv 0) (pv 1)))) pss_nil) (pss_one (ps_ret pe_int)), ?_⟩
  refine ⟨_, rfl, _, rfl, a, _, rfl, .inl hS, _, _, rfl, rfl, _, rfl, ite2 (fun c => ?_) (fun c => ?_)⟩
  · have c' : k < ((ns.map V.int).length : Int) := of_decide_eq_true c
    rw [List.length_map] at c'
    have hk : k.toNat < ns.length := by omega
    have e : k = ((k.toNat : Nat) : Int) := by omega
    refine ⟨_, rfl, _, rfl, a, _, k, .int (Ma.cell ns k), rfl, rfl, hS, ?_, q⟩
    rw [e]
    refine atI_nat ?_
    rw [List.getElem?_map, List.getElem?_eq_getElem hk]
    show some (V.int ns[k.toNat]) = some (V.int (ns.getD _ 0))
    rw [← e, List.getD_eq_getElem?_getD, List.getElem?_eq_getElem hk]
    rfl
  · have c' : ¬ k < ((ns.map V.int).length : Int) := of_decide_eq_false (Bool.eq_false_iff.mpr c)
    rw [List.length_map] at c'
    have z : Ma.cell ns k = 0 := by
      unfold Ma.cell
      rw [List.getD_eq_getElem?_getD, List.getElem?_eq_none (by omega)]
      rfl
    rw [z] at q
    exact q
end
end Tw

namespace Tw
open PySem L2 L3
def spPt (K : PySem.W.Frag) : Sp := fun vs H Q _ => ∃ a b y : Int, vs = [.int a, .int b, .int y] ∧ ∀ v H', Same H H' → Den K H' (Ma.pt (Ma.ptBy a b y)) v → Q v H'
theorem vint {a b : Int} (h : V.int a = V.int b) : a = b := V.int.inj h
theorem dint {a b : Int} : decide (V.int a = V.int b) = decide (a = b) := by
  by_cases h : a = b
  · subst h; simp
  · simp [h]
theorem c_small {i j : Int} (h : -(2 ^ 64) < i ∧ i < 2 ^ 64) : CMul i j := .inl h
section
variable {P : Program} {w : World} {K : PySem.W.Frag} {mg : Str → Option Value} {base : Heap}
theorem sc_l_point_by : FnScope ["one", "two", "way", "step"] ["one", "two", "way"] (defScope t_point_by) := ⟨rfl, rfl, rfl, by decide +kernel, rfl, by decide +kernel, by decide +kernel⟩
theorem c_point_by (S : Src K mg "_law_point_by" t_point_by) : Cal P w K mg base 1 "_law_point_by" ["one", "two", "way"] (spPt K) := by
  refine S.cal (fun f fd F => okN F sc_l_point_by (fun vs H Q E h => ?_) (fun cdv A outer s H vs Q E hr h => ?_)) (fun _ _ _ _ _ _ us hl => match us, hl with | [_, _, _], _ => rfl)
  · obtain ⟨a, b, y, rfl, _⟩ := h
    rfl
  obtain ⟨a, b, y, rfl, q⟩ := h
  have nd := sc_l_point_by.nd
  refine ⟨_, (pss_cons (ps_if (cmp op_eq (pv 2) pe_int) (pss_one (ps_ret (pe_tup (a2 (pe_op op_mod (pv 0) pe_int) (pe_op op_mod (pv 1) pe_int))))) pss_nil)
      (pss_cons (ps_if (cmp op_eq (pv 2) pe_int) (pss_one (ps_ret (pe_tup (a2 (pe_op op_sub (pe_op op_mod (pv 0) pe_int) pe_int) (pe_op op_sub (pe_op op_mod (pv 1) pe_int) pe_int))))) pss_nil)
      (pss_cons (ps_if (cmp op_eq (pv 2) pe_int) (pss_one (ps_ret (pe_tup (a2 (pe_op op_sub (pe_op op_mod (pv 0) pe_int) pe_mil) (pe_op op_sub (pe_op op_mod (pv 1) pe_int) pe_mil))))) pss_nil)
      (pss_cons (ps_if (cmp op_eq (pv 2) pe_int) (pss_one (ps_ret (pe_tup (a2 (pe_op op_sub (pe_op op_mod (pv 0) pe_int) pe_int) (pe_op op_add (pe_op op_add (pe_op op_mul pe_int (pe_op op_sub (pe_op op_mod (pv 0) pe_int) pe_int)) (pe_op op_mul pe_int (pe_op op_mod (pv 1) pe_int))) pe_int))))) pss_nil)
      (pss_cons (ps_if (cmp op_eq (pv 2) pe_int) (pss_one (ps_ret (pe_tup (a2 (ixL (pe_lst (pa_cons pe_mil (pa_cons pe_nmil (pa_cons pe_int (pa_cons (pe_op op_sub pe_mil pe_int) pa_nil))))) (pe_op op_mod (pv 0) pe_int)) (ixL (pe_lst (pa_cons pe_mil (pa_cons pe_nmil (pa_cons pe_int (pa_cons (pe_op op_mod (pv 1) pe_int) pa_nil))))) (pe_op op_mod (pv 1) pe_int)))))) pss_nil)
      (pss_cons (sset 3 nd (pe_op op_sub (pe_op op_mod (pv 0) pe_int) pe_int))
      (pss_cons (ps_if (cmp op_eq (pe_op op_mod (pv 1) pe_int) pe_int) (pss_one (ps_ret (pe_tup (a2 (pe_op op_mul pe_int (pv 3)) (pe_op op_add (pe_op op_mul pe_int (pv 3)) pe_int))))) pss_nil)
      (pss_cons (ps_if (cmp op_eq (pe_op op_mod (pv 1) pe_int) pe_int) (pss_one (ps_ret (pe_tup (a2 (pe_op op_mul pe_int (pv 3)) (pe_op op_sub pe_int (pe_op op_mul pe_int (pv 3))))))) pss_nil)
      (pss_one (ps_ret (pe_tup (a2 (pe_op op_mul pe_int (pv 3)) (pe_op op_sub pe_int (pe_op op_mod (pe_op op_fdiv (pv 1) pe_int) pe_int)))))))))))))), ?_⟩
  have p4 : (0 : Int) < 4 := by decide
  have p7 : (0 : Int) < 7 := by decide
  have p3 : (0 : Int) < 3 := by decide
  have p9 : (0 : Int) < 9 := by decide
  have p41 : (0 : Int) < 41 := by decide
  have pB : (0 : Int) < 2000001 := by decide
  have p2 : (0 : Int) < 2 := by decide
  have p5 : (0 : Int) < 5 := by decide
  have S0 : Same H H := Same.refl H
  refine ⟨_, rfl, rfl, _, rfl, ite2 (fun c => ?_) (fun c => ?_)⟩
  · have e : y = 0 := vint (of_decide_eq_true c)
    refine ⟨_, rfl, _, _, rfl, rfl, p4, _, rfl, _, _, rfl, rfl, p4, tup2 S0 q ?_ ?_⟩ <;> simp only [Ma.ptBy, e, if_pos]
  have n0 : ¬ y = 0 := fun z => c (decide_eq_true (congrArg V.int z))
  refine ⟨_, rfl, rfl, _, rfl, ite2 (fun c => ?_) (fun c => ?_)⟩
  · have e : y = 1 := vint (of_decide_eq_true c)
    refine ⟨_, rfl, _, _, rfl, rfl, p7, _, _, rfl, rfl, _, rfl, _, _, rfl, rfl, p3, _, _, rfl, rfl, tup2 S0 q ?_ ?_⟩ <;> simp [Ma.ptBy, e]
  have n1 : ¬ y = 1 := fun z => c (decide_eq_true (congrArg V.int z))
  refine ⟨_, rfl, rfl, _, rfl, ite2 (fun c => ?_) (fun c => ?_)⟩
  · have e : y = 2 := vint (of_decide_eq_true c)
    refine ⟨_, rfl, _, _, rfl, rfl, pB, _, _, rfl, rfl, _, rfl, _, _, rfl, rfl, pB, _, _, rfl, rfl, tup2 S0 q ?_ ?_⟩ <;> simp [Ma.ptBy, e]
  have n2 : ¬ y = 2 := fun z => c (decide_eq_true (congrArg V.int z))
  refine ⟨_, rfl, rfl, _, rfl, ite2 (fun c => ?_) (fun c => ?_)⟩
  · have e : y = 3 := vint (of_decide_eq_true c)
    refine ⟨_, rfl, _, _, rfl, rfl, p41, _, _, rfl, rfl, _, rfl, _, _, rfl, rfl, p41, _, _, rfl, rfl, _, _, rfl, rfl, c_small (by decide), _, rfl, _, _, rfl, rfl, p2, _, _, rfl, rfl, c_small (by decide), _, _, rfl, rfl, _, _, rfl, rfl, tup2 S0 q ?_ ?_⟩ <;> simp [Ma.ptBy, e]
  have n3 : ¬ y = 3 := fun z => c (decide_eq_true (congrArg V.int z))
  refine ⟨_, rfl, rfl, _, rfl, ite2 (fun c => ?_) (fun c => ?_)⟩
  · have e : y = 4 := vint (of_decide_eq_true c)
    refine ⟨_, _, rfl, rfl, (by show 4 ≤ sizeLine; decide), fun l1 f1 => ?_⟩
    refine ⟨_, rfl, _, _, rfl, rfl, p4, l1, _, _, _, rfl, rfl, SqL.of upd_same, atI4 _ _ _ _ (Ma.four a), ?_⟩
    refine ⟨_, rfl, _, _, rfl, rfl, p9, (by show 4 ≤ sizeLine; decide), fun l2 f2 => ?_⟩
    refine ⟨_, rfl, _, _, rfl, rfl, p4, l2, _, _, _, rfl, rfl, SqL.of upd_same, atI4 _ _ _ _ (Ma.four b), tup2 ((same_new f1 _).trans (same_new f2 _)) q ?_ ?_⟩ <;> simp [Ma.ptBy, e]
  have n4 : ¬ y = 4 := fun z => c (decide_eq_true (congrArg V.int z))
  have e5 : Ma.ptBy a b y = if b % 3 = 0 then (250000 * (a % 9 - 4), 100000 * (a % 9 - 4) + 7) else if b % 3 = 1 then (100000 * (a % 9 - 4), 7 - 200000 * (a % 9 - 4)) else (1000 * (a % 9 - 4), 999999 - b / 3 % 5) := by
    unfold Ma.ptBy
    rw [if_neg n0, if_neg n1, if_neg n2, if_neg n3, if_neg n4]
  rw [e5] at q
  refine ⟨_, rfl, _, _, rfl, rfl, p9, _, _, rfl, rfl, ?_⟩
  refine ⟨_, rfl, _, _, rfl, rfl, p3, rfl, _, rfl, ite2 (fun c => ?_) (fun c => ?_)⟩
  · have e : b % 3 = 0 := vint (of_decide_eq_true c)
    rw [if_pos e] at q
    exact ⟨_, rfl, _, _, rfl, rfl, c_small (by decide), _, rfl, _, _, rfl, rfl, c_small (by decide), _, _, rfl, rfl, tup2 S0 q rfl rfl⟩
  have m0 : ¬ b % 3 = 0 := fun z => c (decide_eq_true (congrArg V.int z))
  rw [if_neg m0] at q
  refine ⟨_, rfl, _, _, rfl, rfl, p3, rfl, _, rfl, ite2 (fun c => ?_) (fun c => ?_)⟩
  · have e : b % 3 = 1 := vint (of_decide_eq_true c)
    rw [if_pos e] at q
    exact ⟨_, rfl, _, _, rfl, rfl, c_small (by decide), _, rfl, _, _, rfl, rfl, c_small (by decide), _, _, rfl, rfl, tup2 S0 q rfl rfl⟩
  have m1 : ¬ b % 3 = 1 := fun z => c (decide_eq_true (congrArg V.int z))
  rw [if_neg m1] at q
  exact ⟨_, rfl, _, _, rfl, rfl, c_small (by decide), _, rfl, _, _, rfl, rfl, ⟨by decide, by decide⟩, _, _, rfl, rfl, p5, _, _, rfl, rfl, tup2 S0 q rfl rfl⟩
end
end Tw

namespace Tw
open PySem L2 L3
/-- a list of points of one's own, new behind H -/
def NewPts (K : PySem.W.Frag) (H H' : Hp) (r : Addr) (ps : List Ma.Pt) : Prop := ∃ xs, H r = none ∧ H' r = some (.lst xs) ∧ Dens K H' (ps.map Ma.pt) xs
def spPts (K : PySem.W.Frag) : Sp := fun vs H Q _ => ∃ (a : Addr) (ns : List Int) (st n y : Int), vs = [.ref a, .int st, .int n, .int y] ∧ SqL K H a (ns.map V.int) ∧ 0 ≤ st ∧ st ≤ 1000 ∧ 0 ≤ n ∧ n ≤ 1000 ∧
  ∀ r H', Same H H' → NewPts K H H' r (Ma.ptsBy ns st n.toNat y) → Q (.ref r) H'
section
variable {P : Program} {w : World} {K : PySem.W.Frag} {mg : Str → Option Value} {base : Heap}
/-- one point more, where it is not there yet -/
theorem put_pt {H H2 : Hp} {r : Addr} {xs : List V} {ps : List Ma.Pt} {v : V} {p : Ma.Pt} (hs : Same H H2) (hr : H r = none) (h2 : H2 r = some (.lst xs)) (hd : Dens K H2 (ps.map Ma.pt) xs) (hv : Den K H2 (Ma.pt p) v) :
    Same H (upd H2 r (.lst (xs ++ [v]))) ∧ (upd H2 r (.lst (xs ++ [v]))) r = some (.lst (xs ++ [v])) ∧ Dens K (upd H2 r (.lst (xs ++ [v]))) ((ps ++ [p]).map Ma.pt) (xs ++ [v]) := by
  refine ⟨fun b o e => ?_, upd_same, ?_⟩
  · rw [upd_ne (ne_of_none e hr)]; exact hs b o e
  · rw [List.map_append]
    exact Dens.append (Dens.upd h2 _ _ (Ma.nols_pts ps) hd) (Dens.cons (Den.upd h2 _ _ (Ma.nol_pt p) hv) Dens.nil)
theorem sc_l_points_by : FnScope ["script", "start", "count", "way", "points", "k", "point", "more"] ["script", "start", "count", "way"] (defScope t_points_by) := ⟨rfl, rfl, rfl, by decide +kernel, rfl, by decide +kernel, by decide +kernel⟩
theorem c_points_by (S : Src K mg "_law_points_by" t_points_by) (m_len : mg "len" = none) (m_range : mg "range" = none) (k_cell_at : Cal P w K mg base 1 "_law_cell_at" ["script", "k"] (spCell K)) (k_point_by : Cal P w K mg base 1 "_law_point_by" ["one", "two", "way"] (spPt K)) :
    Cal P w K mg base 2 "_law_points_by" ["script", "start", "count", "way"] (spPts K) := by
  refine S.cal (fun f fd F => okN F sc_l_points_by (fun vs H Q E h => ?_) (fun cdv A outer s H vs Q E hr h => ?_)) (fun _ _ _ _ _ _ us hl => match us, hl with | [_, _, _, _], _ => rfl)
  · obtain ⟨a, ns, st, n, y, rfl, _⟩ := h
    rfl
  obtain ⟨a, ns, st, n, y, rfl, hS, hst0, hst, hn0, hn, q⟩ := h
  have nd := sc_l_points_by.nd
  have hu : (A.deeper (PyProof.Rows.envOfC "_law_points_by" (defScope t_points_by) s.heap.objs.size f cdv)).units + 40 < cLine := by have := hr.units; omega
  refine ⟨_, (pss_cons (sset 4 nd (pe_lst pa_nil))
      (pss_cons (ps_for PassesOwn.never rfl (pi_range1 rfl m_range (a1 (pv 2))) (pg_name (i := 5) nd rfl (by first | exact Or.inl rfl | exact Or.inr rfl)) (pss_cons (sset 6 nd (pe_c k_point_by hr (a3 (pe_c k_cell_at hr (a2 (pv 0) (pe_op op_add (pv 1) (pe_op op_mul pe_int (pv 5))))) (pe_c k_cell_at hr (a2 (pv 0) (pe_op op_add (pe_op op_add (pv 1) (pe_op op_mul pe_int (pv 5))) pe_int))) (pv 3))))
      (pss_one (ps_if (cmp (op_notinD hu) (pv 6) (pv 4)) (pss_one (ps_expr (pe_bm PySem.F.plainAttrs_list PySem.F.slot_list_append PySem.F.type_list_append mt_append (pv 4) (a1 (pv 6))))) pss_nil))))
      (pss_cons (ps_for PassesOwn.never rfl (pi_list (pe_lst (a2 (pe_tup (a2 pe_int pe_int)) (pe_tup (a2 pe_int pe_int))))) (pg_name (i := 7) nd rfl (by first | exact Or.inl rfl | exact Or.inr rfl)) (pss_one (ps_if (PW.pt (pw_and (cmp op_lt (callB b_len call_len_seq m_len (a1 (pv 4))) pe_int) (pw_and1 (cmp (op_notinD hu) (pv 7) (pv 4))))) (pss_one (ps_expr (pe_bm PySem.F.plainAttrs_list PySem.F.slot_list_append PySem.F.type_list_append mt_append (pv 4) (a1 (pv 7))))) pss_nil)))
      (pss_one (ps_ret (pv 4)))))), ?_⟩
  refine ⟨(by show 0 ≤ sizeLine; decide), fun r f0 => ?_⟩
  refine ⟨_, rfl, n, rfl, by omega, by omega, for_range (n := n.toNat) (fun i σ H2 => ∃ (o1 o2 : Option V) (xs : List V), σ = [some (.ref a), some (.int st), some (.int n), some (.int y), some (.ref r), o1, o2, none] ∧ Same H H2 ∧ H2 r = some (.lst xs) ∧ Dens K H2 ((Ma.ptsN ns st y i).map Ma.pt) xs)
    ⟨none, none, [], rfl, same_new f0 _, upd_same, Dens.nil⟩ ?_ ?_⟩
  · rintro i σ H2 hi ⟨o1, o2, xs, rfl, hs2, hr2, hd2⟩
    have e0 : (0 : Int) + (i : Int) = (i : Int) := Int.zero_add _
    rw [e0]
    have hS2 := hs2.seq hS
    refine ⟨_, rfl, _, rfl, _, rfl, _, _, rfl, rfl, c_small (by decide), _, _, rfl, rfl, a, ns, _, rfl, hS2, by omega, ?_⟩
    refine ⟨_, rfl, _, rfl, _, rfl, _, _, rfl, rfl, c_small (by decide), _, _, rfl, rfl, _, _, rfl, rfl, a, ns, _, rfl, hS2, by omega, ?_⟩
    refine ⟨_, rfl, _, _, _, rfl, fun v H3 hs3 hv => ?_⟩
    have hd3 := Dens.same hs3 _ _ hd2
    have hr3 := hs3 _ _ hr2
    refine ⟨_, rfl, _, rfl, _, _, r, xs, rfl, .inl (SqL.of hr3), hd3, hv, Ma.shp_pt _, Ma.shp_pts _, _, rfl, ?_⟩
    have hlen : xs.length ≤ 1000 := by
      have h1 := Dens.length hd3
      have h2 := Ma.ptsN_len ns st y i
      rw [List.length_map] at h1
      omega
    refine ite2 (fun c => ?_) (fun c => ?_)
    · have c' : Ma.ptBy (Ma.cell ns (st + 2 * (i : Int))) (Ma.cell ns (st + 2 * (i : Int) + 1)) y ∉ Ma.ptsN ns st y i := by
        intro z
        rw [Ma.any_pt, decide_eq_true z] at c
        cases c
      refine ⟨_, rfl, .inl ⟨rfl, _, SqL.of hr3⟩, _, rfl, r, xs, _, rfl, rfl, hr3, Nat.lt_of_le_of_lt hlen (by decide), ?_⟩
      obtain ⟨g1, g2, g3⟩ := put_pt (hs2.trans hs3) f0 hr3 hd3 hv
      refine ⟨_, _, _, rfl, g1, g2, ?_⟩
      have e1 : Ma.ptsN ns st y (i + 1) = Ma.ptsN ns st y i ++ [Ma.ptBy (Ma.cell ns (st + 2 * (i : Int))) (Ma.cell ns (st + 2 * (i : Int) + 1)) y] := if_neg c'
      rw [e1]
      exact g3
    · have c' : Ma.ptBy (Ma.cell ns (st + 2 * (i : Int))) (Ma.cell ns (st + 2 * (i : Int) + 1)) y ∈ Ma.ptsN ns st y i := by
        refine Classical.byContradiction fun z => c ?_
        rw [Ma.any_pt, decide_eq_false z]
        rfl
      refine ⟨_, _, _, rfl, hs2.trans hs3, hr3, ?_⟩
      have e1 : Ma.ptsN ns st y (i + 1) = Ma.ptsN ns st y i := if_pos c'
      rw [e1]
      exact hd3
  · rintro σ H2 ⟨o1, o2, xs, rfl, hs2, hr2, hd2⟩
    -- the two spare points
    refine ⟨(by show 2 ≤ sizeLine; decide), fun t1 f1 => ⟨(by show 2 ≤ sizeLine; decide), fun t2 f2 => ⟨(by show 2 ≤ sizeLine; decide), fun l f3 => ?_⟩⟩⟩
    have g1 := (same_new f1 (.tup [.int 7, .int 11])).trans ((same_new f2 (.tup [.int 8, .int 11])).trans (same_new f3 (.lst [.ref t1, .ref t2])))
    generalize hH3 : upd (upd (upd H2 t1 (.tup [.int 7, .int 11])) t2 (.tup [.int 8, .int 11])) l (.lst [.ref t1, .ref t2]) = H3 at g1
    have e1 : H3 t1 = some (.tup [.int 7, .int 11]) := by rw [← hH3]; exact same_new f3 _ _ _ (same_new f2 _ _ _ upd_same)
    have e2 : H3 t2 = some (.tup [.int 8, .int 11]) := by rw [← hH3]; exact same_new f3 _ _ _ upd_same
    have e3 : H3 l = some (.lst [.ref t1, .ref t2]) := by rw [← hH3]; exact upd_same
    have hr3 := g1 _ _ hr2
    have nlr : l ≠ r := fun z => by
      have h1 := same_new f2 (.tup [.int 8, .int 11]) _ _ (same_new f1 (.tup [.int 7, .int 11]) _ _ hr2)
      rw [z, h1] at f3; cases f3
    refine ⟨l, rfl, ⟨_, SqL.of e3⟩, for_list (K := K) (a := l) (xs := [.ref t1, .ref t2]) (fun i σ H4 => ∃ (o1 o2 o3 : Option V) (ys : List V) (ps : List Ma.Pt), σ = [some (.ref a), some (.int st), some (.int n), some (.int y), some (.ref r), o1, o2, o3] ∧ Same H H4 ∧ (∀ b o, b ≠ r → H3 b = some o → H4 b = some o) ∧ H4 r = some (.lst ys) ∧ Dens K H4 (ps.map Ma.pt) ys ∧ ps.length ≤ 1000 + i ∧
        ps = Ma.stage (Ma.ptsN ns st y n.toNat) i)
      ⟨_, _, _, xs, Ma.ptsN ns st y n.toNat, rfl, hs2.trans g1, fun b o _ e => e, hr3, Dens.same g1 _ _ hd2, (by have := Ma.ptsN_len ns st y n.toNat; omega), rfl⟩ (fun i σ H4 _ z => ?_) ?_ ?_⟩
    · obtain ⟨_, _, _, _, _, _, _, z, _⟩ := z
      exact SqL.of (z l _ nlr e3)
    · rintro i x σ H4 hx ⟨o1, o2, o3, ys, ps, rfl, hs4, k4, hr4, hd4, hl4, ep⟩
      have hi : i = 0 ∨ i = 1 := by
        have := (List.getElem?_eq_some_iff.mp hx).1
        simp at this; omega
      have hp : ∃ p : Ma.Pt, Den K H4 (Ma.pt p) x ∧ Ma.stage (Ma.ptsN ns st y n.toNat) (i + 1) = Ma.fill ps p := by
        rcases hi with rfl | rfl
        · have e : x = .ref t1 := by simpa using hx.symm
          subst e
          have n1 : t1 ≠ r := ne_of e1 hr3 (by intro z; cases z)
          exact ⟨(7, 11), den_tup (SqT.of (k4 t1 _ n1 e1)) (Dens.cons den_int (Dens.cons den_int Dens.nil)), by rw [ep]; rfl⟩
        · have e : x = .ref t2 := by simpa using hx.symm
          subst e
          have n1 : t2 ≠ r := ne_of e2 hr3 (by intro z; cases z)
          exact ⟨(8, 11), den_tup (SqT.of (k4 t2 _ n1 e2)) (Dens.cons den_int (Dens.cons den_int Dens.nil)), by rw [ep]; rfl⟩
      obtain ⟨p, hpd, hpe⟩ := hp
      have hyl : ys.length = ps.length := by have := Dens.length hd4; rw [List.length_map] at this; exact this
      have stay : (¬ (ps.length < 2 ∧ p ∉ ps)) → ps = Ma.stage (Ma.ptsN ns st y n.toNat) (i + 1) := fun hc => by rw [hpe]; exact (if_neg hc).symm
      refine ⟨_, rfl, r, _, rfl, .inl (SqL.of hr4), _, _, rfl, rfl, _, rfl, ite2 (fun c => ?_) (fun c => ?_)⟩
      · have c1 : ((ys.length : Nat) : Int) < 2 := of_decide_eq_true c
        refine ⟨_, rfl, _, rfl, _, _, r, ys, rfl, .inl (SqL.of hr4), hd4, hpd, Ma.shp_pt _, Ma.shp_pts _, _, rfl, ?_⟩
        refine ite2 (fun c => ?_) (fun c => ?_)
        · have c2 : p ∉ ps := by
            intro z
            rw [Ma.any_pt, decide_eq_true z] at c
            cases c
          refine ⟨_, rfl, .inl ⟨rfl, _, SqL.of hr4⟩, _, rfl, r, ys, _, rfl, rfl, hr4, Nat.lt_of_le_of_lt (show ys.length ≤ 2000 by omega) (by decide), ?_⟩
          obtain ⟨q1, q2, q3⟩ := put_pt hs4 f0 hr4 hd4 hpd
          refine ⟨o1, o2, _, _, ps ++ [p], rfl, q1, fun b o nb e => by rw [upd_ne nb]; exact k4 b o nb e, q2, q3, by simp only [List.length_append, List.length_singleton]; omega, ?_⟩
          rw [hpe]
          exact (if_pos ⟨by omega, c2⟩).symm
        · have c2 : p ∈ ps := by
            refine Classical.byContradiction fun z => c ?_
            rw [Ma.any_pt, decide_eq_false z]
            rfl
          exact ⟨o1, o2, _, ys, ps, rfl, hs4, k4, hr4, hd4, by omega, stay fun z => z.2 c2⟩
      · have c1 : ¬ ((ys.length : Nat) : Int) < 2 := of_decide_eq_false (Bool.eq_false_iff.mpr c)
        refine iteF ?_
        exact ⟨o1, o2, _, ys, ps, rfl, hs4, k4, hr4, hd4, by omega, stay fun z => by omega⟩
    · rintro σ H4 ⟨o1, o2, o3, ys, ps, rfl, hs4, k4, hr4, hd4, hl4, ep⟩
      refine ⟨_, rfl, q r H4 hs4 ⟨ys, f0, hr4, ?_⟩⟩
      rw [ep] at hd4
      exact hd4
end
end Tw

namespace Ma
open PySem L2 L3
/-- a law's set of points -/
def setP (ns : List Int) : List Pt := ptsBy ns 2 (2 + cell ns 0 % 19).toNat (cell ns 0 / 19 % 6)
theorem setP_good (ns : List Int) : Good (setP ns) := ptsBy_good _ _ _ _
theorem setP_two (ns : List Int) : 2 ≤ (setP ns).length := ptsBy_two _ _ _ _
theorem setP_len (ns : List Int) : (setP ns).length ≤ 20 := by
  have := ptsBy_len ns 2 (2 + cell ns 0 % 19).toNat (cell ns 0 / 19 % 6)
  unfold setP
  omega
end Ma
namespace Tw
open PySem L2 L3
def spSet (K : PySem.W.Frag) : Sp := fun vs H Q _ => ∃ (a : Addr) (ns : List Int), vs = [.ref a] ∧ SqL K H a (ns.map V.int) ∧ ∀ r H', Same H H' → NewPts K H H' r (Ma.setP ns) → Q (.ref r) H'
section
variable {P : Program} {w : World} {K : PySem.W.Frag} {mg : Str → Option Value} {base : Heap}
theorem sc_l_set : FnScope ["script", "head"] ["script"] (defScope t_set) := ⟨rfl, rfl, rfl, by decide +kernel, rfl, by decide +kernel, by decide +kernel⟩
theorem c_set (S : Src K mg "_law_set" t_set) (k_cell_at : Cal P w K mg base 1 "_law_cell_at" ["script", "k"] (spCell K)) (k_points_by : Cal P w K mg base 2 "_law_points_by" ["script", "start", "count", "way"] (spPts K)) :
    Cal P w K mg base 3 "_law_set" ["script"] (spSet K) := by
  refine S.cal (fun f fd F => okN F sc_l_set (fun vs H Q E h => ?_) (fun cdv A outer s H vs Q E hr h => ?_)) (fun _ _ _ _ _ _ us hl => match us, hl with | [_], _ => rfl)
  · obtain ⟨a, ns, rfl, _⟩ := h
    rfl
  obtain ⟨a, ns, rfl, hS, q⟩ := h
  have nd := sc_l_set.nd
  have hr1 := hr.mono (show 1 ≤ 2 by decide)
  refine ⟨_, (pss_cons (sset 1 nd (pe_c k_cell_at hr1 (a2 (pv 0) pe_int)))
      (pss_one (ps_ret (pe_c k_points_by hr (pa_cons (pv 0) (pa_cons pe_int (pa_cons (pe_op op_add pe_int (pe_op op_mod (pv 1) pe_int)) (pa_cons (pe_op op_mod (pe_op op_fdiv (pv 1) pe_int) pe_int) pa_nil)))))))), ?_⟩
  refine ⟨_, rfl, a, ns, 0, rfl, hS, by decide, ?_⟩
  refine ⟨_, rfl, _, rfl, _, _, rfl, rfl, (by show (0 : Int) < 19; decide), _, _, rfl, rfl, _, rfl, _, _, rfl, rfl, ⟨by decide, by decide⟩, _, _, rfl, rfl, (by show (0 : Int) < 6; decide), a, ns, 2, _, _, rfl, hS, by decide, by decide, ?_, ?_, fun r H1 s1 hp => q r H1 s1 hp⟩
  · show 0 ≤ 2 + Ma.cell ns 0 % 19; omega
  · show 2 + Ma.cell ns 0 % 19 ≤ 1000; omega
end
end Tw

namespace Tw
open PySem L2 L3
def spLLines (K : PySem.W.Frag) : Sp := fun vs H Q _ => ∃ (r : Addr) (ps : List Ma.Pt), vs = [.ref r] ∧ PtsAt K H r ps ∧ PsOk ps ∧ ∀ L v as H', Ma.LinesIs ps L → Same H H' → NewD K H H' (Ma.rowsD ps L) v as → Q v H'
theorem lines_len {ps : List Ma.Pt} {L : List Ma.Ln} (ok : PsOk ps) (h : Ma.LinesIs ps L) : L.length ≤ 1000 := by
  have e : (ps.flatMap fun p => ps.map fun q => Ma.lineOf p q).length = ps.length * ps.length := by
    rw [List.length_flatMap]
    have : ∀ n (qs : List Ma.Pt), (qs.map fun _ => n).sum = qs.length * n := fun n qs => by
      induction qs with
      | nil => simp
      | cons q qs ih => rw [List.map_cons, List.sum_cons, ih, List.length_cons, Nat.succ_mul, Nat.add_comm]
    rw [← this ps.length ps]
    congr 1
    exact List.map_congr_left fun p _ => List.length_map _
  have b : L.length ≤ (ps.flatMap fun p => ps.map fun q => Ma.lineOf p q).length := Ma.sub_len h.nd fun l hl => by
    obtain ⟨p, hp, q, hq, _, rfl⟩ := (h.mem l).mp hl
    exact List.mem_flatMap.mpr ⟨p, hp, List.mem_map.mpr ⟨q, hq, rfl⟩⟩
  have z := ok.len
  have : ps.length * ps.length ≤ 20 * 20 := Nat.mul_le_mul z z
  omega
theorem set_ok (ns : List Int) : PsOk (Ma.setP ns) := ⟨Ma.setP_good ns, Ma.setP_two ns, Ma.setP_len ns⟩
end Tw

namespace Tw
open PySem L2 L3
theorem Cal.imp {P : Program} {w : World} {K : PySem.W.Frag} {mg : Str → Option Value} {base : Heap} {k : Nat} {x : Str} {ps : List Str} {sp sp' : Sp} (c : Cal P w K mg base k x ps sp) (h : ∀ vs H Q E, sp' vs H Q E → sp vs H Q E) : Cal P w K mg base k x ps sp' := by
  obtain ⟨f, fd, F, r⟩ := c
  exact ⟨f, fd, F.imp h, r⟩
end Tw

namespace Tw
open PySem L2 L3
section
variable {P : Program} {w : World} {K : PySem.W.Frag} {mg : Str → Option Value} {base : Heap}
theorem sc_greatest_divisor : FnScope ["one", "other", "rest"] ["one", "other"] (defScope s_greatest_divisor) := ⟨rfl, rfl, rfl, by decide +kernel, rfl, by decide +kernel, by decide +kernel⟩
theorem c_greatest_divisor (S : Src K mg "greatest_divisor" s_greatest_divisor) (m_abs : mg "abs" = none) : Cal P w K mg base 1 "greatest_divisor" ["one", "other"] spGcd := by
  refine S.cal (fun f fd F => okN F sc_greatest_divisor (fun vs H Q E h => ?_) (fun cdv A outer s H vs Q E hr h => ?_)) (fun _ _ _ _ _ _ us hl => match us, hl with | [_, _], _ => rfl)
  · obtain ⟨a, b, rfl, _⟩ := h
    rfl
  obtain ⟨a, b, rfl, q⟩ := h
  have nd := sc_greatest_divisor.nd
  refine ⟨_, pss_cons (sset 0 nd (callB b_abs call_abs m_abs (a1 (pv 0))))
    (pss_cons (sset 1 nd (callB b_abs call_abs m_abs (a1 (pv 1))))
    (pss_cons (ps_while PassesOwn.never (cmp op_ne (pv 1) pe_int) (pss_cons (sset 2 nd (pe_op op_mod (pv 0) (pv 1))) (pss_cons (sset 0 nd (pv 1)) (pss_one (sset 1 nd (pv 2))))))
    (pss_one (ps_ret (pv 0))))), ?_⟩
  refine ⟨_, rfl, a, rfl, _, rfl, b, rfl, ?_⟩
  refine while_by (fun σ H' => H' = H ∧ ∃ x y : Int, ∃ r : Option V, σ = [some (.int x), some (.int y), r] ∧ 0 ≤ x ∧ 0 ≤ y ∧ Int.gcd x y = Int.gcd a b) (fun σ _ => match σ with | [_, some (.int y), _] => y.toNat | _ => 0) ?_ ?_ ?_
  · refine ⟨rfl, _, _, none, rfl, ?_, ?_, Ma.gcd_abs a b⟩
    · split <;> omega
    · split <;> omega
  · rintro σ H' ⟨rfl, x, y, r, rfl, hx, hy, e⟩
    refine ⟨_, rfl, rfl, _, rfl, ?_⟩
    by_cases c : V.int y = V.int 0
    · have e0 : y = 0 := V.int.inj c
      subst e0
      refine iteNS rfl ⟨_, rfl, ?_⟩
      have e1 : x = ((Int.gcd a b : Nat) : Int) := by
        rw [← e, Int.gcd_zero_right]
        omega
      rw [e1]
      exact q
    · have hy' : 0 < y := by
        have : y ≠ 0 := fun z => c (by rw [z])
        omega
      rw [decide_eq_false c]
      refine iteT ?_
      refine ⟨_, rfl, _, rfl, x, y, rfl, rfl, hy', _, rfl, _, rfl, ⟨rfl, y, x % y, _, rfl, hy, Int.emod_nonneg x (by omega), ?_⟩, ?_⟩
      · rw [Ma.gcd_step hx hy', e]
      · show (x % y).toNat < y.toNat
        have := Int.emod_lt_of_pos x hy'
        have := Int.emod_nonneg x (show y ≠ 0 by omega)
        omega
  · rintro σ H1 Q1 Q2 k ⟨v, e1, sc, c, e4, q1⟩
    exact ⟨v, e1, sc, c, e4, k _ _ q1⟩
end
end Tw

namespace Tw
open PySem L2 L3
/-- as spLineOf, and the tuple is new -/
def spLineOfT (K : PySem.W.Frag) (cS : Addr) : Sp := fun vs H Q E => ∃ (u v : V) (p q : Ma.Pt), vs = [u, v] ∧ Den K H (Ma.pt p) u ∧ Den K H (Ma.pt q) v ∧ Ma.InB p ∧ Ma.InB q ∧
  (p ≠ q → ∀ r H', Same H H' → H' r = some (.tup [.int (Ma.lineOf p q).a, .int (Ma.lineOf p q).b, .int (Ma.lineOf p q).c]) → Q (.ref r) H') ∧ (p = q → E (.ref cS) none H)
section
variable {P : Program} {w : World} {K : PySem.W.Frag} {mg : Str → Option Value} {base : Heap}
theorem ln_prog {p q : Ma.Pt} (h : p ≠ q) {d : Int} (hd : d = if Ma.neg (q.2 - p.2) (p.1 - q.1) then -Ma.dirG p q else Ma.dirG p q) :
    Ma.ln (Ma.lineOf p q) = itup [(q.2 - p.2).fdiv d, (p.1 - q.1).fdiv d, (q.2 - p.2).fdiv d * p.1 + (p.1 - q.1).fdiv d * p.2] := by
  obtain ⟨e1, e2⟩ := Ma.line_prog h hd
  rw [e1, e2]; rfl
theorem sc_line_of : FnScope ["one", "other", "a", "b", "divisor"] ["one", "other"] (defScope s_line_of) := ⟨rfl, rfl, rfl, by decide +kernel, rfl, by decide +kernel, by decide +kernel⟩
theorem c_line_ofT {cS : Addr} (S : Src K mg "line_of" s_line_of) (Z : ExcC K mg "SamePoint" cS) (k_greatest_divisor : Cal P w K mg base 1 "greatest_divisor" ["one", "other"] spGcd) :
    Cal P w K mg base 2 "line_of" ["one", "other"] (spLineOfT K cS) := by
  refine S.cal (fun f fd F => okX F sc_line_of (fun vs H Q E h => ?_) (fun cdv A outer s H vs Q E hr h => ?_)) (fun _ _ _ _ _ _ us hl => match us, hl with | [_, _], _ => rfl)
  · obtain ⟨u, v, p, q, rfl, _⟩ := h
    rfl
  obtain ⟨u, v, p, q, rfl, hu1, hv1, bp, bq, k, kE⟩ := h
  have nd := sc_line_of.nd
  have hh : A.handled = none := hr.hd
  have hu : (A.deeper (PyProof.Rows.envOfC "line_of" (defScope s_line_of) s.heap.objs.size f cdv)).units + 40 < cLine := by have := hr.units; omega
  obtain ⟨ua, rfl, hua⟩ := pt_of hu1
  obtain ⟨va, rfl, hva⟩ := pt_of hv1
  refine ⟨_, (pss_cons (ps_if (cmp (op_eqD hu) (pv 0) (pv 1)) (pss_one (ps_raise Z (a1 pe_str) rfl rfl hh)) pss_nil)
      (pss_cons (sset 2 nd (pe_op op_sub (ixT (pv 1) pe_int) (ixT (pv 0) pe_int)))
      (pss_cons (sset 3 nd (pe_op op_sub (ixT (pv 0) pe_int) (ixT (pv 1) pe_int)))
      (pss_cons (sset 4 nd (pe_c k_greatest_divisor hr (a2 (pv 2) (pv 3))))
      (pss_cons (ps_if (PW.pt (pw_or (cmp op_lt (pv 2) pe_int) (pw_or1 (PW.pt (pw_and (cmp op_eq (pv 2) pe_int) (pw_and1 (cmp op_lt (pv 3) pe_int))))))) (pss_one (sset 4 nd (pe_un un_neg (pv 4)))) pss_nil)
      (pss_cons (sset 2 nd (pe_op op_fdivZ (pv 2) (pv 4)))
      (pss_cons (sset 3 nd (pe_op op_fdivZ (pv 3) (pv 4)))
      (pss_one (ps_ret (pe_tup (a3 (pv 2) (pv 3) (pe_op op_add (pe_op op_mul (pv 2) (ixT (pv 0) pe_int)) (pe_op op_mul (pv 3) (ixT (pv 0) pe_int)))))))))))))), ?_⟩
  refine ⟨_, rfl, _, rfl, _, _, hu1, hv1, Ma.shp_pt _, Ma.shp_pt _, _, rfl, ?_⟩
  show if PyData.eqv (Ma.pt p) (Ma.pt q) = true then _ else _
  rw [Ma.eqv_pt]
  refine ite2 (fun c => ?_) (fun c => ?_)
  · exact ⟨(by show 1 ≤ sizeLine; decide), kE (of_decide_eq_true c)⟩
  have hne : p ≠ q := of_decide_eq_false (Bool.eq_false_iff.mpr c)
  have k' := k hne
  refine ⟨_, rfl, va, _, 1, _, rfl, rfl, hva, rfl, _, rfl, ua, _, 1, _, rfl, rfl, hua, rfl, _, _, rfl, rfl, ?_⟩
  refine ⟨_, rfl, ua, _, 0, _, rfl, rfl, hua, rfl, _, rfl, va, _, 0, _, rfl, rfl, hva, rfl, _, _, rfl, rfl, ?_⟩
  refine ⟨_, rfl, _, rfl, _, _, rfl, ?_⟩
  have bd := Ma.dir_bd bp bq
  have gd := Ma.dirG_bd hne bp bq
  have gb : ((Int.gcd (q.2 - p.2) (p.1 - q.1) : Nat) : Int) = Ma.dirG p q := rfl
  refine neg_rd rfl rfl ?_
  by_cases c : Ma.neg (q.2 - p.2) (p.1 - q.1)
  · rw [decide_eq_true c]
    refine iteT ?_
    have hd : -((Int.gcd (q.2 - p.2) (p.1 - q.1) : Nat) : Int) = if Ma.neg (q.2 - p.2) (p.1 - q.1) then -Ma.dirG p q else Ma.dirG p q := by rw [if_pos c, gb]
    have hz : CDivZ (q.2 - p.2) (-((Int.gcd (q.2 - p.2) (p.1 - q.1) : Nat) : Int)) := ⟨by omega, Nat.lt_of_le_of_lt (show _ ≤ 2000000 by omega) (by decide)⟩
    have hz2 : CDivZ (p.1 - q.1) (-((Int.gcd (q.2 - p.2) (p.1 - q.1) : Nat) : Int)) := ⟨by omega, Nat.lt_of_le_of_lt (show _ ≤ 2000000 by omega) (by decide)⟩
    obtain ⟨e1, e2⟩ := Ma.line_prog hne hd
    have lb := Ma.line_bd hne bp bq
    refine ⟨_, rfl, _, rfl, ?_⟩
    refine ⟨_, rfl, _, rfl, _, _, rfl, rfl, hz, _, rfl, _, rfl, _, _, rfl, rfl, hz2, ?_⟩
    refine ⟨_, rfl, _, rfl, _, rfl, _, rfl, ua, _, 0, _, rfl, rfl, hua, rfl, _, _, rfl, rfl, c_small ⟨by rw [e1]; omega, by rw [e1]; omega⟩, _, rfl, _, rfl, ua, _, 1, _, rfl, rfl, hua, rfl, _, _, rfl, rfl, c_small ⟨by rw [e2]; omega, by rw [e2]; omega⟩, _, _, rfl, rfl, ?_⟩
    exact tupNt (Same.refl H) k' (ln_prog hne hd) (by show 3 ≤ 1000; decide)
  · rw [decide_eq_false c]
    refine iteF ?_
    have hd : ((Int.gcd (q.2 - p.2) (p.1 - q.1) : Nat) : Int) = if Ma.neg (q.2 - p.2) (p.1 - q.1) then -Ma.dirG p q else Ma.dirG p q := by rw [if_neg c, gb]
    have hz : CDivZ (q.2 - p.2) ((Int.gcd (q.2 - p.2) (p.1 - q.1) : Nat) : Int) := ⟨by omega, Nat.lt_of_le_of_lt (show _ ≤ 2000000 by omega) (by decide)⟩
    have hz2 : CDivZ (p.1 - q.1) ((Int.gcd (q.2 - p.2) (p.1 - q.1) : Nat) : Int) := ⟨by omega, Nat.lt_of_le_of_lt (show _ ≤ 2000000 by omega) (by decide)⟩
    obtain ⟨e1, e2⟩ := Ma.line_prog hne hd
    have lb := Ma.line_bd hne bp bq
    refine ⟨_, rfl, _, rfl, _, _, rfl, rfl, hz, _, rfl, _, rfl, _, _, rfl, rfl, hz2, ?_⟩
    refine ⟨_, rfl, _, rfl, _, rfl, _, rfl, ua, _, 0, _, rfl, rfl, hua, rfl, _, _, rfl, rfl, c_small ⟨by rw [e1]; omega, by rw [e1]; omega⟩, _, rfl, _, rfl, ua, _, 1, _, rfl, rfl, hua, rfl, _, _, rfl, rfl, c_small ⟨by rw [e2]; omega, by rw [e2]; omega⟩, _, _, rfl, rfl, ?_⟩
    exact tupNt (Same.refl H) k' (ln_prog hne hd) (by show 3 ≤ 1000; decide)
end
end Tw

namespace Tw
open PySem L2 L3
def spOff (K : PySem.W.Frag) : Sp := fun vs H Q _ => ∃ (u v : V) (l : Ma.Ln) (p : Ma.Pt), vs = [u, v] ∧ Den K H (Ma.ln l) u ∧ Den K H (Ma.pt p) v ∧ Ma.LB l ∧ Ma.InB p ∧ Q (.int (Ma.off l p)) H
section
variable {P : Program} {w : World} {K : PySem.W.Frag} {mg : Str → Option Value} {base : Heap}
theorem sc_offset : FnScope ["line", "point"] ["line", "point"] (defScope s_offset) := ⟨rfl, rfl, rfl, by decide +kernel, rfl, by decide +kernel, by decide +kernel⟩
theorem c_offset (S : Src K mg "offset" s_offset) : Cal P w K mg base 1 "offset" ["line", "point"] (spOff K) := by
  refine S.cal (fun f fd F => okN F sc_offset (fun vs H Q E h => ?_) (fun cdv A outer s H vs Q E hr h => ?_)) (fun _ _ _ _ _ _ us hl => match us, hl with | [_, _], _ => rfl)
  · obtain ⟨u, v, l, p, rfl, _⟩ := h
    rfl
  obtain ⟨u, v, l, p, rfl, hu1, hv1, L, bp, q⟩ := h
  obtain ⟨ua, rfl, hua⟩ := ln_of hu1
  obtain ⟨va, rfl, hva⟩ := pt_of hv1
  refine ⟨_, (pss_one (ps_ret (pe_op op_sub (pe_op op_add (pe_op op_mul (ixT (pv 0) pe_int) (ixT (pv 1) pe_int)) (pe_op op_mul (ixT (pv 0) pe_int) (ixT (pv 1) pe_int))) (ixT (pv 0) pe_int)))), ?_⟩
  have la := L.a
  have lb := L.b
  refine ⟨_, rfl, ua, _, 0, _, rfl, rfl, hua, rfl, _, rfl, va, _, 0, _, rfl, rfl, hva, rfl, _, _, rfl, rfl, c_small ⟨by omega, by omega⟩, ?_⟩
  refine ⟨_, rfl, ua, _, 1, _, rfl, rfl, hua, rfl, _, rfl, va, _, 1, _, rfl, rfl, hva, rfl, _, _, rfl, rfl, c_small ⟨by omega, by omega⟩, _, _, rfl, rfl, ?_⟩
  exact ⟨_, rfl, ua, _, 2, _, rfl, rfl, hua, rfl, _, _, rfl, rfl, q⟩
theorem sc_on : FnScope ["line", "point"] ["line", "point"] (defScope s_on) := ⟨rfl, rfl, rfl, by decide +kernel, rfl, by decide +kernel, by decide +kernel⟩
theorem c_on (S : Src K mg "on" s_on) (k_offset : Cal P w K mg base 1 "offset" ["line", "point"] (spOff K)) : Cal P w K mg base 2 "on" ["line", "point"] (spOn K) := by
  refine S.cal (fun f fd F => okN F sc_on (fun vs H Q E h => ?_) (fun cdv A outer s H vs Q E hr h => ?_)) (fun _ _ _ _ _ _ us hl => match us, hl with | [_, _], _ => rfl)
  · obtain ⟨u, v, l, p, rfl, _⟩ := h
    rfl
  obtain ⟨u, v, l, p, rfl, hu1, hv1, L, bp, q⟩ := h
  refine ⟨_, (pss_one (ps_ret (cmpE op_eq (pe_c k_offset hr (a2 (pv 0) (pv 1))) pe_int))), ?_⟩
  refine ⟨_, rfl, _, rfl, u, v, l, p, rfl, hu1, hv1, L, bp, rfl, ?_⟩
  show Q (.bl (decide (V.int (Ma.off l p) = V.int 0))) H
  have e : decide (V.int (Ma.off l p) = V.int 0) = decide (Ma.On l p) := by
    rw [dint]
    by_cases z : Ma.On l p
    · rw [decide_eq_true z, decide_eq_true (Ma.off_on.mpr z)]
    · rw [decide_eq_false z, decide_eq_false (fun y => z (Ma.off_on.mp y))]
  rw [e]
  exact q
end
end Tw

namespace Ma
open PySem L2 L3
def ptl (p : Pt) : List Int := [p.1, p.2]
theorem pt_ptl (ps : List Pt) : (ps.map ptl).map itup = ps.map pt := by rw [List.map_map]; rfl
theorem ptl_nd {ps : List Pt} : (ps.map ptl).Nodup ↔ ps.Nodup := by
  constructor
  · intro h
    have h2 := List.pairwise_map.mp h
    exact h2.imp fun {a b} n e => n (by rw [e])
  · intro h
    refine List.pairwise_map.mpr (List.Pairwise.imp (fun {a b} n e => n ?_) h)
    have e1 : a.1 = b.1 := by injection e
    have e2 : a.2 = b.2 := by injection e with _ e; injection e
    exact Prod.ext e1 e2
theorem dd_ps (ps : List Pt) : (Tb.dd [] (ps.map ptl)).length = ps.length ↔ ps.Nodup := by
  have h := Tb.dd_all (ps.map ptl) [] List.nodup_nil
  rw [List.nil_append, List.length_map, List.length_nil, Nat.zero_add] at h
  rw [h, ptl_nd]
end Ma
namespace Tw
open PySem L2 L3
def spIsPt (K : PySem.W.Frag) : Sp := fun vs H Q _ => ∃ (v : V) (p : Ma.Pt), vs = [v] ∧ Den K H (Ma.pt p) v ∧ ∀ b, (b = true ↔ Ma.InB p) → Q (.bl b) H
def spArePts (K : PySem.W.Frag) : Sp := fun vs H Q _ => ∃ (r : Addr) (ps : List Ma.Pt), vs = [.ref r] ∧ PtsAt K H r ps ∧ ps.length ≤ 1000 ∧ ∀ b H', (b = true ↔ PsOk ps) → Same H H' → Q (.bl b) H'
section
variable {P : Program} {w : World} {K : PySem.W.Frag} {mg : Str → Option Value} {base : Heap}
theorem sc_is_point : FnScope ["point"] ["point"] (defScope s_is_point) := ⟨rfl, rfl, rfl, by decide +kernel, rfl, by decide +kernel, by decide +kernel⟩
theorem c_is_point (S : Src K mg "is_point" s_is_point) (m_abs : mg "abs" = none) (g_FARTHEST : GV mg "FARTHEST" (.int 1000000)) : Cal P w K mg base 1 "is_point" ["point"] (spIsPt K) := by
  refine S.cal (fun f fd F => okN F sc_is_point (fun vs H Q E h => ?_) (fun cdv A outer s H vs Q E hr h => ?_)) (fun _ _ _ _ _ _ us hl => match us, hl with | [_], _ => rfl)
  · obtain ⟨v, p, rfl, _⟩ := h
    rfl
  obtain ⟨v, p, rfl, hv, q⟩ := h
  obtain ⟨va, rfl, hva⟩ := pt_of hv
  refine ⟨_, (pss_one (ps_ret (pe_and (cmpE op_le (callB b_abs call_abs m_abs (a1 (ixT (pv 0) pe_int))) (pe_gv g_FARTHEST)) (pe_one (cmpE op_le (callB b_abs call_abs m_abs (a1 (ixT (pv 0) pe_int))) (pe_gv g_FARTHEST)))))), ?_⟩
  refine ⟨_, rfl, va, _, 0, _, rfl, rfl, hva, rfl, p.1, rfl, _, _, rfl, rfl, _, rfl, ite2 (fun c => ?_) (fun c => ?_)⟩
  · refine ⟨_, rfl, va, _, 1, _, rfl, rfl, hva, rfl, p.2, rfl, _, _, rfl, rfl, q _ ?_⟩
    have c1 : (if p.1 < 0 then -p.1 else p.1) ≤ 1000000 := of_decide_eq_true c
    rw [decide_eq_true_iff]
    unfold Ma.InB
    constructor
    · intro c2
      refine ⟨?_, ?_, ?_, ?_⟩ <;> (split at c1 <;> split at c2 <;> omega)
    · rintro ⟨_, _, _, _⟩
      split <;> omega
  · refine q _ ⟨fun z => (by cases z), fun z => (c ?_).elim⟩
    obtain ⟨z1, z2, _⟩ := z
    refine decide_eq_true ?_
    split <;> omega
theorem sc_are_points : FnScope ["points"] ["points"] (defScope s_are_points) := ⟨rfl, rfl, rfl, by decide +kernel, rfl, by decide +kernel, by decide +kernel⟩
theorem c_are_points (S : Src K mg "are_points" s_are_points) (m_len : mg "len" = none) (m_set : mg "set" = none) (m_all : mg "all" = none) (g_FEWEST : GV mg "FEWEST" (.int 2)) (g_MOST : GV mg "MOST" (.int 20)) (k_is_point : Cal P w K mg base 1 "is_point" ["point"] (spIsPt K)) :
    Cal P w K mg base 2 "are_points" ["points"] (spArePts K) := by
  refine S.cal (fun f fd F => okN F sc_are_points (fun vs H Q E h => ?_) (fun cdv A outer s H vs Q E hr h => ?_)) (fun _ _ _ _ _ _ us hl => match us, hl with | [_], _ => rfl)
  · obtain ⟨r, ps, rfl, _⟩ := h
    rfl
  obtain ⟨r, ps, rfl, hps, hl, q⟩ := h
  have nd := sc_are_points.nd
  have hu : (A.deeper (PyProof.Rows.envOfC "are_points" (defScope s_are_points) s.heap.objs.size f cdv)).units + 40 < cLine := by have := hr.units; omega
  refine ⟨_, (pss_cons (ps_if (PW.pt (pw_or (cmp op_lt (callB b_len call_len_seq m_len (a1 (pv 0))) (pe_gv g_FEWEST)) (pw_or1 (cmp op_gt (callB b_len call_len_seq m_len (a1 (pv 0))) (pe_gv g_MOST))))) (pss_one (ps_ret pe_bl)) pss_nil)
      (pss_cons (ps_if (cmp op_ne (callB b_len call_lenSet m_len (a1 (callT b_set (call_setT rfl hu) m_set (a1 (pv 0))))) (callB b_len call_len_seq m_len (a1 (pv 0)))) (pss_one (ps_ret pe_bl)) pss_nil)
      (pss_one (ps_ret (callB b_all (call_allB rfl) m_all (a1 (pe_lc (tc := tYes) rfl (compS_mk (tgs := ["point"]) (caps := []) rfl rfl rfl rfl trivial rfl rfl) (pi_list (pv 0)) (fun _ _ _ _ => (pg_name (i := 0) (show (["point"] : List Str).Nodup by decide +kernel) rfl (Or.inl rfl))) (Or.inl ⟨rfl, rfl⟩) (fun _ _ _ _ => (pe_c k_is_point hr (a1 (pv 0))))))))))), ?_⟩
  obtain ⟨px, hpx, hpl0, hpat⟩ := hps.get
  obtain ⟨px', hpx', hpd⟩ := id hps
  obtain rfl : px' = px := by rw [hpx] at hpx'; cases hpx'; rfl
  refine ⟨_, rfl, r, px', rfl, .inl (SqL.of hpx), _, _, rfl, rfl, _, rfl, ite2 (fun c => iteT ?_) (fun c => ?_)⟩
  · refine q _ _ ⟨fun z => (by cases z), fun z => ?_⟩ (Same.refl H)
    have := z.two
    have c1 : (px'.length : Int) < 2 := of_decide_eq_true c
    omega
  refine ⟨_, rfl, r, px', rfl, .inl (SqL.of hpx), _, _, rfl, rfl, _, rfl, ite2 (fun c2 => ?_) (fun c2 => ?_)⟩
  · refine q _ _ ⟨fun z => (by cases z), fun z => ?_⟩ (Same.refl H)
    have := z.len
    have c1 : (px'.length : Int) > 20 := of_decide_eq_true c2
    omega
  have l2 : ¬ ((px'.length : Int) < 2) := fun z => c (decide_eq_true z)
  have l20 : ¬ ((px'.length : Int) > 20) := fun z => c2 (decide_eq_true z)
  refine ⟨_, rfl, r, px', ps.map Ma.ptl, rfl, SqL.of hpx, by rw [Ma.pt_ptl]; exact hpd, by rw [List.length_map]; omega, fun a fa => ?_⟩
  have dl := Tb.dd_len (ps.map Ma.ptl) []
  rw [List.length_map, List.length_nil, Nat.zero_add] at dl
  have s1 := same_new fa (SetN a (Tb.dd [] (ps.map Ma.ptl)).length)
  have ha : (upd H a (SetN a (Tb.dd [] (ps.map Ma.ptl)).length)) a = some (SetN a (Tb.dd [] (ps.map Ma.ptl)).length) := upd_same
  generalize upd H a (SetN a (Tb.dd [] (ps.map Ma.ptl)).length) = H1 at s1 ha ⊢
  refine ⟨a, _, rfl, ha, by omega, _, rfl, r, px', rfl, .inl (SqL.of (s1 _ _ hpx)), rfl, _, rfl, ?_⟩
  by_cases cn : ps.Nodup
  · have e1 := (Ma.dd_ps ps).mpr cn
    refine iteNS (by rw [e1, hpl0]) ?_
    refine ⟨_, rfl, r, rfl, ⟨_, SqL.of (s1 _ _ hpx)⟩, comp_list (K := K) (a := r) (xs := px') (fun m ys σ' H8 => H8 = H1 ∧ (∃ o', σ' = [o']) ∧ ∃ bs : List Bool, ys = bs.map V.bl ∧ bs.length = m ∧ (bs.all id = true ↔ ∀ p ∈ ps.take m, Ma.InB p)) ⟨rfl, ⟨none, rfl⟩, [], rfl, rfl, by simp⟩ ?_ ?_ ?_ ?_⟩
    · rw [hpl0]; exact Nat.le_trans (show ps.length ≤ 1000 by omega) (by decide)
    · rintro m ys σ' H8 _ ⟨rfl, _, bs, rfl, h2, _⟩
      exact ⟨SqL.of (s1 _ _ hpx), by rw [List.length_map]; omega⟩
    · rintro m v ys σ' H8 hv ⟨rfl, ⟨o', rfl⟩, bs, rfl, h2, h3⟩
      refine yesT ?_
      have hm : m < ps.length := by rw [← hpl0]; exact (List.getElem?_eq_some_iff.mp hv).1
      obtain ⟨v', ev, dv⟩ := hpat m _ (List.getElem?_eq_getElem hm)
      rw [hv] at ev; cases ev
      refine ⟨_, rfl, v, ps[m], rfl, Den.same s1 _ _ dv, fun b hb => ⟨rfl, ⟨_, rfl⟩, bs ++ [b], by rw [List.map_append]; rfl, by rw [List.length_append, h2]; rfl, ?_⟩⟩
      rw [List.all_append, Bool.and_eq_true, h3, List.take_succ, List.getElem?_eq_getElem hm]
      simp only [List.all_cons, List.all_nil, Bool.and_true, id_eq, hb]
      constructor
      · rintro ⟨z1, z2⟩ p hp
        rcases List.mem_append.mp hp with y | y
        · exact z1 p y
        · rw [List.mem_singleton.mp y]; exact z2
      · intro z
        exact ⟨fun p hp => z p (List.mem_append_left _ hp), z _ (List.mem_append_right _ (by simp))⟩
    · rintro ys σ' H8 ⟨rfl, ⟨o', rfl⟩, bs, rfl, h2, h3⟩ p3 fp3
      rw [hpl0, List.take_length] at h3
      refine ⟨p3, bs, rfl, SqL.of upd_same, q _ _ (h3.trans ?_) (s1.trans (same_new fp3 _))⟩
      constructor
      · intro z
        exact ⟨⟨cn, z⟩, by omega, by omega⟩
      · intro z
        exact z.good.inb
  · have e1 : ¬ (Tb.dd [] (ps.map Ma.ptl)).length = ps.length := fun z => cn ((Ma.dd_ps ps).mp z)
    have e2 : decide (V.int ((Tb.dd [] (ps.map Ma.ptl)).length : Int) = V.int (px'.length : Int)) = false := decide_eq_false fun z => e1 (by have := V.int.inj z; omega)
    rw [e2]
    refine iteT (q _ _ ⟨fun z => (by cases z), fun z => (cn z.good.nd).elim⟩ s1)
end
end Tw

namespace Tw
open PySem L2 L3
def spRefuse (K : PySem.W.Frag) (cP : Addr) : Sp := fun vs H Q E => ∃ (r : Addr) (ps : List Ma.Pt), vs = [.ref r] ∧ PtsAt K H r ps ∧ ps.length ≤ 1000 ∧ (PsOk ps → ∀ H', Same H H' → Q .non H') ∧ (¬ PsOk ps → ∀ H', Same H H' → E (.ref cP) none H')
section
variable {P : Program} {w : World} {K : PySem.W.Frag} {mg : Str → Option Value} {base : Heap}
theorem sc_refuse_bad : FnScope ["points"] ["points"] (defScope s_refuse_bad) := ⟨rfl, rfl, rfl, by decide +kernel, rfl, by decide +kernel, by decide +kernel⟩
theorem c_refuse_bad {cP : Addr} (S : Src K mg "refuse_bad" s_refuse_bad) (Z : ExcC K mg "BadPoints" cP) (k_are_points : Cal P w K mg base 2 "are_points" ["points"] (spArePts K)) : Cal P w K mg base 3 "refuse_bad" ["points"] (spRefuse K cP) := by
  refine S.cal (fun f fd F => okX F sc_refuse_bad (fun vs H Q E h => ?_) (fun cdv A outer s H vs Q E hr h => ?_)) (fun _ _ _ _ _ _ us hl => match us, hl with | [_], _ => rfl)
  · obtain ⟨r, ps, rfl, _⟩ := h
    rfl
  obtain ⟨r, ps, rfl, hps, hl, q1, q2⟩ := h
  have nd := sc_refuse_bad.nd
  have hh : A.handled = none := hr.hd
  refine ⟨_, (pss_one (ps_if (pt_not (tval (pe_c k_are_points hr (a1 (pv 0))))) (pss_one (ps_raise Z (a1 pe_str) rfl rfl hh)) pss_nil)), ?_⟩
  refine ⟨_, rfl, r, ps, rfl, hps, hl, fun b H1 hb s1 => ⟨b, rfl, ?_⟩⟩
  cases b with
  | true => exact iteF (q1 (hb.mp rfl) H1 s1)
  | false => exact iteT ⟨(by show 1 ≤ sizeLine; decide), q2 (fun z => by have := hb.mpr z; cases this) H1 s1⟩
end
end Tw

namespace Ma
open PySem L2 L3
/-- the pairs (i, j), i below k, and of k those with j below k + 1 + m -/
def Seen2 (ps : List Pt) (k m : Nat) (l : Ln) : Prop := ∃ i j : Nat, i < j ∧ (i < k ∨ (i = k ∧ j < k + 1 + m)) ∧ ∃ p q, ps[i]? = some p ∧ ps[j]? = some q ∧ l = lineOf p q
theorem seen2_all {ps : List Pt} (nd : ps.Nodup) {l : Ln} : Seen2 ps ps.length 0 l ↔ IsL ps l := by
  constructor
  · rintro ⟨i, j, hij, _, p, q, ep, eq, rfl⟩
    refine ⟨p, List.mem_of_getElem? ep, q, List.mem_of_getElem? eq, fun z => ?_, rfl⟩
    subst z
    have hi := (List.getElem?_eq_some_iff.mp ep)
    have hj := (List.getElem?_eq_some_iff.mp eq)
    exact List.pairwise_iff_getElem.mp nd i j hi.1 hj.1 hij (hi.2.trans hj.2.symm)
  · rintro ⟨p, hp, q, hq, ne, rfl⟩
    obtain ⟨a, ha, ea⟩ := List.getElem_of_mem hp
    obtain ⟨b, hb, eb⟩ := List.getElem_of_mem hq
    have nab : a ≠ b := fun z => by subst z; exact ne (ea.symm.trans eb)
    rcases Nat.lt_or_gt_of_ne nab with c | c
    · exact ⟨a, b, c, .inl ha, p, q, by rw [List.getElem?_eq_getElem ha, ea], by rw [List.getElem?_eq_getElem hb, eb], rfl⟩
    · exact ⟨b, a, c, .inl hb, q, p, by rw [List.getElem?_eq_getElem hb, eb], by rw [List.getElem?_eq_getElem ha, ea], (line_swap ne).symm⟩
theorem seen2_step {ps : List Pt} {k m : Nat} {p q : Pt} (ep : ps[k]? = some p) (eq : ps[k + 1 + m]? = some q) (l : Ln) : Seen2 ps k (m + 1) l ↔ Seen2 ps k m l ∨ l = lineOf p q := by
  constructor
  · rintro ⟨i, j, hij, hi, p', q', e1, e2, rfl⟩
    by_cases c : i = k ∧ j = k + 1 + m
    · obtain ⟨rfl, rfl⟩ := c
      rw [ep] at e1; rw [eq] at e2; cases e1; cases e2
      exact .inr rfl
    · exact .inl ⟨i, j, hij, by omega, p', q', e1, e2, rfl⟩
  · rintro (⟨i, j, hij, hi, r⟩ | rfl)
    · exact ⟨i, j, hij, by omega, r⟩
    · exact ⟨k, k + 1 + m, by omega, .inr ⟨rfl, by omega⟩, p, q, ep, eq, rfl⟩
theorem seen2_next {ps : List Pt} {k n : Nat} (hn : n = ps.length - (k + 1)) (l : Ln) : Seen2 ps (k + 1) 0 l ↔ Seen2 ps k n l := by
  constructor
  · rintro ⟨i, j, hij, hi, p, q, e1, e2, e⟩
    have := (List.getElem?_eq_some_iff.mp e2).1
    exact ⟨i, j, hij, by omega, p, q, e1, e2, e⟩
  · rintro ⟨i, j, hij, hi, r⟩
    exact ⟨i, j, hij, by omega, r⟩
theorem seen2_none {ps : List Pt} (l : Ln) : ¬ Seen2 ps 0 0 l := by
  rintro ⟨i, j, hij, hi, r⟩; omega
end Ma
namespace Tw
open PySem L2 L3
def spPairs (K : PySem.W.Frag) : Sp := fun vs H Q _ => ∃ (r : Addr) (ps : List Ma.Pt), vs = [.ref r] ∧ PtsAt K H r ps ∧ PsOk ps ∧ ∀ L l zs H', Ma.LinesIs ps L → L.length ≤ 1000 → Same H H' → H l = none → H' l = some (.lst zs) → Dens K H' (L.map Ma.ln) zs → Q (.ref l) H'
section
variable {P : Program} {w : World} {K : PySem.W.Frag} {mg : Str → Option Value} {base : Heap}
theorem sc_lines_of_pairs : FnScope ["points", "found", "first", "second"] ["points"] (defScope s_lines_of_pairs) := ⟨rfl, rfl, rfl, by decide +kernel, rfl, by decide +kernel, by decide +kernel⟩
theorem c_lines_of_pairs {cS : Addr} (S : Src K mg "lines_of_pairs" s_lines_of_pairs) (m_len : mg "len" = none) (m_range : mg "range" = none) (m_sorted : mg "sorted" = none) (k_line_of : Cal P w K mg base 2 "line_of" ["one", "other"] (spLineOfT K cS)) :
    Cal P w K mg base 3 "lines_of_pairs" ["points"] (spPairs K) := by
  refine S.cal (fun f fd F => okN F sc_lines_of_pairs (fun vs H Q E h => ?_) (fun cdv A outer s H vs Q E hr h => ?_)) (fun _ _ _ _ _ _ us hl => match us, hl with | [_], _ => rfl)
  · obtain ⟨r, ps, rfl, _⟩ := h
    rfl
  obtain ⟨r, ps, rfl, hps, ok, q⟩ := h
  have nd := sc_lines_of_pairs.nd
  have z2 := ok.two
  have z20 := ok.len
  refine ⟨_, (pss_cons (sset 1 nd pe_dnewT)
      (pss_cons (ps_for PassesOwn.never rfl (pi_range1 rfl m_range (a1 (callB b_len call_len_seq m_len (a1 (pv 0))))) (pg_name (i := 2) nd rfl (by first | exact Or.inl rfl | exact Or.inr rfl)) (pss_one (ps_for PassesOwn.never rfl (pi_range2 rfl m_range (a2 (pe_op op_add (pv 2) pe_int) (callB b_len call_len_seq m_len (a1 (pv 0))))) (pg_name (i := 3) nd rfl (by first | exact Or.inl rfl | exact Or.inr rfl)) (pss_one (ps_dput (hu_of hr) (pv 1) (pe_c k_line_of hr (a2 (ixL (pv 0) (pv 2)) (ixL (pv 0) (pv 3)))) pe_bl rfl)))))
      (pss_one (ps_ret (callB b_sorted (call_sortD rfl) m_sorted (a1 (pv 1))))))), ?_⟩
  refine fun fdc f0 => ?_
  obtain ⟨px, hpx, hpl, hpat⟩ := hps.get
  have hb : (px.length : Int).toNat = ps.length := by omega
  have gnd : ps.Nodup := ok.good.nd
  refine ⟨_, rfl, r, px, rfl, .inl (SqL.of (same_new f0 _ _ _ hpx)), _, rfl, by omega, by omega, for_range (n := (px.length : Int).toNat) (fun i σ H2 => ∃ (o2 o3 : Option V) (ks : List Ma.Ln), σ = [some (.ref r), some (.ref fdc), o2, o3] ∧ Same H H2 ∧ H2 fdc = some (.dT (ks.map Ma.entry)) ∧ ks.Nodup ∧ (∀ l, l ∈ ks ↔ Ma.Seen2 ps i 0 l) ∧ ks.length ≤ i * 20)
    ⟨none, none, [], rfl, same_new f0 _, upd_same, List.nodup_nil, fun l => ⟨fun m => (nomatch m), fun z => (Ma.seen2_none l z).elim⟩, Nat.zero_le _⟩ ?_ ?_⟩
  · rintro i σ H2 hi ⟨o2, o3, ks, rfl, s2, hfd, knd, kmem, klen⟩
    have hi' : i < ps.length := by omega
    have e0 : (0 : Int) + (i : Int) = (i : Int) := Int.zero_add _
    rw [e0]
    have ep : ps[i]? = some ps[i] := List.getElem?_eq_getElem hi'
    refine ⟨_, rfl, _, _, rfl, rfl, _, rfl, r, px, rfl, .inl (SqL.of (s2 _ _ hpx)), (i : Int) + 1, (px.length : Int), rfl, ⟨by omega, by omega, by omega, by omega⟩, for_range (n := ((px.length : Int) - ((i : Int) + 1)).toNat) (fun m σ H3 => ∃ (o3 : Option V) (ks : List Ma.Ln), σ = [some (.ref r), some (.ref fdc), some (.int (i : Int)), o3] ∧ Same H H3 ∧ H3 fdc = some (.dT (ks.map Ma.entry)) ∧ ks.Nodup ∧ (∀ l, l ∈ ks ↔ Ma.Seen2 ps i m l) ∧ ks.length ≤ i * 20 + m)
      ⟨o3, ks, rfl, s2, hfd, knd, kmem, klen⟩ ?_ ?_⟩
    · rintro m σ H3 hm ⟨o3, ks, rfl, s3, hfd3, knd, kmem, klen⟩
      have hm2 : i + 1 + m < ps.length := by omega
      have e1 : (i : Int) + 1 + (m : Int) = ((i + 1 + m : Nat) : Int) := by omega
      rw [e1]
      have eq : ps[i + 1 + m]? = some ps[i + 1 + m] := List.getElem?_eq_getElem hm2
      obtain ⟨x, ex, dx⟩ := hpat i _ ep
      obtain ⟨y, ey, dy⟩ := hpat (i + 1 + m) _ eq
      have ne : ps[i] ≠ ps[i + 1 + m] := List.pairwise_iff_getElem.mp gnd i (i + 1 + m) hi' hm2 (by omega)
      refine ⟨_, rfl, _, rfl, _, rfl, r, px, _, x, rfl, rfl, SqL.of (s3 _ _ hpx), atI_nat ex, _, rfl, _, rfl, r, px, _, y, rfl, rfl, SqL.of (s3 _ _ hpx), atI_nat ey, x, y, ps[i], ps[i + 1 + m], rfl, Den.same s3 _ _ dx, Den.same s3 _ _ dy, ok.good.inb _ (List.getElem_mem hi'), ok.good.inb _ (List.getElem_mem hm2), fun _ lr H5 s5 hlr => ?_, fun z => absurd z ne⟩
      have kl : (ks.map Ma.entry).length < sizeLine := by
        rw [List.length_map]
        exact Nat.lt_of_le_of_lt (show ks.length ≤ 1000 by omega) (by decide)
      refine ⟨fdc, _, rfl, DPut.t (k := keyT (Ma.lnl (Ma.lineOf ps[i] ps[i + 1 + m]))) (s5 _ _ hfd3) (by rw [keyT_kV]; exact hlr) kl, ?_⟩
      rw [Ma.put_line]
      refine ⟨_, _, rfl, fun b ob e => ?_, upd_same, ?_, fun l => ?_, ?_⟩
      · rw [upd_ne (ne_of_none e f0)]; exact s5 _ _ (s3 _ _ e)
      · split
        · exact knd
        · rename_i c
          rw [List.nodup_append]
          refine ⟨knd, by simp, fun a ha b hb2 e => ?_⟩
          rw [List.mem_singleton.mp hb2] at e
          exact c (e ▸ ha)
      · rw [Ma.seen2_step ep eq, ← kmem l]
        split
        · rename_i c
          constructor
          · exact .inl
          · rintro (z | rfl)
            · exact z
            · exact c
        · rw [List.mem_append, List.mem_singleton]
      · split
        · omega
        · rw [List.length_append]
          show ks.length + 1 ≤ _
          omega
    · rintro σ H3 ⟨o3, ks, rfl, s3, hfd3, knd, kmem, klen⟩
      refine ⟨_, _, ks, rfl, s3, hfd3, knd, fun l => ?_, by omega⟩
      rw [kmem l]
      exact (Ma.seen2_next (show ((px.length : Int) - ((i : Int) + 1)).toNat = ps.length - (i + 1) by omega) l).symm
  · rintro σ H3 ⟨o2, o3, ks, rfl, s3, hfd3, knd, kmem, klen⟩
    rw [hb] at kmem
    refine ⟨_, rfl, fdc, ks.map Ma.entry, ks.map Ma.lnl, rfl, hfd3, by rw [List.map_map, List.map_map]; rfl, fun m hm => ?_, fun l2 ns zs f6 hp hs hd6 => ?_⟩
    · obtain ⟨l, _, rfl⟩ := List.mem_map.mp hm
      intro z; cases z
    · obtain ⟨L, rfl, hL⟩ := Ma.lines_sorted knd (fun l => (kmem l).trans (Ma.seen2_all gnd)) hp hs
      have Llen : L.length ≤ 1000 := by
        have := hp.length_eq
        rw [List.length_map, List.length_map] at this; omega
      refine q L l2 zs _ hL Llen (s3.trans (same_new f6 _)) (s3.free f6) upd_same ?_
      rw [List.map_map] at hd6
      exact hd6
end
end Tw

namespace Tw
open PySem L2 L3
def spPlaces (K : PySem.W.Frag) : Sp := fun vs H Q _ => ∃ (z : V) (r : Addr) (l : Ma.Ln) (ps : List Ma.Pt), vs = [z, .ref r] ∧ Den K H (Ma.ln l) z ∧ Ma.LB l ∧ PtsAt K H r ps ∧ PsOk ps ∧ ∀ pl, H pl = none → Q (.ref pl) (upd H pl (.lst ((Ma.places l ps).map V.int)))
section
variable {P : Program} {w : World} {K : PySem.W.Frag} {mg : Str → Option Value} {base : Heap}
theorem sc_places_on : FnScope ["line", "points"] ["line", "points"] (defScope s_places_on) := ⟨rfl, rfl, rfl, by decide +kernel, rfl, by decide +kernel, by decide +kernel⟩
theorem c_places_on (S : Src K mg "places_on" s_places_on) (m_len : mg "len" = none) (m_range : mg "range" = none) (k_on : Cal P w K mg base 2 "on" ["line", "point"] (spOn K)) : Cal P w K mg base 3 "places_on" ["line", "points"] (spPlaces K) := by
  refine S.cal (fun f fd F => okN F sc_places_on (fun vs H Q E h => ?_) (fun cdv A outer s H vs Q E hr h => ?_)) (fun _ _ _ _ _ _ us hl => match us, hl with | [_, _], _ => rfl)
  · obtain ⟨z, r, l, ps, rfl, _⟩ := h
    rfl
  obtain ⟨z, r, l, ps, rfl, hz, lb, hps, ok, q⟩ := h
  have nd := sc_places_on.nd
  refine ⟨_, (pss_one (ps_ret (pe_lc rfl (compS_mk (tgs := ["place"]) (caps := [("line", 0), ("points", 1)]) rfl rfl rfl rfl ⟨rfl, rfl, trivial⟩ rfl rfl) (pi_range1 rfl m_range (a1 (callB b_len call_len_seq m_len (a1 (pv 1))))) (fun _ _ _ _ => (pg_name (i := 0) (show (["place", "line", "points"] : List Str).Nodup by decide +kernel) rfl (Or.inl rfl))) (Or.inr ⟨_, rfl, fun _ _ _ _ => (tval (pe_c k_on hr (a2 (pv 1) (ixLk K (pv 2) (pv 0)))))⟩) (fun _ _ _ _ => (pv 0))))), ?_⟩
  obtain ⟨px, hpx, hpl, hpat⟩ := hps.get
  have z20 := ok.len
  have hb : (px.length : Int).toNat = ps.length := by omega
  refine ⟨_, rfl, r, px, rfl, .inl (SqL.of hpx), _, rfl, by omega, by omega, comp_range (n := ((px.length : Int)).toNat) (fun m ys σ' H8 => H8 = H ∧ (∃ o', σ' = [o', some z, some (.ref r)]) ∧ ys = (Ma.placesTo l ps m).map V.int) ⟨rfl, ⟨none, rfl⟩, rfl⟩ ?_ ?_ ?_ ?_⟩
  · rw [hb]; exact Nat.le_trans z20 (by decide)
  · rintro m ys σ' H8 _ ⟨_, _, rfl⟩
    rw [List.length_map]; exact Ma.placesTo_len _ _ _
  · rintro m ys σ' H8 hm ⟨rfl, ⟨o', rfl⟩, rfl⟩
    have hm' : m < ps.length := by omega
    have ep : ps[m]? = some ps[m] := List.getElem?_eq_getElem hm'
    obtain ⟨x, e1, e2⟩ := hpat m _ ep
    have e0 : (0 : Int) + (m : Int) = (m : Int) := Int.zero_add _
    rw [e0]
    refine ⟨_, rfl, _, rfl, _, rfl, r, px, _, x, rfl, rfl, SqL.of hpx, (atI_nat e1), z, x, l, ps[m], rfl, hz, e2, lb, ok.good.inb _ (List.getElem_mem hm'), _, rfl, ?_⟩
    have eg : ps.getD m (0, 0) = ps[m] := by rw [List.getD_eq_getElem?_getD, ep]; rfl
    by_cases c : Ma.On l ps[m]
    · rw [decide_eq_true c]
      refine ifT ⟨_, rfl, rfl, ⟨_, rfl⟩, ?_⟩
      rw [Ma.placesTo_succ, eg, if_pos c, List.map_append]; rfl
    · rw [decide_eq_false c]
      refine ifF ⟨rfl, ⟨_, rfl⟩, ?_⟩
      rw [Ma.placesTo_succ, eg, if_neg c]
  · rintro ys σ' H8 ⟨rfl, ⟨o', rfl⟩, rfl⟩ pl fpl
    rw [hb]
    exact q pl fpl
end
end Tw

namespace Tw
open PySem L2 L3
/-- the lines, or the points are refused with the class at cP -/
def spLinesX (K : PySem.W.Frag) (cP : Addr) : Sp := fun vs H Q E => ∃ (r : Addr) (ps : List Ma.Pt), vs = [.ref r] ∧ PtsAt K H r ps ∧ ps.length ≤ 1000 ∧ (PsOk ps → ∀ L v as H', Ma.LinesIs ps L → L.length ≤ 1000 → Same H H' → NewD K H H' (Ma.rowsD ps L) v as → Q v H') ∧ (¬ PsOk ps → ∀ H', Same H H' → E (.ref cP) none H')
section
variable {P : Program} {w : World} {K : PySem.W.Frag} {mg : Str → Option Value} {base : Heap}
theorem sc_lines : FnScope ["points"] ["points"] (defScope s_lines) := ⟨rfl, rfl, rfl, by decide +kernel, rfl, by decide +kernel, by decide +kernel⟩
theorem c_lines {cP : Addr} (S : Src K mg "lines" s_lines) (k_refuse_bad : Cal P w K mg base 3 "refuse_bad" ["points"] (spRefuse K cP)) (k_lines_of_pairs : Cal P w K mg base 3 "lines_of_pairs" ["points"] (spPairs K)) (k_places_on : Cal P w K mg base 3 "places_on" ["line", "points"] (spPlaces K)) :
    Cal P w K mg base 4 "lines" ["points"] (spLinesX K cP) := by
  refine S.cal (fun f fd F => okX F sc_lines (fun vs H Q E h => ?_) (fun cdv A outer s H vs Q E hr h => ?_)) (fun _ _ _ _ _ _ us hl => match us, hl with | [_], _ => rfl)
  · obtain ⟨r, ps, rfl, _⟩ := h
    rfl
  obtain ⟨r, ps, rfl, hps, hl, q, qE⟩ := h
  have nd := sc_lines.nd
  refine ⟨_, (pss_cons (ps_expr (pe_cX k_refuse_bad hr passX (a1 (pv 0))))
      (pss_one (ps_ret (pe_lc (tc := tYes) rfl (compS_mk (tgs := ["line"]) (caps := [("points", 0)]) rfl rfl rfl rfl ⟨rfl, trivial⟩ rfl rfl) (pi_list (pe_c k_lines_of_pairs hr (a1 (pv 0)))) (fun _ _ _ _ => (pg_name (i := 0) (show (["line", "points"] : List Str).Nodup by decide +kernel) rfl (Or.inl rfl))) (Or.inl ⟨rfl, rfl⟩) (fun _ _ _ _ => (pe_tup (a2 (pv 0) (pe_c k_places_on hr (a2 (pv 0) (pv 1)))))))))), ?_⟩
  refine ⟨_, rfl, r, ps, rfl, hps, hl, fun ok H1 s1 => ?_, fun nok H1 s1 => qE nok H1 s1⟩
  refine ⟨_, rfl, r, ps, rfl, hps.same s1, ok, fun L l2 zs H2 hL Llen s2 f2 hl2 hd2 => ?_⟩
  have zlen : zs.length = L.length := by
    have := Dens.length hd2
    rw [List.length_map] at this; exact this
  refine ⟨l2, rfl, ⟨_, SqL.of hl2⟩, comp_list (K := K) (a := l2) (xs := zs) (fun i ys σ' H7 => ∃ as, (∃ o', σ' = [o', some (.ref r)]) ∧ Same H2 H7 ∧ DensA K H7 ((L.take i).map (Ma.rowD ps)) ys as ∧ ys.length ≤ i ∧ as.Nodup ∧ ∀ a ∈ as, H a = none) ⟨[], ⟨none, rfl⟩, Same.refl _, DensA.nil, Nat.le_refl _, List.nodup_nil, fun _ z => nomatch z⟩ ?_ ?_ ?_ ?_⟩
  · rw [zlen]; exact Nat.le_trans Llen (by decide)
  · rintro i ys σ' H7 _ ⟨as, _, s7, _, hy, _⟩
    exact ⟨SqL.of (s7 _ _ hl2), hy⟩
  · rintro i z ys σ' H7 hz ⟨as, ⟨o', rfl⟩, s7, hd7, hy, and7, fr7⟩
    refine yesT ?_
    have hi : i < L.length := by
      have := (List.getElem?_eq_some_iff.mp hz).1
      omega
    have eL : L[i]? = some L[i] := List.getElem?_eq_getElem hi
    obtain ⟨lb, lt⟩ := isL_lb ok ((hL.mem L[i]).mp (List.getElem_mem hi))
    obtain ⟨zv, ez, hzd⟩ := Dens.at (i := i) hd2 (d := Ma.ln L[i]) (by rw [List.getElem?_map, eL]; rfl)
    rw [hz] at ez; cases ez
    have hz7 := Den.same s7 _ _ hzd
    refine ⟨_, rfl, _, rfl, _, rfl, z, r, L[i], ps, rfl, hz7, lb, hps.same (s1.trans (s2.trans s7)), ok, fun pl fpl => ⟨(by show 2 ≤ sizeLine; decide), fun tp ftp => ?_⟩⟩
    have sA := same_new fpl (.lst ((Ma.places L[i] ps).map V.int))
    have hpl : (upd H7 pl (.lst ((Ma.places L[i] ps).map V.int))) pl = some (.lst ((Ma.places L[i] ps).map V.int)) := upd_same
    generalize upd H7 pl (.lst ((Ma.places L[i] ps).map V.int)) = H9 at sA hpl ftp ⊢
    have sB := same_new ftp (.tup [z, .ref pl])
    have htp : (upd H9 tp (.tup [z, .ref pl])) tp = some (.tup [z, .ref pl]) := upd_same
    have hplB := sB _ _ hpl
    have sAB := sA.trans sB
    generalize upd H9 tp (.tup [z, .ref pl]) = HB at sB htp hplB sAB ⊢
    have nas : pl ∉ as := fun m => by
      obtain ⟨_, e⟩ := DensA.there _ _ _ hd7 pl m
      rw [fpl] at e; cases e
    refine ⟨as ++ [pl], ⟨_, rfl⟩, s7.trans sAB, ?_, by rw [List.length_append]; exact Nat.succ_le_succ hy, ?_, fun a m => ?_⟩
    · have et : (L.take (i + 1)).map (Ma.rowD ps) = (L.take i).map (Ma.rowD ps) ++ [Ma.rowD ps L[i]] := by
        rw [List.take_succ, eL, List.map_append]; rfl
      rw [et]
      have h1 : DenA K HB (Ma.ln L[i]) z [] := DenA.of _ _ (Ma.nol_ln _) (Den.same sAB _ _ hz7)
      have h2 : DenA K HB (.list ((Ma.places L[i] ps).map .int)) (.ref pl) [pl] := denA_lst hplB (densA_ints (K := K) (H := HB) (Ma.places L[i] ps))
      exact DensA.snoc (DensA.same sAB _ _ _ hd7) (denA_tup (SqT.of htp) (DensA.cons h1 (DensA.cons h2 DensA.nil)))
    · rw [List.nodup_append]
      refine ⟨and7, by simp, fun a ha b hb2 e => ?_⟩
      rw [List.mem_singleton.mp hb2] at e
      exact nas (e ▸ ha)
    · rcases List.mem_append.mp m with y | y
      · exact fr7 a y
      · rw [List.mem_singleton.mp y]; exact (s1.trans (s2.trans s7)).free fpl
  · rintro ys σ' H7 ⟨as, ⟨o', rfl⟩, s7, hd7, hy, and7, fr7⟩ p fp
    rw [zlen, List.take_length] at hd7
    have s8 := same_new fp (.lst ys)
    have npa : p ∉ as := fun m => by
      obtain ⟨_, e⟩ := DensA.there _ _ _ hd7 p m
      rw [fp] at e; cases e
    have s17 := s1.trans (s2.trans s7)
    refine q ok L _ (p :: as) _ hL Llen (s17.trans s8) ⟨denA_lst upd_same (DensA.same s8 _ _ _ hd7), List.nodup_cons.mpr ⟨npa, and7⟩, fun a m => ?_⟩
    rcases List.mem_cons.mp m with y | y
    · rw [y]; exact s17.free fp
    · exact fr7 a y
end
end Tw
namespace Tw
open PySem L2 L3
end Tw

namespace Tw
open PySem L2 L3
def spFrac (K : PySem.W.Frag) : Sp := fun vs H Q _ => ∃ t b : Int, vs = [.int t, .int b] ∧ b ≠ 0 ∧ -(2 ^ 199) < b ∧ b < 2 ^ 199 ∧ ∀ r H', Same H H' → Den K H' (itup (Ma.frac t b)) r → Q r H'
section
variable {P : Program} {w : World} {K : PySem.W.Frag} {mg : Str → Option Value} {base : Heap}
theorem sc_fraction : FnScope ["top", "bottom", "divisor"] ["top", "bottom"] (defScope s_fraction) := ⟨rfl, rfl, rfl, by decide +kernel, rfl, by decide +kernel, by decide +kernel⟩
theorem c_fraction (S : Src K mg "fraction" s_fraction) (k_greatest_divisor : Cal P w K mg base 1 "greatest_divisor" ["one", "other"] spGcd) : Cal P w K mg base 2 "fraction" ["top", "bottom"] (spFrac K) := by
  refine S.cal (fun f fd F => okN F sc_fraction (fun vs H Q E h => ?_) (fun cdv A outer s H vs Q E hr h => ?_)) (fun _ _ _ _ _ _ us hl => match us, hl with | [_, _], _ => rfl)
  · obtain ⟨t, b, rfl, _⟩ := h
    rfl
  obtain ⟨t, b, rfl, hb, hb1, hb2, k⟩ := h
  have nd := sc_fraction.nd
  refine ⟨_, (pss_cons (sset 2 nd (pe_c k_greatest_divisor hr (a2 (pv 0) (pv 1))))
      (pss_cons (ps_if (cmp op_lt (pv 1) pe_int) (pss_one (sset 2 nd (pe_un un_neg (pv 2)))) pss_nil)
      (pss_one (ps_ret (pe_tup (a2 (pe_op op_fdivZ (pv 0) (pv 2)) (pe_op op_fdivZ (pv 1) (pv 2)))))))), ?_⟩
  have g0 := Ma.gc_pos (t := t) (b := b) hb
  have g1 := Ma.gc_le (t := t) (b := b) hb
  have gb : ((Int.gcd t b : Nat) : Int) = Ma.gc t b := rfl
  have p1 : (2 : Int) ^ 199 ≤ ((2 ^ 200 : Nat) : Int) := by decide
  refine ⟨_, rfl, _, rfl, t, b, rfl, ?_⟩
  refine ⟨_, rfl, _, _, rfl, rfl, _, rfl, ite2 (fun c => ?_) (fun c => ?_)⟩
  · have c' : b < 0 := of_decide_eq_true c
    have hz : CDivZ t (-((Int.gcd t b : Nat) : Int)) := ⟨by omega, by omega⟩
    have hz2 : CDivZ b (-((Int.gcd t b : Nat) : Int)) := ⟨by omega, by omega⟩
    refine ⟨_, rfl, _, rfl, ?_⟩
    refine ⟨_, rfl, _, rfl, _, _, rfl, rfl, hz, _, rfl, _, rfl, _, _, rfl, rfl, hz2, ?_⟩
    exact tupN (Same.refl H) k (congrArg itup (Ma.frac_prog hb (by rw [if_pos c', gb]))) (by show 2 ≤ 1000; decide)
  · have c' : ¬ b < 0 := of_decide_eq_false (Bool.eq_false_iff.mpr c)
    have hz : CDivZ t ((Int.gcd t b : Nat) : Int) := ⟨by omega, by omega⟩
    have hz2 : CDivZ b ((Int.gcd t b : Nat) : Int) := ⟨by omega, by omega⟩
    refine ⟨_, rfl, _, rfl, _, _, rfl, rfl, hz, _, rfl, _, rfl, _, _, rfl, rfl, hz2, ?_⟩
    exact tupN (Same.refl H) k (congrArg itup (Ma.frac_prog hb (by rw [if_neg c', gb]))) (by show 2 ≤ 1000; decide)
end
end Tw

namespace Tw
open PySem L2 L3
section
variable {P : Program} {w : World} {K : PySem.W.Frag} {mg : Str → Option Value} {base : Heap}
theorem sc_gap : FnScope ["line", "point", "off"] ["line", "point"] (defScope s_gap) := ⟨rfl, rfl, rfl, by decide +kernel, rfl, by decide +kernel, by decide +kernel⟩
theorem c_gap (S : Src K mg "gap" s_gap) (k_offset : Cal P w K mg base 1 "offset" ["line", "point"] (spOff K)) (k_fraction : Cal P w K mg base 2 "fraction" ["top", "bottom"] (spFrac K)) : Cal P w K mg base 3 "gap" ["line", "point"] (spGap K) := by
  refine S.cal (fun f fd F => okN F sc_gap (fun vs H Q E h => ?_) (fun cdv A outer s H vs Q E hr h => ?_)) (fun _ _ _ _ _ _ us hl => match us, hl with | [_, _], _ => rfl)
  · obtain ⟨u, v, l, p, rfl, _⟩ := h
    rfl
  obtain ⟨u, v, l, p, rfl, hu1, hv1, L, up, bp, k⟩ := h
  have nd := sc_gap.nd
  have hr1 := hr.mono (show 1 ≤ 2 by decide)
  obtain ⟨ua, rfl, hua⟩ := ln_of hu1
  refine ⟨_, (pss_cons (sset 2 nd (pe_c k_offset hr1 (a2 (pv 0) (pv 1))))
      (pss_one (ps_ret (pe_c k_fraction hr (a2 (pe_op op_mul (pv 2) (pv 2)) (pe_op op_add (pe_op op_mul (ixT (pv 0) pe_int) (ixT (pv 0) pe_int)) (pe_op op_mul (ixT (pv 0) pe_int) (ixT (pv 0) pe_int)))))))), ?_⟩
  have la := L.a
  have lb := L.b
  have ob := Ma.off_bd L bp
  have n1 := Ma.nn_pos up
  have n2 := Ma.nn_bd L
  have e2 : (8000000000000 : Int) < 2 ^ 199 := by decide
  refine ⟨_, rfl, _, rfl, _, v, l, p, rfl, hu1, hv1, L, bp, ?_⟩
  refine ⟨_, rfl, _, rfl, _, _, rfl, rfl, c_small ⟨by omega, by omega⟩, ?_⟩
  refine ⟨_, rfl, ua, _, 0, _, rfl, rfl, hua, rfl, _, rfl, ua, _, 0, _, rfl, rfl, hua, rfl, _, _, rfl, rfl, c_small ⟨by omega, by omega⟩, ?_⟩
  refine ⟨_, rfl, ua, _, 1, _, rfl, rfl, hua, rfl, _, rfl, ua, _, 1, _, rfl, rfl, hua, rfl, _, _, rfl, rfl, c_small ⟨by omega, by omega⟩, _, _, rfl, rfl, ?_⟩
  exact ⟨_, _, rfl, (show Ma.nn l ≠ 0 by omega), (show -(2 ^ 199) < Ma.nn l by omega), (show Ma.nn l < 2 ^ 199 by omega), fun r H' s' hd => k r H' s' hd⟩
end
end Tw

namespace Ma
open PySem L2 L3
end Ma
namespace Tw
open PySem L2 L3
theorem first_two {ps : List Ma.Pt} (ok : PsOk ps) : ∃ p q, ps[0]? = some p ∧ ps[1]? = some q ∧ p ∈ ps ∧ q ∈ ps ∧ p ≠ q := by
  have z := ok.two
  have nd := ok.good.nd
  match ps, z, nd with
  | p :: q :: r, _, nd => exact ⟨p, q, rfl, rfl, by simp, by simp, fun e => by subst e; simp at nd⟩
end Tw

namespace Tw
open PySem L2 L3
def spNear (K : PySem.W.Frag) : Sp := fun vs H Q _ => ∃ (r : Addr) (ps : List Ma.Pt), vs = [.ref r] ∧ PtsAt K H r ps ∧ PsOk ps ∧ ∀ d v H', Ma.NearIs ps d → Same H H' → Den K H' d v → Q v H'
theorem any_ln {L : List Ma.Ln} {l : Ma.Ln} (h : l ∈ L) : ((L.map Ma.ln).any fun e => PyData.eqv e (Ma.ln l)) = true := by
  rw [List.any_eq_true]
  exact ⟨_, List.mem_map.mpr ⟨l, h, rfl⟩, by rw [Ma.eqv_ln, decide_eq_true rfl]⟩
theorem near_parts {K : PySem.W.Frag} {H : Hp} {i : Int} {l : Ma.Ln} {ms : List Int} {v : V} (h : Den K H (.tuple [.int i, Ma.ln l, itup ms]) v) : ∃ ft y z, v = .ref ft ∧ SqT K H ft [.int i, y, z] ∧ Den K H (Ma.ln l) y ∧ Den K H (itup ms) z := by
  obtain ⟨ft, xs, rfl, h1, h2⟩ := h.tup_of
  obtain ⟨x, y, z, rfl, hx, hy, hz⟩ := h2.three
  rw [hx.int_of] at h1
  exact ⟨ft, y, z, rfl, h1, hy, hz⟩
end Tw

namespace Ma
open PySem L2 L3
def gapD (ps : List Pt) (x : Nat × Ln) : PyData := .tuple [.int (x.1 : Int), ln x.2, itup (gapOf x.2 (ps.getD x.1 (0, 0)))]
/-- off the lines: a place and a line, the point there not on it -/
def OffP (ps : List Pt) (x : Nat × Ln) : Prop := ∃ p, ps[x.1]? = some p ∧ ¬ On x.2 p
theorem places_iff {l : Ln} {ps : List Pt} {k : Nat} {p : Pt} (e : ps[k]? = some p) : (k : Int) ∈ places l ps ↔ On l p := by
  constructor
  · intro m
    obtain ⟨i, q, e1, e2, o⟩ := places_mem m
    have : i = k := by omega
    subst this
    rw [e] at e2; cases e2; exact o
  · exact mem_places e
end Ma
namespace Tw
open PySem L2 L3
def spGapsX (K : PySem.W.Frag) (cP : Addr) : Sp := fun vs H Q E => ∃ (r : Addr) (ps : List Ma.Pt), vs = [.ref r] ∧ PtsAt K H r ps ∧ ps.length ≤ 1000 ∧
  (PsOk ps → ∀ (G : List (Nat × Ma.Ln)) (l : Addr) (zs : List V) H', (∀ x, x ∈ G ↔ Ma.IsL ps x.2 ∧ Ma.OffP ps x) → Same H H' → H' l = some (.lst zs) → Dens K H' (G.map (Ma.gapD ps)) zs → zs.length ≤ 20000 → Q (.ref l) H') ∧ (¬ PsOk ps → ∀ H', Same H H' → E (.ref cP) none H')
section
variable {P : Program} {w : World} {K : PySem.W.Frag} {mg : Str → Option Value} {base : Heap}
theorem sc_gaps_off_lines : FnScope ["points", "found", "pair", "place"] ["points"] (defScope s_gaps_off_lines) := ⟨rfl, rfl, rfl, by decide +kernel, rfl, by decide +kernel, by decide +kernel⟩
theorem c_gaps_off_lines {cP : Addr} (S : Src K mg "gaps_off_lines" s_gaps_off_lines) (m_len : mg "len" = none) (m_range : mg "range" = none) (k_lines : Cal P w K mg base 4 "lines" ["points"] (spLinesX K cP)) (k_gap : Cal P w K mg base 3 "gap" ["line", "point"] (spGap K)) :
    Cal P w K mg base 5 "gaps_off_lines" ["points"] (spGapsX K cP) := by
  refine S.cal (fun f fd F => okX F sc_gaps_off_lines (fun vs H Q E h => ?_) (fun cdv A outer s H vs Q E hr h => ?_)) (fun _ _ _ _ _ _ us hl => match us, hl with | [_], _ => rfl)
  · obtain ⟨r, ps, rfl, _⟩ := h
    rfl
  obtain ⟨r, ps, rfl, hps, hl, q, qE⟩ := h
  have nd := sc_gaps_off_lines.nd
  have hr3 := hr.mono (show 3 ≤ 4 by decide)
  have hu : (A.deeper (PyProof.Rows.envOfC "gaps_off_lines" (defScope s_gaps_off_lines) s.heap.objs.size f cdv)).units + 40 < cLine := by have := hr.units; omega
  refine ⟨_, (pss_cons (sset 1 nd (pe_lst pa_nil))
      (pss_cons (ps_for PassesOwn.leaving rfl (pi_list (pe_cX k_lines hr passX (a1 (pv 0)))) (pg_name (i := 2) nd rfl (by first | exact Or.inl rfl | exact Or.inr rfl)) (pss_one (ps_for PassesOwn.leaving rfl (pi_range1 rfl m_range (a1 (callB b_len call_len_seq m_len (a1 (pv 0))))) (pg_name (i := 3) nd rfl (by first | exact Or.inl rfl | exact Or.inr rfl)) (pss_one (ps_if (cmp (op_notinD hu) (pv 3) (ixT (pv 2) pe_int)) (pss_one (ps_expr (pe_bm PySem.F.plainAttrs_list PySem.F.slot_list_append PySem.F.type_list_append mt_append (pv 1) (a1 (pe_tup (a3 (pv 3) (ixT (pv 2) pe_int) (pe_c k_gap hr3 (a2 (ixT (pv 2) pe_int) (ixL (pv 0) (pv 3)))))))))) pss_nil)))))
      (pss_one (ps_ret (pv 1))))), ?_⟩
  refine ⟨(by show 0 ≤ sizeLine; decide), fun fl ffl => ?_⟩
  have s0 := same_new ffl (.lst [])
  have hfl0 : (upd H fl (.lst [])) fl = some (.lst []) := upd_same
  generalize upd H fl (.lst []) = H0 at s0 hfl0 ⊢
  refine ⟨_, rfl, r, ps, rfl, hps.same s0, hl, fun ok L fv fas H1 hL Llen s1 nf => ?_, fun nok H1 s1 => qE nok H1 (s0.trans s1)⟩
  obtain ⟨fden, fnd, ffr⟩ := nf
  obtain ⟨fa, xs, as, rfl, hfa, hfx, rfl⟩ := fden.lst_of
  have hra : RowsAt K H1 ps L xs as := rows_of hfx
  have z20 := ok.len
  obtain ⟨px, hpx, hpl0, hpat⟩ := (hps.same (s0.trans s1)).get
  have nfa : fa ≠ fl := fun z => by
    have := ffr fa (by simp)
    rw [z, hfl0] at this; cases this
  have nr : r ≠ fl := fun z => by
    obtain ⟨xs0, h0, _⟩ := hps
    rw [z, ffl] at h0; cases h0
  have npl : ∀ a ∈ as, a ≠ fl := fun a m z => by
    have := ffr a (List.mem_cons_of_mem _ m)
    rw [z, hfl0] at this; cases this
  have hfl1 := s1 _ _ hfl0
  have hb : (px.length : Int).toNat = ps.length := by omega
  -- what stays while found grows
  have tk : ∀ {H2 : Hp} {ys : List V}, (∀ b ob, b ≠ fl → H1 b = some ob → H2 b = some ob) → H2 fl = some (.lst ys) → ∀ d v, nol d = true → Den K H1 d v → Den K H2 d v := fun {H2 ys} kp e d v n h => by
    have h1 : Den K (upd H1 fl (.lst ys)) d v := Den.upd hfl1 d v n h
    refine Den.same (fun b ob z => ?_) d v h1
    by_cases c : b = fl
    · subst c; rw [upd_same] at z; cases z; exact e
    · rw [upd_ne c] at z; exact kp b ob c z
  have tkT : ∀ {H2 : Hp} {ys : List V} {a : Addr} {us : List V}, (∀ b ob, b ≠ fl → H1 b = some ob → H2 b = some ob) → H2 fl = some (.lst ys) → SqT K H1 a us → SqT K H2 a us := fun {H2 ys a us} kp e h => by
    have h1 : SqT K (upd H1 fl (.lst ys)) a us := upd_seqT hfl1 h
    refine same_seqT (fun b ob z => ?_) h1
    by_cases c : b = fl
    · subst c; rw [upd_same] at z; cases z; exact e
    · rw [upd_ne c] at z; exact kp b ob c z
  refine ⟨fa, rfl, ⟨_, SqL.of hfa⟩, for_list (K := K) (a := fa) (xs := xs) (fun i σ H2 => ∃ (o2 o3 : Option V) (G : List (Nat × Ma.Ln)) (ys : List V), σ = [some (.ref r), some (.ref fl), o2, o3] ∧ (∀ b ob, b ≠ fl → H1 b = some ob → H2 b = some ob) ∧ H2 fl = some (.lst ys) ∧ Dens K H2 (G.map (Ma.gapD ps)) ys ∧ ys.length ≤ i * 20 ∧ ∀ x, x ∈ G ↔ (∃ j : Nat, j < i ∧ L[j]? = some x.2) ∧ Ma.OffP ps x)
    ⟨none, none, [], [], rfl, fun b ob _ e => e, hfl1, Dens.nil, Nat.zero_le _, fun x => ⟨fun m => (nomatch m), fun ⟨⟨j, z, _⟩, _⟩ => absurd z (Nat.not_lt_zero _)⟩⟩ ?_ ?_ ?_⟩
  · rintro i σ H2 _ ⟨o2, o3, G, ys, _, kp, _⟩
    exact SqL.of (kp fa _ nfa hfa)
  · rintro i v σ H2 hv ⟨o2, o3, G, ys, rfl, kp, hfl2, hd2, hy, hG⟩
    have hi : i < L.length := by rw [← hra.lx]; exact (List.getElem?_eq_some_iff.mp hv).1
    have eL : L[i]? = some L[i] := List.getElem?_eq_getElem hi
    have isl := (hL.mem L[i]).mp (List.getElem_mem hi)
    obtain ⟨lb, lt⟩ := isL_lb ok isl
    generalize L[i] = l at eL isl lb lt
    obtain ⟨v', pl, ev, ea, t, z, rfl, ht, hz, hpl⟩ := hra.at_ i _ eL
    rw [hv] at ev; cases ev
    have nplf := npl pl (List.mem_of_getElem? ea)
    refine ⟨_, rfl, r, px, rfl, .inl (SqL.of (kp r _ nr hpx)), _, rfl, by omega, by omega, for_range (n := (px.length : Int).toNat) (fun k σ H3 => ∃ (o3 : Option V) (G : List (Nat × Ma.Ln)) (ys : List V), σ = [some (.ref r), some (.ref fl), some (.ref t), o3] ∧ (∀ b ob, b ≠ fl → H1 b = some ob → H3 b = some ob) ∧ H3 fl = some (.lst ys) ∧ Dens K H3 (G.map (Ma.gapD ps)) ys ∧ ys.length ≤ i * 20 + k ∧ ∀ x, x ∈ G ↔ ((∃ j : Nat, j < i ∧ L[j]? = some x.2) ∨ (x.2 = l ∧ x.1 < k)) ∧ Ma.OffP ps x)
      ⟨o3, G, ys, rfl, kp, hfl2, hd2, hy, fun x => (hG x).trans ⟨fun ⟨a, b⟩ => ⟨.inl a, b⟩, fun ⟨a, b⟩ => ⟨a.elim id fun z => absurd z.2 (Nat.not_lt_zero _), b⟩⟩⟩ ?_ ?_⟩
    · rintro k σ H3 hk ⟨o3, G, ys, rfl, kp, hfl3, hd3, hy, hG⟩
      have hk' : k < ps.length := by omega
      have ep : ps[k]? = some ps[k] := List.getElem?_eq_getElem hk'
      obtain ⟨x, ex, dx⟩ := hpat k _ ep
      have e0 : (0 : Int) + (k : Int) = (k : Int) := Int.zero_add _
      rw [e0]
      have ht3 := tkT kp hfl3 ht
      have hpl3 := kp pl _ nplf hpl
      refine ⟨_, rfl, _, rfl, t, _, 1, _, rfl, rfl, ht3, rfl, .int (k : Int), (Ma.places l ps).map .int, pl, _, rfl, .inl (SqL.of hpl3), dens_ints _, den_int, rfl, fun e he => ?_, _, rfl, ?_⟩
      · obtain ⟨m, _, rfl⟩ := List.mem_map.mp he
        rfl
      show if (!((Ma.places l ps).map PyData.int).any fun e => PyData.eqv e (.int (k : Int))) = true then _ else _
      rw [Ma.any_int]
      by_cases c : Ma.On l ps[k]
      · rw [decide_eq_true ((Ma.places_iff ep).mpr c)]
        refine iteF ⟨_, G, ys, rfl, kp, hfl3, hd3, by omega, fun x => (hG x).trans ⟨fun ⟨a, b⟩ => ⟨a.imp id fun z => ⟨z.1, by omega⟩, b⟩, fun ⟨a, b⟩ => ⟨?_, b⟩⟩⟩
        rcases a with a | ⟨a1, a2⟩
        · exact .inl a
        · by_cases e : x.1 = k
          · obtain ⟨p, b1, b2⟩ := b
            rw [e, ep] at b1; cases b1
            rw [a1] at b2
            exact (b2 c).elim
          · exact .inr ⟨a1, by omega⟩
      · rw [decide_eq_false (fun z => c ((Ma.places_iff ep).mp z))]
        have hz3 := tk kp hfl3 _ _ (Ma.nol_ln l) hz
        refine iteT ⟨_, rfl, .inl ⟨rfl, _, SqL.of hfl3⟩, _, rfl, _, rfl, t, _, 0, _, rfl, rfl, ht3, rfl, _, rfl, t, _, 0, _, rfl, rfl, ht3, rfl, _, rfl, _, rfl, r, px, _, x, rfl, rfl, SqL.of (kp r _ nr hpx), atI_nat ex, z, x, l, ps[k], rfl, hz3, tk kp hfl3 _ _ (Ma.nol_pt _) dx, lb, lt.up, ok.good.inb _ (List.getElem_mem hk'), fun g H4 s4 hg => ⟨(by show 3 ≤ sizeLine; decide), fun tp ftp => ?_⟩⟩
        have s5 := same_new ftp (.tup [.int (k : Int), z, g])
        have htp : (upd H4 tp (.tup [.int (k : Int), z, g])) tp = some (.tup [.int (k : Int), z, g]) := upd_same
        generalize upd H4 tp (.tup [.int (k : Int), z, g]) = H5 at s5 htp ⊢
        have s45 := s4.trans s5
        have hfl5 := s45 _ _ hfl3
        refine ⟨fl, ys, _, rfl, rfl, hfl5, Nat.lt_of_le_of_lt (show ys.length ≤ 30000 by omega) (by decide), ?_⟩
        have row : Den K H5 (Ma.gapD ps (k, l)) (.ref tp) := by
          refine den_tup (SqT.of htp) (Dens.cons den_int (Dens.cons (Den.same s45 _ _ hz3) (Dens.cons ?_ Dens.nil)))
          have eg : ps.getD k (0, 0) = ps[k] := by rw [List.getD_eq_getElem?_getD, ep]; rfl
          show Den K H5 (itup (Ma.gapOf l (ps.getD k (0, 0)))) g
          rw [eg]
          exact Den.same s5 _ _ hg
        have nolG : ∀ G : List (Nat × Ma.Ln), nols (G.map (Ma.gapD ps)) = true := fun G => by
          induction G with
          | nil => rfl
          | cons x G ih =>
            rw [List.map_cons]
            simp only [nols, ih, Bool.and_true]
            show (true && (nol (Ma.ln x.2) && (nol (itup (Ma.gapOf x.2 (ps.getD x.1 (0, 0)))) && true))) = true
            rw [Ma.nol_ln, nol_ints]; rfl
        refine ⟨_, G ++ [(k, l)], ys ++ [.ref tp], rfl, fun b ob nb e => ?_, upd_same, ?_, ?_, fun y => ?_⟩
        · rw [upd_ne nb]; exact s45 b ob (kp b ob nb e)
        · rw [List.map_append]
          refine Dens.append (Dens.upd hfl5 _ _ (nolG G) (Dens.same s45 _ _ hd3)) (Dens.cons (Den.upd hfl5 _ _ ?_ row) Dens.nil)
          have := nolG [(k, l)]
          simpa only [List.map_cons, List.map_nil, nols, Bool.and_true] using this
        · rw [List.length_append]
          show ys.length + 1 ≤ _
          omega
        · rw [List.mem_append, List.mem_singleton, hG y]
          constructor
          · rintro (⟨a, b⟩ | rfl)
            · exact ⟨a.imp id fun z => ⟨z.1, by omega⟩, b⟩
            · exact ⟨.inr ⟨rfl, Nat.lt_succ_self _⟩, ps[k], ep, c⟩
          · rintro ⟨a, b⟩
            rcases a with a | ⟨a1, a2⟩
            · exact .inl ⟨.inl a, b⟩
            · by_cases e : y.1 = k
              · exact .inr (Prod.ext e a1)
              · exact .inl ⟨.inr ⟨a1, by omega⟩, b⟩
    · rintro σ H3 ⟨o3, G, ys, rfl, kp, hfl3, hd3, hy, hG⟩
      refine ⟨_, _, G, ys, rfl, kp, hfl3, hd3, by omega, fun x => (hG x).trans ⟨fun ⟨a, b⟩ => ⟨?_, b⟩, fun ⟨⟨j, a1, a2⟩, b⟩ => ⟨?_, b⟩⟩⟩
      · rcases a with ⟨j, a1, a2⟩ | ⟨a1, a2⟩
        · exact ⟨j, by omega, a2⟩
        · exact ⟨i, Nat.lt_succ_self _, by rw [eL, a1]⟩
      · rcases Nat.lt_or_eq_of_le (Nat.le_of_lt_succ a1) with y | y
        · exact .inl ⟨j, y, a2⟩
        · subst y
          rw [eL] at a2
          have e2 : x.2 = l := (Option.some.inj a2).symm
          obtain ⟨p, b1, b2⟩ := b
          have := (List.getElem?_eq_some_iff.mp b1).1
          exact .inr ⟨e2, by omega⟩
  · rintro σ H2 ⟨o2, o3, G, ys, rfl, kp, hfl2, hd2, hy, hG⟩
    refine ⟨_, rfl, q ok G fl ys H2 (fun x => (hG x).trans ⟨fun ⟨⟨j, _, a2⟩, b⟩ => ⟨(hL.mem _).mp (List.mem_of_getElem? a2), b⟩, fun ⟨a, b⟩ => ⟨?_, b⟩⟩) (fun b ob e => kp b ob (ne_of_none e ffl) ((s0.trans s1) b ob e)) hfl2 hd2 (by rw [hra.lx] at hy; omega)⟩
    obtain ⟨j, hj, e⟩ := List.getElem_of_mem ((hL.mem _).mpr a)
    exact ⟨j, by rw [hra.lx]; exact hj, by rw [List.getElem?_eq_getElem hj, e]⟩
end
end Tw

namespace Tw
open PySem L2 L3
def spSmaller (K : PySem.W.Frag) : Sp := fun vs H Q _ => ∃ (u v : V) (a b c d : Int), vs = [u, v] ∧ Den K H (itup [a, b]) u ∧ Den K H (itup [c, d]) v ∧ 0 < b ∧ b ≤ 8000000000000 ∧ 0 < d ∧ d ≤ 8000000000000 ∧ Q (.bl (decide (a * d < c * b))) H
def spNearX (K : PySem.W.Frag) (cP : Addr) : Sp := fun vs H Q E => ∃ (r : Addr) (ps : List Ma.Pt), vs = [.ref r] ∧ PtsAt K H r ps ∧ ps.length ≤ 1000 ∧ (PsOk ps → ∀ d v H', Ma.NearIs ps d → Same H H' → Den K H' d v → Q v H') ∧ (¬ PsOk ps → ∀ H', Same H H' → E (.ref cP) none H')
section
variable {P : Program} {w : World} {K : PySem.W.Frag} {mg : Str → Option Value} {base : Heap}
theorem tup2_of {H : Hp} {a b : Int} {v : V} (h : Den K H (itup [a, b]) v) : ∃ t, v = .ref t ∧ SqT K H t [.int a, .int b] := by
  obtain ⟨t, xs, rfl, h1, h2⟩ := h.tup_of
  rw [dens_ints_of (ms := [a, b]) h2] at h1
  exact ⟨t, rfl, h1⟩
theorem sc_is_smaller : FnScope ["one", "other"] ["one", "other"] (defScope s_is_smaller) := ⟨rfl, rfl, rfl, by decide +kernel, rfl, by decide +kernel, by decide +kernel⟩
theorem c_is_smaller (S : Src K mg "is_smaller" s_is_smaller) : Cal P w K mg base 1 "is_smaller" ["one", "other"] (spSmaller K) := by
  refine S.cal (fun f fd F => okN F sc_is_smaller (fun vs H Q E h => ?_) (fun cdv A outer s H vs Q E hr h => ?_)) (fun _ _ _ _ _ _ us hl => match us, hl with | [_, _], _ => rfl)
  · obtain ⟨u, v, a, b, c, d, rfl, _⟩ := h
    rfl
  obtain ⟨u, v, a, b, c, d, rfl, hu1, hv1, b0, b1, d0, d1, q⟩ := h
  obtain ⟨ua, rfl, hua⟩ := tup2_of hu1
  obtain ⟨va, rfl, hva⟩ := tup2_of hv1
  refine ⟨_, (pss_one (ps_ret (cmpE op_lt (pe_op op_mul (ixT (pv 0) pe_int) (ixT (pv 1) pe_int)) (pe_op op_mul (ixT (pv 1) pe_int) (ixT (pv 0) pe_int))))), ?_⟩
  refine ⟨_, rfl, ua, _, 0, _, rfl, rfl, hua, rfl, _, rfl, va, _, 1, _, rfl, rfl, hva, rfl, _, _, rfl, rfl, .inr ⟨by omega, by omega⟩, ?_⟩
  exact ⟨_, rfl, va, _, 0, _, rfl, rfl, hva, rfl, _, rfl, ua, _, 1, _, rfl, rfl, hua, rfl, _, _, rfl, rfl, .inr ⟨by omega, by omega⟩, _, _, rfl, rfl, q⟩
theorem sc_nearest : FnScope ["points", "least", "found"] ["points"] (defScope s_nearest) := ⟨rfl, rfl, rfl, by decide +kernel, rfl, by decide +kernel, by decide +kernel⟩
theorem c_nearest {cP : Addr} (S : Src K mg "nearest" s_nearest) (k_gaps_off_lines : Cal P w K mg base 5 "gaps_off_lines" ["points"] (spGapsX K cP)) (k_is_smaller : Cal P w K mg base 1 "is_smaller" ["one", "other"] (spSmaller K)) : Cal P w K mg base 6 "nearest" ["points"] (spNearX K cP) := by
  refine S.cal (fun f fd F => okX F sc_nearest (fun vs H Q E h => ?_) (fun cdv A outer s H vs Q E hr h => ?_)) (fun _ _ _ _ _ _ us hl => match us, hl with | [_], _ => rfl)
  · obtain ⟨r, ps, rfl, _⟩ := h
    rfl
  obtain ⟨r, ps, rfl, hps, hl, q, qE⟩ := h
  have nd := sc_nearest.nd
  have hr1 := hr.mono (show 1 ≤ 5 by decide)
  refine ⟨_, (pss_cons (sset 1 nd pe_non)
      (pss_cons (ps_for PassesOwn.leaving rfl (pi_list (pe_cX k_gaps_off_lines hr passX (a1 (pv 0)))) (pg_name (i := 2) nd rfl (by first | exact Or.inl rfl | exact Or.inr rfl)) (pss_one (ps_if (PW.pt (pw_or (cmp op_isN (pv 1) pe_non) (pw_or1 (tval (pe_c k_is_smaller hr1 (a2 (ixT (pv 2) pe_int) (ixT (pv 1) pe_int))))))) (pss_one (sset 1 nd (pv 2))) pss_nil)))
      (pss_one (ps_ret (pv 1))))), ?_⟩
  refine ⟨_, rfl, r, ps, rfl, hps, hl, fun ok G gl zs H1 hG s1 hgl hd1 zl => ?_, fun nok H1 s1 => qE nok H1 s1⟩
  have zlen : zs.length = G.length := by
    have := Dens.length hd1
    rw [List.length_map] at this; exact this
  -- the j-th, taken apart
  have at_ : ∀ (j : Nat) x, G[j]? = some x → ∃ v t z g p, zs[j]? = some v ∧ v = .ref t ∧ SqT K H1 t [.int (x.1 : Int), z, g] ∧ Den K H1 (itup (Ma.gapOf x.2 p)) g ∧ Den K H1 (Ma.gapD ps x) v ∧ ps[x.1]? = some p ∧ ¬ Ma.On x.2 p ∧ Ma.IsL ps x.2 := fun j x e => by
    obtain ⟨v, ev, dv⟩ := Dens.at (i := j) hd1 (d := Ma.gapD ps x) (by rw [List.getElem?_map, e]; rfl)
    obtain ⟨isl, p, ep, no⟩ := (hG x).mp (List.mem_of_getElem? e)
    have eg : ps.getD x.1 (0, 0) = p := by rw [List.getD_eq_getElem?_getD, ep]; rfl
    obtain ⟨t, us, rfl, h1, h2⟩ := Den.tup_of dv
    obtain ⟨a, z, g, rfl, ha, hz, hg⟩ := h2.three
    rw [ha.int_of] at h1
    rw [eg] at hg
    exact ⟨_, t, z, g, p, ev, rfl, h1, hg, dv, ep, no, isl⟩
  have bd : ∀ {l : Ma.Ln}, Ma.IsL ps l → ∀ p, ∃ x y, Ma.gapOf l p = [x, y] ∧ 0 < y ∧ y ≤ 8000000000000 ∧ x * Ma.nn l = Ma.off l p * Ma.off l p * y := fun {l} isl p => by
    obtain ⟨x, y, e1, y0, b1, b2, _⟩ := Ma.gap_parts isl.told p
    exact ⟨x, y, e1, y0, Int.le_trans b2 (Ma.nn_bd (isL_lb ok isl).1), b1⟩
  refine ⟨gl, rfl, ⟨_, SqL.of hgl⟩, for_list (K := K) (a := gl) (xs := zs) (fun i σ H2 => H2 = H1 ∧ ∃ (lv : V) (o2 : Option V), σ = [some (.ref r), some lv, o2] ∧ ((lv = .non ∧ i = 0) ∨ ∃ (j : Nat) (x : Nat × Ma.Ln) (p : Ma.Pt), G[j]? = some x ∧ zs[j]? = some lv ∧ ps[x.1]? = some p ∧ ∀ (j' : Nat) y p', j' < i → G[j']? = some y → ps[y.1]? = some p' → ¬ Ma.GLt y.2 p' x.2 p))
    ⟨rfl, .non, none, rfl, .inl ⟨rfl, rfl⟩⟩ ?_ ?_ ?_⟩
  · rintro i σ H2 _ ⟨rfl, _⟩
    exact SqL.of hgl
  · rintro i v σ H2 hv ⟨rfl, lv, o2, rfl, hI⟩
    have hi : i < G.length := by
      have := (List.getElem?_eq_some_iff.mp hv).1
      omega
    obtain ⟨v', t, z, g, p, ev, rfl, ht, hg, dv, ep, no, isl⟩ := at_ i _ (List.getElem?_eq_getElem hi)
    have eG : G[i]? = some G[i] := List.getElem?_eq_getElem hi
    generalize G[i] = x at eG ht hg dv ep no isl
    rw [hv] at ev; cases ev
    rcases hI with ⟨rfl, rfl⟩ | ⟨j, y, p2, ey, el, ep2, hmin⟩
    · refine ⟨_, rfl, rfl, _, rfl, ?_⟩
      refine iteDT rfl (iteT ?_)
      refine ⟨_, rfl, rfl, _, _, rfl, .inr ⟨0, x, p, eG, hv, ep, fun j' y p' hj' e1 e2 => ?_⟩⟩
      have : j' = 0 := by omega
      subst this
      rw [eG] at e1; cases e1
      rw [ep] at e2; cases e2
      exact Int.lt_irrefl _
    · obtain ⟨lv', t2, z2, g2, p3, el', rfl, ht2, hg2, dv2, ep3, no2, isl2⟩ := at_ j y ey
      rw [el] at el'; cases el'
      rw [ep2] at ep3; cases ep3
      obtain ⟨a, b, e1, b0, b1, b2⟩ := bd isl p
      obtain ⟨c, d, e2, d0, d1, d2⟩ := bd isl2 p2
      refine ⟨_, rfl, rfl, _, rfl, ?_⟩
      refine iteD (fun z => by cases z) ?_
      rw [e1] at hg
      rw [e2] at hg2
      refine ⟨_, rfl, t, _, 2, _, rfl, rfl, ht, rfl, _, rfl, t2, _, 2, _, rfl, rfl, ht2, rfl, g, g2, a, b, c, d, rfl, hg, hg2, b0, b1, d0, d1, _, rfl, ?_⟩
      have key := Ma.gap_lt isl.told isl2.told b0 d0 b2 d2
      refine ite2 (fun cc => ?_) (fun cc => ?_)
      · have lt := key.mp (of_decide_eq_true cc)
        refine ⟨_, rfl, rfl, _, _, rfl, .inr ⟨i, x, p, eG, hv, ep, fun j' y' p' hj' f1 f2 gl' => ?_⟩⟩
        rcases Nat.lt_or_eq_of_le (Nat.le_of_lt_succ hj') with yy | yy
        · have isl3 := ((hG y').mp (List.mem_of_getElem? f1)).1
          exact hmin j' y' p' yy f1 f2 (Ma.GLt.trans isl3.told isl.told isl2.told gl' lt)
        · subst yy
          rw [eG] at f1; cases f1
          rw [ep] at f2; cases f2
          exact Int.lt_irrefl _ gl'
      · have nlt : ¬ Ma.GLt x.2 p y.2 p2 := fun z => cc (decide_eq_true (key.mpr z))
        refine ⟨rfl, _, _, rfl, .inr ⟨j, y, p2, ey, el, ep2, fun j' y' p' hj' f1 f2 => ?_⟩⟩
        rcases Nat.lt_or_eq_of_le (Nat.le_of_lt_succ hj') with yy | yy
        · exact hmin j' y' p' yy f1 f2
        · subst yy
          rw [eG] at f1; cases f1
          rw [ep] at f2; cases f2
          exact nlt
  · rintro σ H2 ⟨rfl, lv, o2, rfl, hI⟩
    rcases hI with ⟨rfl, z0⟩ | ⟨j, y, p2, ey, el, ep2, hmin⟩
    · refine ⟨_, rfl, q ok .none .non H2 (.inl ⟨?_, rfl⟩) s1 den_non⟩
      have Ge : G = [] := List.length_eq_zero_iff.mp (by omega)
      obtain ⟨a, b, ea, eb, ma, mb, ne⟩ := first_two ok
      refine ⟨Ma.lineOf a b, Ma.lineOf_told ne, fun p hp => ?_⟩
      refine Classical.byContradiction fun no => ?_
      obtain ⟨k, hk, e⟩ := List.getElem_of_mem hp
      have := (hG (k, Ma.lineOf a b)).mpr ⟨⟨a, ma, b, mb, ne, rfl⟩, p, by rw [List.getElem?_eq_getElem hk, e], no⟩
      rw [Ge] at this; cases this
    · obtain ⟨lv', t2, z2, g2, p3, el', rfl, ht2, hg2, dv2, ep3, no2, isl2⟩ := at_ j y ey
      rw [el] at el'; cases el'
      rw [ep2] at ep3; cases ep3
      have eg : ps.getD y.1 (0, 0) = p2 := by rw [List.getD_eq_getElem?_getD, ep2]; rfl
      refine ⟨_, rfl, q ok (Ma.gapD ps y) _ H2 (.inr ⟨y.1, p2, y.2, ep2, ⟨isl2, List.mem_of_getElem? ep2, no2, fun m q' hm hq' hno => ?_⟩, ?_⟩) s1 dv2⟩
      · obtain ⟨k, hk, e⟩ := List.getElem_of_mem hq'
        have ek : ps[k]? = some q' := by rw [List.getElem?_eq_getElem hk, e]
        obtain ⟨j', hj', e'⟩ := List.getElem_of_mem ((hG (k, m)).mpr ⟨hm, q', ek, hno⟩)
        exact hmin j' (k, m) q' (by omega) (by rw [List.getElem?_eq_getElem hj', e']) ek
      · unfold Ma.gapD
        rw [eg]
end
end Tw
namespace Tw
open PySem L2 L3
theorem near_imp {P : Program} {w : World} {K : PySem.W.Frag} {mg : Str → Option Value} {base : Heap} {cP : Addr} (c : Cal P w K mg base 6 "nearest" ["points"] (spNearX K cP)) : Cal P w K mg base 6 "nearest" ["points"] (spNear K) := Cal.imp c fun vs H Q E h => by
  obtain ⟨r, ps, h1, h2, ok, q⟩ := h
  exact ⟨r, ps, h1, h2, Nat.le_trans ok.len (by decide), fun _ => q, fun n => absurd ok n⟩
end Tw

namespace Tw
open PySem L2 L3
section
variable {P : Program} {w : World} {K : PySem.W.Frag} {mg : Str → Option Value} {base : Heap}
theorem sc_divisor : FnScope ["a", "b", "rest"] ["a", "b"] (defScope t_divisor) := ⟨rfl, rfl, rfl, by decide +kernel, rfl, by decide +kernel, by decide +kernel⟩
theorem c_divisor (S : Src K mg "_law_divisor" t_divisor) (m_abs : mg "abs" = none) : Cal P w K mg base 1 "_law_divisor" ["a", "b"] spGcd := by
  refine S.cal (fun f fd F => okN F sc_divisor (fun vs H Q E h => ?_) (fun cdv A outer s H vs Q E hr h => ?_)) (fun _ _ _ _ _ _ us hl => match us, hl with | [_, _], _ => rfl)
  · obtain ⟨a, b, rfl, _⟩ := h
    rfl
  obtain ⟨a, b, rfl, q⟩ := h
  have nd := sc_divisor.nd
  refine ⟨_, pss_cons (sset 0 nd (callB b_abs call_abs m_abs (a1 (pv 0))))
    (pss_cons (sset 1 nd (callB b_abs call_abs m_abs (a1 (pv 1))))
    (pss_cons (ps_while PassesOwn.never (cmp op_gt (pv 1) pe_int) (pss_cons (sset 2 nd (pe_op op_mod (pv 0) (pv 1))) (pss_cons (sset 0 nd (pv 1)) (pss_one (sset 1 nd (pv 2))))))
    (pss_one (ps_ret (pv 0))))), ?_⟩
  refine ⟨_, rfl, a, rfl, _, rfl, b, rfl, ?_⟩
  refine while_by (fun σ H' => H' = H ∧ ∃ x y : Int, ∃ r : Option V, σ = [some (.int x), some (.int y), r] ∧ 0 ≤ x ∧ 0 ≤ y ∧ Int.gcd x y = Int.gcd a b) (fun σ _ => match σ with | [_, some (.int y), _] => y.toNat | _ => 0) ?_ ?_ ?_
  · refine ⟨rfl, _, _, none, rfl, ?_, ?_, Ma.gcd_abs a b⟩
    · split <;> omega
    · split <;> omega
  · rintro σ H' ⟨rfl, x, y, r, rfl, hx, hy, e⟩
    refine ⟨_, rfl, _, _, rfl, rfl, _, rfl, ite2 (fun c => ?_) (fun c => ?_)⟩
    · have hy' : 0 < y := of_decide_eq_true c
      refine ⟨_, rfl, _, rfl, x, y, rfl, rfl, hy', _, rfl, _, rfl, ⟨rfl, y, x % y, _, rfl, hy, Int.emod_nonneg x (by omega), ?_⟩, ?_⟩
      · rw [Ma.gcd_step hx hy', e]
      · show (x % y).toNat < y.toNat
        have := Int.emod_lt_of_pos x hy'
        have := Int.emod_nonneg x (show y ≠ 0 by omega)
        omega
    · have hy' : ¬ 0 < y := of_decide_eq_false (Bool.eq_false_iff.mpr c)
      have e0 : y = 0 := by omega
      subst e0
      refine ⟨_, rfl, ?_⟩
      have e1 : x = ((Int.gcd a b : Nat) : Int) := by
        rw [← e, Int.gcd_zero_right]
        omega
      rw [e1]
      exact q
  · rintro σ H1 Q1 Q2 k ⟨v, e1, i, j, e2, e3, c, e4, q1⟩
    exact ⟨v, e1, i, j, e2, e3, c, e4, k _ _ q1⟩
end
end Tw

namespace Tw
open PySem L2 L3
def spWhole : Sp := fun vs H Q _ => ∃ i : Int, vs = [.int i] ∧ Q (.bl true) H
section
variable {P : Program} {w : World} {K : PySem.W.Frag} {mg : Str → Option Value} {base : Heap}
theorem sc_l_whole : FnScope ["found"] ["found"] (defScope t_whole) := ⟨rfl, rfl, rfl, by decide +kernel, rfl, by decide +kernel, by decide +kernel⟩
theorem c_whole (S : Src K mg "_law_whole" t_whole) (m_isi : mg "isinstance" = none) (m_int : mg "int" = none) (m_bool : mg "bool" = none) : Cal P w K mg base 1 "_law_whole" ["found"] spWhole := by
  refine S.cal (fun f fd F => okN F sc_l_whole (fun vs H Q E h => ?_) (fun cdv A outer s H vs Q E hr h => ?_)) (fun _ _ _ _ _ _ us hl => match us, hl with | [_], _ => rfl)
  · obtain ⟨i, rfl, _⟩ := h
    rfl
  obtain ⟨i, rfl, q⟩ := h
  refine ⟨_, (pss_one (ps_ret (pe_and (callB b_isi call_isiD m_isi (a2 (pv 0) (pe_ty b_int m_int))) (pe_one (pe_not (callB b_isi call_isiD m_isi (a2 (pv 0) (pe_ty b_bool m_bool)))))))), ?_⟩
  refine ⟨_, rfl, _, _, _, .int i, true, rfl, relv_ty, den_int, kit_ii K, true, rfl, iteT ?_⟩
  exact ⟨_, rfl, _, _, _, .int i, false, rfl, relv_ty, den_int, kit_ib K, false, rfl, q⟩
end
end Tw

namespace Tw
open PySem L2 L3
def spIsT (K : PySem.W.Frag) : Sp := fun vs H Q _ => ∃ (u v : V) (ms : List Int), vs = [u, v] ∧ Den K H (itup ms) u ∧ Den K H (itup ms) v ∧ Q (.bl true) H
section
variable {P : Program} {w : World} {K : PySem.W.Frag} {mg : Str → Option Value} {base : Heap}
theorem itup_of {H : Hp} {ms : List Int} {v : V} (h : Den K H (itup ms) v) : ∃ a, v = .ref a ∧ SqT K H a (ms.map V.int) := by
  obtain ⟨a, xs, rfl, h1, h2⟩ := h.tup_of
  rw [dens_ints_of h2] at h1
  exact ⟨a, rfl, h1⟩
theorem sc_l_is_tuple : FnScope ["found", "due", "number"] ["found", "due"] (defScope t_is_tuple) := ⟨rfl, rfl, rfl, by decide +kernel, rfl, by decide +kernel, by decide +kernel⟩
theorem c_is_tuple (S : Src K mg "_law_is_tuple" t_is_tuple) (m_isi : mg "isinstance" = none) (m_tuple : mg "tuple" = none) (m_len : mg "len" = none) (k_whole : Cal P w K mg base 1 "_law_whole" ["found"] spWhole) :
    Cal P w K mg base 2 "_law_is_tuple" ["found", "due"] (spIsT K) := by
  refine S.cal (fun f fd F => okN F sc_l_is_tuple (fun vs H Q E h => ?_) (fun cdv A outer s H vs Q E hr h => ?_)) (fun _ _ _ _ _ _ us hl => match us, hl with | [_, _], _ => rfl)
  · obtain ⟨u, v, ms, rfl, _⟩ := h
    rfl
  obtain ⟨u, v, ms, rfl, hu1, hv1, q⟩ := h
  have nd := sc_l_is_tuple.nd
  have hu : (A.deeper (PyProof.Rows.envOfC "_law_is_tuple" (defScope t_is_tuple) s.heap.objs.size f cdv)).units + 40 < cLine := by have := hr.units; omega
  obtain ⟨ua, rfl, hua⟩ := itup_of hu1
  obtain ⟨va, rfl, hva⟩ := itup_of hv1
  refine ⟨_, (pss_cons (ps_if (PW.pt (pw_or (pt_not (tval (callB b_isi call_isiD m_isi (a2 (pv 0) (pe_ty b_tuple m_tuple))))) (pw_or1 (cmp op_ne (callB b_len call_len_seq m_len (a1 (pv 0))) (callB b_len call_len_seq m_len (a1 (pv 1))))))) (pss_one (ps_ret pe_bl)) pss_nil)
      (pss_cons (ps_for PassesOwn.never rfl (pi_tup (pv 0)) (pg_name (i := 2) nd rfl (by first | exact Or.inl rfl | exact Or.inr rfl)) (pss_one (ps_if (pt_not (tval (pe_c k_whole hr (a1 (pv 2))))) (pss_one (ps_ret pe_bl)) pss_nil)))
      (pss_one (ps_ret (cmpE (op_eqD hu) (pv 0) (pv 1)))))), ?_⟩
  refine ⟨_, rfl, _, _, _, itup ms, true, rfl, relv_ty, hu1, kit_tt K, true, rfl, iteF ?_⟩
  refine ⟨_, rfl, ua, _, rfl, .inr hua, _, rfl, va, _, rfl, .inr hva, rfl, _, rfl, iteNS rfl ?_⟩
  refine ⟨_, rfl, ua, rfl, ⟨_, hua⟩, for_tup (K := K) (a := ua) (xs := ms.map V.int) (fun i σ H2 => H2 = H ∧ ∃ o : Option V, σ = [some (.ref ua), some (.ref va), o]) ⟨rfl, none, rfl⟩ (fun i σ H2 _ z => by rw [z.1]; exact hua) ?_ ?_⟩
  · rintro i x σ H2 hx ⟨rfl, o, rfl⟩
    obtain ⟨m, rfl⟩ : ∃ m, x = V.int m := by
      rw [List.getElem?_map] at hx
      cases e : ms[i]? with
      | none => rw [e] at hx; cases hx
      | some m => rw [e] at hx; exact ⟨m, (Option.some.inj hx).symm⟩
    exact ⟨_, rfl, m, rfl, true, rfl, iteF ⟨rfl, _, rfl⟩⟩
  · rintro σ H2 ⟨rfl, o, rfl⟩
    refine ⟨_, rfl, _, rfl, itup ms, itup ms, hu1, hv1, shp_ints ms, shp_ints ms, ?_⟩
    show Q (.bl (PyData.eqv (itup ms) (itup ms))) _
    rw [eqv_ints, decide_eq_true rfl]
    exact q
end
end Tw

namespace Tw
open PySem L2 L3
section
variable {P : Program} {w : World} {K : PySem.W.Frag} {mg : Str → Option Value} {base : Heap}
theorem sc_l_line : FnScope ["one", "other", "a", "b", "c", "whole"] ["one", "other"] (defScope t_line) := ⟨rfl, rfl, rfl, by decide +kernel, rfl, by decide +kernel, by decide +kernel⟩
theorem c_lineT (S : Src K mg "_law_line" t_line) (k_divisor : Cal P w K mg base 1 "_law_divisor" ["a", "b"] spGcd) : Cal P w K mg base 2 "_law_line" ["one", "other"] (spLineT K) := by
  refine S.cal (fun f fd F => okN F sc_l_line (fun vs H Q E h => ?_) (fun cdv A outer s H vs Q E hr h => ?_)) (fun _ _ _ _ _ _ us hl => match us, hl with | [_, _], _ => rfl)
  · obtain ⟨u, v, p, q, rfl, _⟩ := h
    rfl
  obtain ⟨u, v, p, q, rfl, hu, hv, hne, bp, bq, k⟩ := h
  have nd := sc_l_line.nd
  obtain ⟨ua, rfl, hua⟩ := pt_of hu
  obtain ⟨va, rfl, hva⟩ := pt_of hv
  refine ⟨_, (pss_cons (sset 2 nd (pe_op op_sub (ixT (pv 1) pe_int) (ixT (pv 0) pe_int)))
      (pss_cons (sset 3 nd (pe_op op_sub (ixT (pv 0) pe_int) (ixT (pv 1) pe_int)))
      (pss_cons (ps_if (PW.pt (pw_or (cmp op_lt (pv 2) pe_int) (pw_or1 (PW.pt (pw_and (cmp op_eq (pv 2) pe_int) (pw_and1 (cmp op_lt (pv 3) pe_int))))))) (pss_cons (sset 2 nd (pe_op op_sub pe_int (pv 2)))
      (pss_one (sset 3 nd (pe_op op_sub pe_int (pv 3))))) pss_nil)
      (pss_cons (sset 4 nd (pe_op op_add (pe_op op_mul (pv 2) (ixT (pv 0) pe_int)) (pe_op op_mul (pv 3) (ixT (pv 0) pe_int))))
      (pss_cons (sset 5 nd (pe_c k_divisor hr (a2 (pe_c k_divisor hr (a2 (pv 2) (pv 3))) (pv 4))))
      (pss_one (ps_ret (pe_tup (a3 (pe_op op_fdivB (pv 2) (pv 5)) (pe_op op_fdivB (pv 3) (pv 5)) (pe_op op_fdivB (pv 4) (pv 5))))))))))), ?_⟩
  refine ⟨_, rfl, va, _, 1, _, rfl, rfl, hva, rfl, _, rfl, ua, _, 1, _, rfl, rfl, hua, rfl, _, _, rfl, rfl, ?_⟩
  refine ⟨_, rfl, ua, _, 0, _, rfl, rfl, hua, rfl, _, rfl, va, _, 0, _, rfl, rfl, hva, rfl, _, _, rfl, rfl, ?_⟩
  have bd := Ma.dir_bd bp bq
  refine neg_rd rfl rfl ?_
  by_cases c : Ma.neg (q.2 - p.2) (p.1 - q.1)
  · rw [decide_eq_true c]
    refine iteT ?_
    have hA : 0 - (q.2 - p.2) = Ma.dirA p q := by unfold Ma.dirA; rw [if_pos c]; omega
    have hB : 0 - (p.1 - q.1) = Ma.dirB p q := by unfold Ma.dirB; rw [if_pos c]; omega
    refine ⟨_, rfl, _, _, rfl, rfl, _, rfl, _, _, rfl, rfl, ?_⟩
    refine ⟨_, rfl, _, rfl, ua, _, 0, _, rfl, rfl, hua, rfl, _, _, rfl, rfl, c_small ⟨by omega, by omega⟩, _, rfl, _, rfl, ua, _, 1, _, rfl, rfl, hua, rfl, _, _, rfl, rfl, c_small ⟨by omega, by omega⟩, _, _, rfl, rfl, ?_⟩
    refine ⟨_, rfl, _, rfl, _, _, rfl, _, rfl, _, _, rfl, ?_⟩
    refine ⟨_, rfl, _, rfl, _, _, rfl, rfl, ⟨Ma.whole_ok hne hA hB, Ma.whole_lt hne bp bq hA hB⟩, _, rfl, _, rfl, _, _, rfl, rfl, ⟨Ma.whole_ok hne hA hB, Ma.whole_lt hne bp bq hA hB⟩, _, rfl, _, rfl, _, _, rfl, rfl, ⟨Ma.whole_ok hne hA hB, Ma.whole_lt hne bp bq hA hB⟩, ?_⟩
    exact tupNt (Same.refl H) k (Ma.ln_law hne hA hB rfl) (by show 3 ≤ 1000; decide)
  · rw [decide_eq_false c]
    refine iteF ?_
    have hA : q.2 - p.2 = Ma.dirA p q := by unfold Ma.dirA; rw [if_neg c]
    have hB : p.1 - q.1 = Ma.dirB p q := by unfold Ma.dirB; rw [if_neg c]
    refine ⟨_, rfl, _, rfl, ua, _, 0, _, rfl, rfl, hua, rfl, _, _, rfl, rfl, c_small ⟨by omega, by omega⟩, _, rfl, _, rfl, ua, _, 1, _, rfl, rfl, hua, rfl, _, _, rfl, rfl, c_small ⟨by omega, by omega⟩, _, _, rfl, rfl, ?_⟩
    refine ⟨_, rfl, _, rfl, _, _, rfl, _, rfl, _, _, rfl, ?_⟩
    refine ⟨_, rfl, _, rfl, _, _, rfl, rfl, ⟨Ma.whole_ok hne hA hB, Ma.whole_lt hne bp bq hA hB⟩, _, rfl, _, rfl, _, _, rfl, rfl, ⟨Ma.whole_ok hne hA hB, Ma.whole_lt hne bp bq hA hB⟩, _, rfl, _, rfl, _, _, rfl, rfl, ⟨Ma.whole_ok hne hA hB, Ma.whole_lt hne bp bq hA hB⟩, ?_⟩
    exact tupNt (Same.refl H) k (Ma.ln_law hne hA hB rfl) (by show 3 ≤ 1000; decide)
end
end Tw

namespace Tw
open PySem L2 L3
section
variable {P : Program} {w : World} {K : PySem.W.Frag} {mg : Str → Option Value} {base : Heap}
theorem sc_l_on : FnScope ["line", "point"] ["line", "point"] (defScope t_on) := ⟨rfl, rfl, rfl, by decide +kernel, rfl, by decide +kernel, by decide +kernel⟩
theorem c_lon (S : Src K mg "_law_on" t_on) : Cal P w K mg base 1 "_law_on" ["line", "point"] (spOn K) := by
  refine S.cal (fun f fd F => okN F sc_l_on (fun vs H Q E h => ?_) (fun cdv A outer s H vs Q E hr h => ?_)) (fun _ _ _ _ _ _ us hl => match us, hl with | [_, _], _ => rfl)
  · obtain ⟨u, v, l, p, rfl, _⟩ := h
    rfl
  obtain ⟨u, v, l, p, rfl, hu1, hv1, L, bp, q⟩ := h
  obtain ⟨ua, rfl, hua⟩ := ln_of hu1
  obtain ⟨va, rfl, hva⟩ := pt_of hv1
  refine ⟨_, (pss_one (ps_ret (cmpE op_eq (pe_op op_add (pe_op op_mul (ixT (pv 0) pe_int) (ixT (pv 1) pe_int)) (pe_op op_mul (ixT (pv 0) pe_int) (ixT (pv 1) pe_int))) (ixT (pv 0) pe_int)))), ?_⟩
  have la := L.a
  have lb := L.b
  refine ⟨_, rfl, ua, _, 0, _, rfl, rfl, hua, rfl, _, rfl, va, _, 0, _, rfl, rfl, hva, rfl, _, _, rfl, rfl, c_small ⟨by omega, by omega⟩, ?_⟩
  refine ⟨_, rfl, ua, _, 1, _, rfl, rfl, hua, rfl, _, rfl, va, _, 1, _, rfl, rfl, hva, rfl, _, _, rfl, rfl, c_small ⟨by omega, by omega⟩, _, _, rfl, rfl, ?_⟩
  refine ⟨_, rfl, ua, _, 2, _, rfl, rfl, hua, rfl, rfl, ?_⟩
  show Q (.bl (decide (V.int (l.a * p.1 + l.b * p.2) = V.int l.c))) H
  rw [dint]
  exact q
end
end Tw

namespace Tw
open PySem L2 L3
def spLow (K : PySem.W.Frag) : Sp := fun vs H Q _ => ∃ t b : Int, vs = [.int t, .int b] ∧ 0 < b ∧ b < 2 ^ 200 ∧ ∀ r H', Same H H' → Den K H' (itup (Ma.frac t b)) r → Q r H'
section
variable {P : Program} {w : World} {K : PySem.W.Frag} {mg : Str → Option Value} {base : Heap}
theorem sc_l_low : FnScope ["top", "bottom", "one"] ["top", "bottom"] (defScope t_low) := ⟨rfl, rfl, rfl, by decide +kernel, rfl, by decide +kernel, by decide +kernel⟩
theorem c_low (S : Src K mg "_law_low" t_low) (k_divisor : Cal P w K mg base 1 "_law_divisor" ["a", "b"] spGcd) : Cal P w K mg base 2 "_law_low" ["top", "bottom"] (spLow K) := by
  refine S.cal (fun f fd F => okN F sc_l_low (fun vs H Q E h => ?_) (fun cdv A outer s H vs Q E hr h => ?_)) (fun _ _ _ _ _ _ us hl => match us, hl with | [_, _], _ => rfl)
  · obtain ⟨t, b, rfl, _⟩ := h
    rfl
  obtain ⟨t, b, rfl, hb, hb2, k⟩ := h
  have nd := sc_l_low.nd
  refine ⟨_, (pss_cons (sset 2 nd (pe_c k_divisor hr (a2 (pv 0) (pv 1))))
      (pss_one (ps_ret (pe_tup (a2 (pe_op op_fdivB (pv 0) (pv 2)) (pe_op op_fdivB (pv 1) (pv 2))))))), ?_⟩
  have g0 := Ma.gc_pos (t := t) (b := b) (by omega)
  have g1 := Ma.gc_le (t := t) (b := b) (by omega)
  have g2 : CDivB t ((Int.gcd t b : Nat) : Int) := ⟨g0, by have : ((Int.gcd t b : Nat) : Int) = Ma.gc t b := rfl; omega⟩
  refine ⟨_, rfl, _, rfl, t, b, rfl, ?_⟩
  refine ⟨_, rfl, _, rfl, _, _, rfl, rfl, g2, _, rfl, _, rfl, _, _, rfl, rfl, g2, ?_⟩
  exact tupN (Same.refl H) k (congrArg itup (Ma.frac_pos hb)) (by show 2 ≤ 1000; decide)
end
end Tw

namespace Tw
open PySem L2 L3
section
variable {P : Program} {w : World} {K : PySem.W.Frag} {mg : Str → Option Value} {base : Heap}
theorem sc_l_gap : FnScope ["line", "point", "much"] ["line", "point"] (defScope t_gap) := ⟨rfl, rfl, rfl, by decide +kernel, rfl, by decide +kernel, by decide +kernel⟩
theorem c_lgap (S : Src K mg "_law_gap" t_gap) (k_low : Cal P w K mg base 2 "_law_low" ["top", "bottom"] (spLow K)) : Cal P w K mg base 3 "_law_gap" ["line", "point"] (spGap K) := by
  refine S.cal (fun f fd F => okN F sc_l_gap (fun vs H Q E h => ?_) (fun cdv A outer s H vs Q E hr h => ?_)) (fun _ _ _ _ _ _ us hl => match us, hl with | [_, _], _ => rfl)
  · obtain ⟨u, v, l, p, rfl, _⟩ := h
    rfl
  obtain ⟨u, v, l, p, rfl, hu1, hv1, L, up, bp, k⟩ := h
  have nd := sc_l_gap.nd
  obtain ⟨ua, rfl, hua⟩ := ln_of hu1
  obtain ⟨va, rfl, hva⟩ := pt_of hv1
  refine ⟨_, (pss_cons (sset 2 nd (pe_op op_sub (pe_op op_add (pe_op op_mul (ixT (pv 0) pe_int) (ixT (pv 1) pe_int)) (pe_op op_mul (ixT (pv 0) pe_int) (ixT (pv 1) pe_int))) (ixT (pv 0) pe_int)))
      (pss_one (ps_ret (pe_c k_low hr (a2 (pe_op op_mul (pv 2) (pv 2)) (pe_op op_add (pe_op op_mul (ixT (pv 0) pe_int) (ixT (pv 0) pe_int)) (pe_op op_mul (ixT (pv 0) pe_int) (ixT (pv 0) pe_int)))))))), ?_⟩
  have la := L.a
  have lb := L.b
  have ob := Ma.off_bd L bp
  refine ⟨_, rfl, ua, _, 0, _, rfl, rfl, hua, rfl, _, rfl, va, _, 0, _, rfl, rfl, hva, rfl, _, _, rfl, rfl, c_small ⟨by omega, by omega⟩, ?_⟩
  refine ⟨_, rfl, ua, _, 1, _, rfl, rfl, hua, rfl, _, rfl, va, _, 1, _, rfl, rfl, hva, rfl, _, _, rfl, rfl, c_small ⟨by omega, by omega⟩, _, _, rfl, rfl, ?_⟩
  refine ⟨_, rfl, ua, _, 2, _, rfl, rfl, hua, rfl, _, _, rfl, rfl, ?_⟩
  have cm : CMul (Ma.off l p) (Ma.off l p) := c_small ⟨by omega, by omega⟩
  refine ⟨_, rfl, _, rfl, _, _, rfl, rfl, cm, ?_⟩
  refine ⟨_, rfl, ua, _, 0, _, rfl, rfl, hua, rfl, _, rfl, ua, _, 0, _, rfl, rfl, hua, rfl, _, _, rfl, rfl, c_small ⟨by omega, by omega⟩, ?_⟩
  refine ⟨_, rfl, ua, _, 1, _, rfl, rfl, hua, rfl, _, rfl, ua, _, 1, _, rfl, rfl, hua, rfl, _, _, rfl, rfl, c_small ⟨by omega, by omega⟩, _, _, rfl, rfl, ?_⟩
  exact ⟨_, _, rfl, Ma.nn_pos up, nn_200 L, fun r H' s' hd => k r H' s' hd⟩
end
end Tw

namespace Tw
open PySem L2 L3
section
variable {P : Program} {w : World} {K : PySem.W.Frag} {mg : Str → Option Value} {base : Heap}
theorem sc_l_lines : FnScope ["points", "found", "k", "j", "rows", "line"] ["points"] (defScope t_lines) := ⟨rfl, rfl, rfl, by decide +kernel, rfl, by decide +kernel, by decide +kernel⟩
theorem c_llines (S : Src K mg "_law_lines" t_lines) (m_len : mg "len" = none) (m_range : mg "range" = none) (m_sorted : mg "sorted" = none) (m_list : mg "list" = none) (k_line : Cal P w K mg base 2 "_law_line" ["one", "other"] (spLineT K)) (k_on : Cal P w K mg base 1 "_law_on" ["line", "point"] (spOn K)) :
    Cal P w K mg base 3 "_law_lines" ["points"] (spLLines K) := by
  refine S.cal (fun f fd F => okN F sc_l_lines (fun vs H Q E h => ?_) (fun cdv A outer s H vs Q E hr h => ?_)) (fun _ _ _ _ _ _ us hl => match us, hl with | [_], _ => rfl)
  · obtain ⟨r, ps, rfl, _⟩ := h
    rfl
  obtain ⟨r, ps, rfl, hps, ok, q⟩ := h
  have nd := sc_l_lines.nd
  have hr1 := hr.mono (show 1 ≤ 2 by decide)
  have z2 := ok.two
  have z20 := ok.len
  -- the rows, line by line
  have tail : ∃ t, PSs (cxOf (CXE P w) P w K mg base ["points", "found", "k", "j", "rows", "line"] "_law_lines" (defScope t_lines) f cdv A outer s H E).nox ((defBody t_lines).drop 2) t ∧
      ∀ (fdc : Addr) (o2 o3 : Option V) (ks : List Ma.Ln) (H3 : Hp), Same H H3 → H3 fdc = some (.dT (ks.map Ma.entry)) → ks.Nodup → (∀ l, l ∈ ks ↔ Ma.IsL ps l) → ks.length ≤ 1000 →
        t { nx := fun _ H' => Q .non H', rt := Q } [some (.ref r), some (.ref fdc), o2, o3, none, none] H3 := by
    refine ⟨_, (pss_cons (sset 4 nd (pe_lst pa_nil))
      (pss_cons (ps_for PassesOwn.never rfl (pi_list (callB b_sorted call_sortT m_sorted (a1 (callT b_list (call_listD rfl) m_list (a1 (pv 1)))))) (pg_name (i := 5) nd rfl (by first | exact Or.inl rfl | exact Or.inr rfl)) (pss_one (ps_expr (pe_bm PySem.F.plainAttrs_list PySem.F.slot_list_append PySem.F.type_list_append mt_append (pv 4) (a1 (pe_tup (a2 (pv 5) (pe_lc rfl (compS_mk (tgs := ["k"]) (caps := [("line", 5), ("points", 0)]) rfl rfl rfl rfl ⟨rfl, rfl, trivial⟩ rfl rfl) (pi_range1 rfl m_range (a1 (callB b_len call_len_seq m_len (a1 (pv 0))))) (fun _ _ _ _ => (pg_name (i := 0) (show (["k", "line", "points"] : List Str).Nodup by decide +kernel) rfl (Or.inl rfl))) (Or.inr ⟨_, rfl, fun _ _ _ _ => (tval (pe_c k_on hr1 (a2 (pv 1) (ixLk K (pv 2) (pv 0)))))⟩) (fun _ _ _ _ => (pv 0))))))))))
      (pss_one (ps_ret (pv 4))))), ?_⟩
    intro fdc o2 o3 ks H3 s3 hfd knd kmem klen
    refine ⟨(by show 0 ≤ sizeLine; decide), fun rl f4 => ?_⟩
    have s4 := s3.trans (same_new f4 (.lst []))
    have hfd4 := same_new f4 (.lst []) _ _ hfd
    have hrl4 : upd H3 rl (.lst []) rl = some (.lst []) := upd_same
    have hrl0 : H rl = none := s3.free f4
    generalize upd H3 rl (.lst []) = H4 at s4 hfd4 hrl4 ⊢
    -- sorted(list(found))
    refine ⟨_, rfl, fdc, ks.map Ma.entry, rfl, hfd4, fun l1 ys f5 hk => ?_⟩
    have hk' : KeysAt H4 ((ks.map Ma.lnl).map keyT) ys := by
      rw [List.map_map] at hk ⊢; exact hk
    have hd5 := Dens.same (same_new f5 (.lst ys)) _ _ (keys_dens (K := K) hk')
    have s5 := same_new f5 (.lst ys)
    have hl1 : upd H4 l1 (.lst ys) l1 = some (.lst ys) := upd_same
    generalize upd H4 l1 (.lst ys) = H5 at s5 hd5 hl1 ⊢
    refine ⟨l1, ys, ks.map Ma.lnl, rfl, SqL.of hl1, hd5, fun m hm => ?_, fun l2 ns zs f6 hp hs hd6 => ?_⟩
    · obtain ⟨l, _, rfl⟩ := List.mem_map.mp hm
      intro z; cases z
    obtain ⟨L, rfl, hL⟩ := Ma.lines_sorted knd kmem hp hs
    have s6 := same_new f6 (.lst zs)
    have hl2 : upd H5 l2 (.lst zs) l2 = some (.lst zs) := upd_same
    generalize upd H5 l2 (.lst zs) = H6 at s6 hd6 hl2 ⊢
    have s46 := s5.trans s6
    have hrl6 := s46 _ _ hrl4
    have n2 : l2 ≠ rl := fun z => by
      rw [z] at f6
      rw [s5 _ _ hrl4] at f6; cases f6
    have Llen : L.length ≤ 1000 := by
      have := hp.length_eq
      rw [List.length_map, List.length_map] at this; omega
    have zlen : zs.length = L.length := by
      have := Dens.length hd6
      rw [List.length_map, List.length_map] at this; exact this
    refine ⟨l2, rfl, ⟨_, SqL.of hl2⟩, for_list (K := K) (a := l2) (xs := zs) (fun i σ H7 => ∃ (o : Option V) (xs : List V) (as : List Addr), σ = [some (.ref r), some (.ref fdc), o2, o3, some (.ref rl), o] ∧ (∀ b ob, b ≠ rl → H6 b = some ob → H7 b = some ob) ∧ H7 rl = some (.lst xs) ∧
        DensA K H7 ((L.take i).map (Ma.rowD ps)) xs as ∧ xs.length ≤ i ∧ as.Nodup ∧ rl ∉ as ∧ ∀ a ∈ as, H a = none)
      ⟨none, [], [], rfl, fun b ob _ e => e, hrl6, DensA.nil, Nat.le_refl _, List.nodup_nil, by simp, fun _ z => nomatch z⟩ ?_ ?_ ?_⟩
    · rintro i σ H7 _ ⟨o, xs, as, _, k7, _⟩
      exact SqL.of (k7 l2 _ n2 hl2)
    · rintro i z σ H7 hz ⟨o, xs, as, rfl, k7, hrl7, hd7, hxl, and7, nrl, fr7⟩
      have hi : i < L.length := by
        have := (List.getElem?_eq_some_iff.mp hz).1
        omega
      have eL : L[i]? = some L[i] := List.getElem?_eq_getElem hi
      obtain ⟨lb, lt⟩ := isL_lb ok ((hL.mem L[i]).mp (List.getElem_mem hi))
      -- the line
      obtain ⟨zv, ez, hzd⟩ := Dens.at (i := i) hd6 (d := itup (Ma.lnl L[i])) (by rw [List.getElem?_map, List.getElem?_map, eL]; rfl)
      rw [hz] at ez; cases ez
      have tk : ∀ d v, nol d = true → Den K H6 d v → Den K H7 d v := fun d v n h => by
        have h1 : Den K (upd H6 rl (.lst xs)) d v := Den.upd hrl6 d v n h
        refine Den.same (fun b ob e => ?_) d v h1
        by_cases c : b = rl
        · subst c; rw [upd_same] at e; cases e; exact hrl7
        · rw [upd_ne c] at e; exact k7 b ob c e
      have hz7 : Den K H7 (Ma.ln L[i]) z := tk _ _ (Ma.nol_ln _) hzd
      have hps6 := (hps.same (s4.trans s46))
      obtain ⟨px, hpx, hpl, hpat⟩ := hps6.get
      have nr : r ≠ rl := fun z => by
        obtain ⟨xs0, h0, _⟩ := hps
        rw [z, hrl0] at h0; cases h0
      have hpx7 := k7 r _ nr hpx
      have hpat7 : ∀ (i : Nat) p, ps[i]? = some p → ∃ x, px[i]? = some x ∧ Den K H7 (Ma.pt p) x := fun i p e => by
        obtain ⟨x, e1, e2⟩ := hpat i p e
        exact ⟨x, e1, tk _ _ (Ma.nol_pt _) e2⟩
      have hb : (px.length : Int).toNat = ps.length := by omega
      refine ⟨_, rfl, .inl ⟨rfl, _, SqL.of hrl7⟩, _, rfl, _, rfl, r, px, rfl, .inl (SqL.of hpx7), _, rfl, by omega, by omega, comp_range (n := ((px.length : Int)).toNat) (fun m ys σ' H8 => H8 = H7 ∧ (∃ o', σ' = [o', some z, some (.ref r)]) ∧ ys = (Ma.placesTo L[i] ps m).map V.int) ⟨rfl, ⟨none, rfl⟩, rfl⟩ ?_ ?_ ?_ ?_⟩
      · rw [hb]; exact Nat.le_trans z20 (by decide)
      · rintro m ys σ' H8 _ ⟨_, _, rfl⟩
        rw [List.length_map]; exact Ma.placesTo_len _ _ _
      · rintro m ys σ' H8 hm ⟨rfl, ⟨o', rfl⟩, rfl⟩
        have hm' : m < ps.length := by omega
        have ep : ps[m]? = some ps[m] := List.getElem?_eq_getElem hm'
        obtain ⟨x, e1, e2⟩ := hpat7 m _ ep
        have e0 : (0 : Int) + (m : Int) = (m : Int) := Int.zero_add _
        rw [e0]
        refine ⟨_, rfl, _, rfl, _, rfl, r, px, _, x, rfl, rfl, SqL.of hpx7, (atI_nat e1), z, x, L[i], ps[m], rfl, hz7, e2, lb, ok.good.inb _ (List.getElem_mem hm'), _, rfl, ?_⟩
        have eg : ps.getD m (0, 0) = ps[m] := by rw [List.getD_eq_getElem?_getD, ep]; rfl
        by_cases c : Ma.On L[i] ps[m]
        · rw [decide_eq_true c]
          refine ifT ⟨_, rfl, rfl, ⟨_, rfl⟩, ?_⟩
          rw [Ma.placesTo_succ, eg, if_pos c, List.map_append]; rfl
        · rw [decide_eq_false c]
          refine ifF ⟨rfl, ⟨_, rfl⟩, ?_⟩
          rw [Ma.placesTo_succ, eg, if_neg c]
      · rintro ys σ' H8 ⟨rfl, ⟨o', rfl⟩, rfl⟩ pl fpl
        have sH : Same H H8 := fun b ob e => k7 b ob (ne_of_none e hrl0) ((s4.trans s46) b ob e)
        refine ⟨(by show 2 ≤ sizeLine; decide), fun tp ftp => ?_⟩
        have sA : Same H8 (upd H8 pl (.lst ((Ma.placesTo L[i] ps (px.length : Int).toNat).map V.int))) := same_new fpl _
        have hpl' : (upd H8 pl (.lst ((Ma.placesTo L[i] ps (px.length : Int).toNat).map V.int))) pl = some (.lst ((Ma.placesTo L[i] ps (px.length : Int).toNat).map V.int)) := upd_same
        generalize upd H8 pl (.lst ((Ma.placesTo L[i] ps (px.length : Int).toNat).map V.int)) = H9 at sA hpl' ftp ⊢
        have sB : Same H9 (upd H9 tp (.tup [z, .ref pl])) := same_new ftp _
        have htp : (upd H9 tp (.tup [z, .ref pl])) tp = some (.tup [z, .ref pl]) := upd_same
        have hplB := sB _ _ hpl'
        refine ⟨rl, xs, _, rfl, rfl, sB _ _ (sA _ _ hrl7), Nat.lt_of_le_of_lt (Nat.le_trans hxl (Nat.le_of_lt hi)) (Nat.lt_of_le_of_lt Llen (by decide)), ?_⟩
        have hrlB := sB _ _ (sA _ _ hrl7)
        have sAB := sA.trans sB
        generalize upd H9 tp (.tup [z, .ref pl]) = HB at sB htp hplB hrlB sAB ⊢
        have npl : pl ≠ rl := (ne_of_none hrl7 fpl).symm
        have ntp : tp ≠ rl := (ne_of_none (sA _ _ hrl7) ftp).symm
        have nas : pl ∉ as := fun m => by
          obtain ⟨_, e⟩ := DensA.there _ _ _ hd7 pl m
          rw [fpl] at e; cases e
        refine ⟨_, xs ++ [.ref tp], as ++ [pl], rfl, fun b ob nb e => ?_, upd_same, ?_, ?_, ?_, ?_, ?_⟩
        · rw [upd_ne nb]; exact sAB b ob (k7 b ob nb e)
        · have et : (L.take (i + 1)).map (Ma.rowD ps) = (L.take i).map (Ma.rowD ps) ++ [Ma.rowD ps L[i]] := by
            rw [List.take_succ, eL, List.map_append]; rfl
          rw [et]
          have row : DenA K HB (Ma.rowD ps L[i]) (.ref tp) [pl] := by
            have h1 : DenA K HB (Ma.ln L[i]) z [] := DenA.of _ _ (Ma.nol_ln _) (Den.same sAB _ _ hz7)
            have h2 : DenA K HB (.list ((Ma.places L[i] ps).map .int)) (.ref pl) [pl] := by
              have := densA_ints (K := K) (H := HB) (Ma.places L[i] ps)
              refine denA_lst ?_ this
              rw [hplB, hb]; rfl
            exact denA_tup (SqT.of htp) (DensA.cons h1 (DensA.cons h2 DensA.nil))
          refine DensA.snoc (DensA.upd hrlB _ _ _ nrl (DensA.same sAB _ _ _ hd7)) (DenA.upd hrlB _ _ _ ?_ row)
          intro m; exact npl (List.mem_singleton.mp m).symm
        · rw [List.length_append]; exact Nat.succ_le_succ hxl
        · rw [List.nodup_append]
          refine ⟨and7, by simp, fun a ha b hb2 e => ?_⟩
          rw [List.mem_singleton.mp hb2] at e
          exact nas (e ▸ ha)
        · intro m
          rcases List.mem_append.mp m with y | y
          · exact nrl y
          · exact npl (List.mem_singleton.mp y).symm
        · intro a m
          rcases List.mem_append.mp m with y | y
          · exact fr7 a y
          · rw [List.mem_singleton.mp y]; exact sH.free fpl
    · rintro σ H7 ⟨o, xs, as, rfl, k7, hrl7, hd7, hxl, and7, nrl, fr7⟩
      rw [zlen, List.take_length] at hd7
      refine ⟨_, rfl, q L _ (rl :: as) H7 hL (fun b ob e => k7 b ob (ne_of_none e hrl0) ((s4.trans s46) b ob e)) ⟨denA_lst hrl7 hd7, List.nodup_cons.mpr ⟨nrl, and7⟩, fun a m => ?_⟩⟩
      rcases List.mem_cons.mp m with y | y
      · rw [y]; exact hrl0
      · exact fr7 a y
  obtain ⟨tT, hT, rT⟩ := tail
  refine ⟨_, (pss_cons (sset 1 nd pe_dnewT)
      (pss_cons (ps_for PassesOwn.never rfl (pi_range1 rfl m_range (a1 (callB b_len call_len_seq m_len (a1 (pv 0))))) (pg_name (i := 2) nd rfl (by first | exact Or.inl rfl | exact Or.inr rfl)) (pss_one (ps_for PassesOwn.never rfl (pi_range1 rfl m_range (a1 (pv 2))) (pg_name (i := 3) nd rfl (by first | exact Or.inl rfl | exact Or.inr rfl)) (pss_one (ps_dput (hu_of hr) (pv 1) (pe_c k_line hr (a2 (ixL (pv 0) (pv 3)) (ixL (pv 0) (pv 2)))) pe_bl rfl))))) hT)), ?_⟩
  refine fun fdc f0 => ?_
  obtain ⟨px, hpx, hpl, hpat⟩ := hps.get
  have hb : (px.length : Int).toNat = ps.length := by omega
  have gnd : ps.Nodup := ok.good.nd
  refine ⟨_, rfl, r, px, rfl, .inl (SqL.of (same_new f0 _ _ _ hpx)), _, rfl, by omega, by omega, for_range (n := (px.length : Int).toNat) (fun i σ H2 => ∃ (o2 o3 : Option V) (ks : List Ma.Ln), σ = [some (.ref r), some (.ref fdc), o2, o3, none, none] ∧ Same H H2 ∧ H2 fdc = some (.dT (ks.map Ma.entry)) ∧ ks.Nodup ∧ (∀ l, l ∈ ks ↔ Ma.Seen ps i 0 l) ∧ ks.length ≤ i * 20)
    ⟨none, none, [], rfl, same_new f0 _, upd_same, List.nodup_nil, fun l => ⟨fun m => (nomatch m), fun z => (Ma.seen_none l z).elim⟩, Nat.zero_le _⟩ ?_ ?_⟩
  · rintro i σ H2 hi ⟨o2, o3, ks, rfl, s2, hfd, knd, kmem, klen⟩
    have hi' : i < ps.length := by omega
    have e0 : (0 : Int) + (i : Int) = (i : Int) := Int.zero_add _
    rw [e0]
    have eq : ps[i]? = some ps[i] := List.getElem?_eq_getElem hi'
    refine ⟨_, rfl, (i : Int), rfl, by omega, by omega, for_range (n := (i : Int).toNat) (fun m σ H3 => ∃ (o3 : Option V) (ks : List Ma.Ln), σ = [some (.ref r), some (.ref fdc), some (.int (i : Int)), o3, none, none] ∧ Same H H3 ∧ H3 fdc = some (.dT (ks.map Ma.entry)) ∧ ks.Nodup ∧ (∀ l, l ∈ ks ↔ Ma.Seen ps i m l) ∧ ks.length ≤ i * 20 + m)
      ⟨o3, ks, rfl, s2, hfd, knd, kmem, klen⟩ ?_ ?_⟩
    · rintro m σ H3 hm ⟨o3, ks, rfl, s3, hfd3, knd, kmem, klen⟩
      have hm' : m < i := by omega
      have hm2 : m < ps.length := by omega
      have e1 : (0 : Int) + (m : Int) = (m : Int) := Int.zero_add _
      rw [e1]
      have ep : ps[m]? = some ps[m] := List.getElem?_eq_getElem hm2
      obtain ⟨x, ex, dx⟩ := hpat m _ ep
      obtain ⟨y, ey, dy⟩ := hpat i _ eq
      have ne : ps[m] ≠ ps[i] := List.pairwise_iff_getElem.mp gnd m i hm2 hi' hm'
      refine ⟨_, rfl, _, rfl, _, rfl, r, px, _, x, rfl, rfl, SqL.of (s3 _ _ hpx), atI_nat ex, _, rfl, _, rfl, r, px, _, y, rfl, rfl, SqL.of (s3 _ _ hpx), atI_nat ey, x, y, ps[m], ps[i], rfl, Den.same s3 _ _ dx, Den.same s3 _ _ dy, ne, ok.good.inb _ (List.getElem_mem hm2), ok.good.inb _ (List.getElem_mem hi'), fun lr H5 s5 hlr => ?_⟩
      have kl : (ks.map Ma.entry).length < sizeLine := by
        rw [List.length_map]
        exact Nat.lt_of_le_of_lt (show ks.length ≤ 1000 by omega) (by decide)
      refine ⟨fdc, _, rfl, DPut.t (k := keyT (Ma.lnl (Ma.lineOf ps[m] ps[i]))) (s5 _ _ hfd3) (by rw [keyT_kV]; exact hlr) kl, ?_⟩
      rw [Ma.put_line]
      refine ⟨_, _, rfl, fun b ob e => ?_, upd_same, ?_, fun l => ?_, ?_⟩
      · rw [upd_ne (ne_of_none e f0)]; exact s5 _ _ (s3 _ _ e)
      · split
        · exact knd
        · rename_i c
          rw [List.nodup_append]
          refine ⟨knd, by simp, fun a ha b hb2 e => ?_⟩
          rw [List.mem_singleton.mp hb2] at e
          exact c (e ▸ ha)
      · rw [Ma.seen_step hm' ep eq, ← kmem l]
        split
        · rename_i c
          constructor
          · exact .inl
          · rintro (z | rfl)
            · exact z
            · exact c
        · rw [List.mem_append, List.mem_singleton]
      · split
        · omega
        · rw [List.length_append]
          show ks.length + 1 ≤ _
          omega
    · rintro σ H3 ⟨o3, ks, rfl, s3, hfd3, knd, kmem, klen⟩
      refine ⟨_, _, ks, rfl, s3, hfd3, knd, fun l => ?_, by omega⟩
      rw [kmem l, Ma.seen_next]
      have : (i : Int).toNat = i := by omega
      rw [this]
  · rintro σ H3 ⟨o2, o3, ks, rfl, s3, hfd3, knd, kmem, klen⟩
    refine rT fdc o2 o3 ks H3 s3 hfd3 knd (fun l => ?_) (by omega)
    rw [kmem l, hb, Ma.seen_all gnd]
end
end Tw

namespace Tw
open PySem L2 L3
def spLeast (K : PySem.W.Frag) : Sp := fun vs H Q _ => ∃ (r fa : Addr) (ps : List Ma.Pt) (xs : List V) (as : List Addr) (L : List Ma.Ln), vs = [.ref r, .ref fa] ∧ PtsAt K H r ps ∧ PsOk ps ∧ H fa = some (.lst xs) ∧ RowsAt K H ps L xs as ∧ Ma.LinesIs ps L ∧
  ∀ v H', Same H H' → ((v = .non ∧ Ma.Col ps) ∨ ∃ l p, Ma.Near ps l p ∧ Den K H' (itup (Ma.gapOf l p)) v) → Q v H'
/-- the pairs that were seen -/
def SeenG (ps : List Ma.Pt) (L : List Ma.Ln) (i j : Nat) (m : Ma.Ln) (q : Ma.Pt) : Prop := (∃ i', i' < i ∧ L[i']? = some m ∧ q ∈ ps) ∨ (L[i]? = some m ∧ ∃ j', j' < j ∧ ps[j']? = some q)
def Best (K : PySem.W.Frag) (ps : List Ma.Pt) (L : List Ma.Ln) (i j : Nat) (v : V) (H : Hp) : Prop :=
  (v = .non ∧ ∀ m q, SeenG ps L i j m q → Ma.On m q) ∨ ∃ l p, l ∈ L ∧ p ∈ ps ∧ ¬ Ma.On l p ∧ Den K H (itup (Ma.gapOf l p)) v ∧ ∀ m q, SeenG ps L i j m q → ¬ Ma.On m q → ¬ Ma.GLt m q l p
theorem seenG_next {ps : List Ma.Pt} {L : List Ma.Ln} {i : Nat} {m : Ma.Ln} {q : Ma.Pt} (h : SeenG ps L (i + 1) 0 m q) : SeenG ps L i ps.length m q := by
  rcases h with ⟨i', h1, h2, h3⟩ | ⟨_, j', h1, _⟩
  · by_cases c : i' = i
    · subst c
      obtain ⟨k, hk, rfl⟩ := List.getElem_of_mem h3
      exact .inr ⟨h2, k, hk, List.getElem?_eq_getElem hk⟩
    · exact .inl ⟨i', by omega, h2, h3⟩
  · omega
theorem seenG_step {ps : List Ma.Pt} {L : List Ma.Ln} {i j : Nat} {l m : Ma.Ln} {p q : Ma.Pt} (el : L[i]? = some l) (ep : ps[j]? = some p) (h : SeenG ps L i (j + 1) m q) : SeenG ps L i j m q ∨ (m = l ∧ q = p) := by
  rcases h with ⟨i', h1, h2, h3⟩ | ⟨h1, j', h2, h3⟩
  · exact .inl (.inl ⟨i', h1, h2, h3⟩)
  · by_cases c : j' = j
    · subst c
      rw [el] at h1; rw [ep] at h3; cases h1; cases h3
      exact .inr ⟨rfl, rfl⟩
    · exact .inl (.inr ⟨h1, j', by omega, h3⟩)
theorem Best.next {K : PySem.W.Frag} {ps : List Ma.Pt} {L : List Ma.Ln} {i : Nat} {v : V} {H : Hp} (h : Best K ps L i ps.length v H) : Best K ps L (i + 1) 0 v H := by
  rcases h with ⟨e, h⟩ | ⟨l, p, a, b, c, d, h⟩
  · exact .inl ⟨e, fun m q z => h m q (seenG_next z)⟩
  · exact .inr ⟨l, p, a, b, c, d, fun m q z => h m q (seenG_next z)⟩
theorem Best.same {K : PySem.W.Frag} {ps : List Ma.Pt} {L : List Ma.Ln} {i j : Nat} {v : V} {H H' : Hp} (s : Same H H') (h : Best K ps L i j v H) : Best K ps L i j v H' := by
  rcases h with ⟨e, h⟩ | ⟨l, p, a, b, c, d, h⟩
  · exact .inl ⟨e, h⟩
  · exact .inr ⟨l, p, a, b, c, Den.same s _ _ d, h⟩
theorem Best.done {K : PySem.W.Frag} {ps : List Ma.Pt} {L : List Ma.Ln} {v : V} {H : Hp} (ok : PsOk ps) (hL : Ma.LinesIs ps L) (h : Best K ps L L.length 0 v H) : (v = .non ∧ Ma.Col ps) ∨ ∃ l p, Ma.Near ps l p ∧ Den K H (itup (Ma.gapOf l p)) v := by
  have all : ∀ m q, Ma.IsL ps m → q ∈ ps → SeenG ps L L.length 0 m q := fun m q hm hq => by
    obtain ⟨i, hi, rfl⟩ := List.getElem_of_mem ((hL.mem m).mpr hm)
    exact .inl ⟨i, hi, List.getElem?_eq_getElem hi, hq⟩
  rcases h with ⟨e, h⟩ | ⟨l, p, a, b, c, d, h⟩
  · refine .inl ⟨e, ?_⟩
    obtain ⟨p, q, _, _, hp, hq, ne⟩ := first_two ok
    exact ⟨_, Ma.lineOf_told ne, fun r hr => h _ r (all _ r ⟨p, hp, q, hq, ne, rfl⟩ hr)⟩
  · exact .inr ⟨l, p, ⟨(hL.mem l).mp a, b, c, fun m q h1 h2 h3 => h m q (all m q h1 h2) h3⟩, d⟩
section
variable {P : Program} {w : World} {K : PySem.W.Frag} {mg : Str → Option Value} {base : Heap}
theorem fr2_of {H : Hp} {x y : Int} {v : V} (h : Den K H (itup [x, y]) v) : ∃ a, v = .ref a ∧ SqT K H a [.int x, .int y] := by
  obtain ⟨a, xs, rfl, h1, h2⟩ := h.tup_of
  rw [dens_ints_of (ms := [x, y]) h2] at h1
  exact ⟨a, rfl, h1⟩
theorem sc_l_least : FnScope ["points", "rows", "best", "line", "places", "point", "here"] ["points", "rows"] (defScope t_least) := ⟨rfl, rfl, rfl, by decide +kernel, rfl, by decide +kernel, by decide +kernel⟩
theorem c_least (S : Src K mg "_law_least" t_least) (k_gap : Cal P w K mg base 3 "_law_gap" ["line", "point"] (spGap K)) :
    Cal P w K mg base 4 "_law_least" ["points", "rows"] (spLeast K) := by
  refine S.cal (fun f fd F => okN F sc_l_least (fun vs H Q E h => ?_) (fun cdv A outer s H vs Q E hr h => ?_)) (fun _ _ _ _ _ _ us hl => match us, hl with | [_, _], _ => rfl)
  · obtain ⟨r, fa, ps, xs, as, L, rfl, _⟩ := h
    rfl
  obtain ⟨r, fa, ps, xs, as, L, rfl, hps, ok, hfa, hra, hL, q⟩ := h
  have nd := sc_l_least.nd
  refine ⟨_, (pss_cons (sset 2 nd pe_non)
      (pss_cons (ps_for PassesOwn.never rfl (pi_list (pv 1)) (pg_tup rfl (pgs_cons (pg_name (i := 3) nd rfl (by first | exact Or.inl rfl | exact Or.inr rfl)) (pgs_cons (pg_name (i := 4) nd rfl (by first | exact Or.inl rfl | exact Or.inr rfl)) pgs_nil))) (pss_one (ps_for PassesOwn.never rfl (pi_list (pv 0)) (pg_name (i := 5) nd rfl (by first | exact Or.inl rfl | exact Or.inr rfl)) (pss_cons (sset 6 nd (pe_c k_gap hr (a2 (pv 3) (pv 5))))
      (pss_one (ps_if (PW.pt (pw_and (cmp op_gt (ixT (pv 6) pe_int) pe_int) (pw_and1 (PW.pt (pw_or (cmp op_isN (pv 2) pe_non) (pw_or1 (cmp op_lt (pe_op op_mul (ixT (pv 6) pe_int) (ixT (pv 2) pe_int)) (pe_op op_mul (ixT (pv 2) pe_int) (ixT (pv 6) pe_int))))))))) (pss_one (sset 2 nd (pv 6))) pss_nil))))))
      (pss_one (ps_ret (pv 2))))), ?_⟩
  obtain ⟨px, hpx, hpl0, hpat⟩ := hps.get
  refine ⟨_, rfl, fa, rfl, ⟨_, SqL.of hfa⟩, for_list (K := K) (a := fa) (xs := xs) (fun i σ H2 => Same H H2 ∧ ∃ (v : V) (o3 o4 o5 o6 : Option V), σ = [some (.ref r), some (.ref fa), some v, o3, o4, o5, o6] ∧ Best K ps L i 0 v H2)
    ⟨Same.refl _, .non, none, none, none, none, rfl, .inl ⟨rfl, fun m q z => ?_⟩⟩ (fun i σ H2 _ z => SqL.of (z.1 _ _ hfa)) ?_ ?_⟩
  · rcases z with ⟨i', z, _⟩ | ⟨_, j', z, _⟩ <;> omega
  · rintro i x σ H2 hx ⟨s2, v, o3, o4, o5, o6, rfl, hb⟩
    have hi : i < L.length := by rw [← hra.lx]; exact (List.getElem?_eq_some_iff.mp hx).1
    have eL : L[i]? = some L[i] := List.getElem?_eq_getElem hi
    obtain ⟨x', pl, ex, _, t, z, rfl, ht, hz, hpl⟩ := hra.at_ i _ eL
    rw [hx] at ex; cases ex
    obtain ⟨lb, lt⟩ := isL_lb ok ((hL.mem L[i]).mp (List.getElem_mem hi))
    refine ⟨t, _, rfl, same_seqT s2 ht, rfl, _, _, rfl, _, _, rfl, rfl, ?_⟩
    refine ⟨_, rfl, r, rfl, ⟨_, SqL.of (s2 _ _ hpx)⟩, for_list (K := K) (a := r) (xs := px) (fun j σ H3 => Same H H3 ∧ ∃ (v : V) (o5 o6 : Option V), σ = [some (.ref r), some (.ref fa), some v, some z, some (.ref pl), o5, o6] ∧ Best K ps L i j v H3)
      ⟨s2, v, o5, o6, rfl, hb⟩ (fun j σ H3 _ y => SqL.of (y.1 _ _ hpx)) ?_ ?_⟩
    · rintro j x σ H3 hx3 ⟨s3, v, o5, o6, rfl, hb⟩
      have hj : j < ps.length := by rw [← hpl0]; exact (List.getElem?_eq_some_iff.mp hx3).1
      have ep : ps[j]? = some ps[j] := List.getElem?_eq_getElem hj
      obtain ⟨x', ex, dx⟩ := hpat j _ ep
      rw [hx3] at ex; cases ex
      refine ⟨_, rfl, _, rfl, z, x, L[i], ps[j], rfl, Den.same s3 _ _ hz, Den.same s3 _ _ dx, lb, lt.up, ok.good.inb _ (List.getElem_mem hj), fun g H4 s4 hg => ?_⟩
      obtain ⟨x0, y0, eg, py, gx, gy, gc, gpos, gnn⟩ := Ma.gap_parts lt ps[j]
      have hg0 := hg
      rw [eg] at hg
      obtain ⟨ga, rfl, hga⟩ := fr2_of hg
      have nb := Ma.nn_bd lb
      have hb4 := hb.same s4
      refine ⟨_, rfl, ga, _, 0, _, rfl, rfl, hga, rfl, _, _, rfl, rfl, _, rfl, ?_⟩
      by_cases c : Ma.On L[i] ps[j]
      · refine iteD (fun y => (gpos.mp y) c) (iteF ⟨s3.trans s4, v, _, _, rfl, ?_⟩)
        rcases hb4 with ⟨e, h⟩ | ⟨l, p, h1, h2, h3, h4, h⟩
        · refine .inl ⟨e, fun m q y => ?_⟩
          rcases seenG_step eL ep y with y | ⟨rfl, rfl⟩
          · exact h m q y
          · exact c
        · refine .inr ⟨l, p, h1, h2, h3, h4, fun m q y hno => ?_⟩
          rcases seenG_step eL ep y with y | ⟨rfl, rfl⟩
          · exact h m q y hno
          · exact absurd c hno
      · refine iteDT (gpos.mpr c) ?_
        rcases hb4 with ⟨rfl, h⟩ | ⟨l, p, h1, h2, h3, h4, h⟩
        · refine ⟨_, rfl, rfl, _, rfl, iteDT rfl (iteT ?_)⟩
          refine ⟨_, rfl, s3.trans s4, .ref ga, _, _, rfl, .inr ⟨L[i], ps[j], List.getElem_mem hi, List.getElem_mem hj, c, hg0, fun m q y hno => ?_⟩⟩
          rcases seenG_step eL ep y with y | ⟨rfl, rfl⟩
          · exact absurd (h m q y) hno
          · unfold Ma.GLt; omega
        · obtain ⟨lb2, lt2⟩ := isL_lb ok ((hL.mem l).mp h1)
          obtain ⟨u0, w0, eg2, pw, gu, gw, gc2, gpos2, gnn2⟩ := Ma.gap_parts lt2 p
          have h40 := h4
          rw [eg2] at h4
          obtain ⟨ba, rfl, hba⟩ := fr2_of h4
          have nb2 := Ma.nn_bd lb2
          have p64 : (8000000000000 : Int) < 2 ^ 64 := by decide
          refine ⟨_, rfl, rfl, _, rfl, iteD (fun y => nomatch y) ?_⟩
          refine ⟨_, rfl, ga, _, 0, _, rfl, rfl, hga, rfl, _, rfl, ba, _, 1, _, rfl, rfl, hba, rfl, _, _, rfl, rfl, .inr ⟨by omega, by omega⟩, _, rfl, ba, _, 0, _, rfl, rfl, hba, rfl, _, rfl, ga, _, 1, _, rfl, rfl, hga, rfl, _, _, rfl, rfl, .inr ⟨by omega, by omega⟩, _, _, rfl, rfl, _, rfl, ?_⟩
          have cmp := Ma.gap_lt lt lt2 (p := ps[j]) (q := p) py pw gx gu
          by_cases g : Ma.GLt L[i] ps[j] l p
          · refine iteDT (cmp.mpr g) ?_
            refine ⟨_, rfl, s3.trans s4, .ref ga, _, _, rfl, .inr ⟨L[i], ps[j], List.getElem_mem hi, List.getElem_mem hj, c, hg0, fun m q y hno lt3 => ?_⟩⟩
            rcases seenG_step eL ep y with y | ⟨rfl, rfl⟩
            · have tm : Ma.Told m := by
                rcases y with ⟨i', _, e, _⟩ | ⟨e, _⟩
                · exact Ma.isL_told ((hL.mem m).mp (List.mem_of_getElem? e))
                · exact Ma.isL_told ((hL.mem m).mp (List.mem_of_getElem? e))
              exact h m q y hno (lt3.trans tm lt lt2 g)
            · revert lt3; unfold Ma.GLt; omega
          · refine iteD (fun y => g (cmp.mp y)) ?_
            refine ⟨s3.trans s4, .ref ba, _, _, rfl, .inr ⟨l, p, h1, h2, h3, h40, fun m q y hno => ?_⟩⟩
            rcases seenG_step eL ep y with y | ⟨rfl, rfl⟩
            · exact h m q y hno
            · exact g
    · rintro σ H3 ⟨s3, v, o5, o6, rfl, hb⟩
      rw [hpl0] at hb
      exact ⟨s3, v, _, _, _, _, rfl, hb.next⟩
  · rintro σ H2 ⟨s2, v, o3, o4, o5, o6, rfl, hb⟩
    rw [hra.lx] at hb
    exact ⟨_, rfl, q v H2 s2 (hb.done ok hL)⟩
end
end Tw

namespace Ma
open PySem L2 L3
def stepR (n : Nat) : List Pt := (List.range n).map fun (k : Nat) => (9 + 2 * (k : Int), (k : Int) - 30)
theorem stepR_succ (n : Nat) : stepR (n + 1) = stepR n ++ [(9 + 2 * (n : Int), (n : Int) - 30)] := by
  unfold stepR
  rw [List.range_succ, List.map_append]; rfl
end Ma
namespace Tw
open PySem L2 L3
theorem stepR_ok {n : Nat} (h2 : 2 ≤ n) (h20 : n ≤ 20) : PsOk (Ma.stepR n) := by
  refine ⟨⟨?_, ?_⟩, ?_, ?_⟩
  · unfold Ma.stepR
    refine List.pairwise_map.mpr (List.Pairwise.imp ?_ (List.pairwise_lt_range (n := n)))
    intro i j h e
    have e2 : (i : Int) - 30 = (j : Int) - 30 := (Prod.mk.inj e).2
    omega
  · intro p hp
    unfold Ma.stepR at hp
    obtain ⟨i, hi, rfl⟩ := List.mem_map.mp hp
    have hl := List.mem_range.mp hi
    refine ⟨?_, ?_, ?_, ?_⟩ <;> (show _ ≤ _; simp only []; omega)
  · unfold Ma.stepR; rw [List.length_map, List.length_range]; exact h2
  · unfold Ma.stepR; rw [List.length_map, List.length_range]; exact h20
section
variable {P : Program} {w : World} {K : PySem.W.Frag} {mg : Str → Option Value} {base : Heap}
theorem sc_law : FnScope ["script", "points", "rows", "handed", "found", "due"] ["script"] (defScope t_law) := ⟨rfl, rfl, rfl, by decide +kernel, rfl, by decide +kernel, by decide +kernel⟩
theorem ok_law {f : Addr} {fd : FuncData} (F : Fun K "law" "law" t_law f fd) (m_len : mg "len" = none) (m_range : mg "range" = none) (m_list : mg "list" = none) (m_isi : mg "isinstance" = none) (m_tuple : mg "tuple" = none) (k_cell_at : Cal P w K mg base 1 "_law_cell_at" ["script", "k"] (spCell K)) (k_set : Cal P w K mg base 3 "_law_set" ["script"] (spSet K))
    (k_llines : Cal P w K mg base 3 "_law_lines" ["points"] (spLLines K)) (k_near : Cal P w K mg base 6 "nearest" ["points"] (spNear K)) (k_least : Cal P w K mg base 4 "_law_least" ["points", "rows"] (spLeast K)) (k_whole : Cal P w K mg base 1 "_law_whole" ["found"] spWhole)
    (k_is_tuple : Cal P w K mg base 2 "_law_is_tuple" ["found", "due"] (spIsT K)) (k_gap : Cal P w K mg base 3 "_law_gap" ["line", "point"] (spGap K)) : FnOk P w K mg base (CXE P w) 7 f fd ["script"] (spLaw K) := by
  refine okN F sc_law (fun vs H Q E h => ?_) (fun cdv A outer s H vs Q E hr h => ?_)
  · obtain ⟨a, ns, rfl, _⟩ := h
    rfl
  obtain ⟨a, ns, rfl, hS, h63, q⟩ := h
  have nd := sc_law.nd
  have hr1 := hr.mono (show 1 ≤ 6 by decide)
  have hr2 := hr.mono (show 2 ≤ 6 by decide)
  have hr3 := hr.mono (show 3 ≤ 6 by decide)
  have hr4 := hr.mono (show 4 ≤ 6 by decide)
  have hu : (A.deeper (PyProof.Rows.envOfC "law" (defScope t_law) s.heap.objs.size f cdv)).units + 40 < cLine := by have := hr.units; omega
  have tail : ∃ t, PSs (cxOf (CXE P w) P w K mg base ["script", "points", "rows", "handed", "found", "due"] "law" (defScope t_law) f cdv A outer s H E).nox ((defBody t_law).drop 2) t ∧
      ∀ (r : Addr) (ps : List Ma.Pt) (H3 : Hp), PtsAt K H3 r ps → PsOk ps → t { nx := fun _ H' => Q .non H', rt := Q } [some (.ref a), some (.ref r), none, none, none, none] H3 := by
    refine ⟨_, (pss_cons (sset 2 nd (pe_c k_llines hr3 (a1 (pv 1))))
      (pss_cons (sset 3 nd (callT b_list call_list_of m_list (a1 (pv 1))))
      (pss_cons (sset 4 nd (pe_c k_near hr (a1 (pv 3))))
      (pss_cons (sset 5 nd (pe_c k_least hr4 (a2 (pv 1) (pv 2))))
      (pss_cons (ps_if (PW.pt (pw_or (cmp (op_neD hu) (pv 3) (pv 1)) (pw_or1 (cmp op_isN (pv 5) pe_non)))) (pss_one (ps_ret (pe_and (cmpE (op_eqD hu) (pv 3) (pv 1)) (pe_one (cmpE op_isN (pv 4) pe_non))))) pss_nil)
      (pss_cons (ps_if (PW.pt (pw_or (pt_not (tval (callB b_isi call_isiD m_isi (a2 (pv 4) (pe_ty b_tuple m_tuple))))) (pw_or (cmp op_ne (callB b_len call_len_seq m_len (a1 (pv 4))) pe_int) (pw_or1 (pt_not (tval (pe_c k_whole hr1 (a1 (ixT (pv 4) pe_int))))))))) (pss_one (ps_ret pe_bl)) pss_nil)
      (pss_cons (ps_if (PW.pt (pw_or (cmp op_lt (ixT (pv 4) pe_int) pe_int) (pw_or (cmp op_ge (ixT (pv 4) pe_int) (callB b_len call_len_seq m_len (a1 (pv 1)))) (pw_or1 (cmp (op_notinDk (K := K) hu) (ixT (pv 4) pe_int) (pe_lc (tc := tYes) rfl (compS_mk (tgs := ["row"]) (caps := []) rfl rfl rfl rfl trivial rfl rfl) (pi_list (pv 2)) (fun _ _ _ _ => (pg_name (i := 0) (show (["row"] : List Str).Nodup by decide +kernel) rfl (Or.inl rfl))) (Or.inl ⟨rfl, rfl⟩) (fun _ _ _ _ => (ixTk K (pv 0) pe_int)))))))) (pss_one (ps_ret pe_bl)) pss_nil)
      (pss_cons (ps_if (PW.pt (pw_or (pt_not (tval (pe_c k_is_tuple hr2 (a2 (ixT (pv 4) pe_int) (ixT (pv 4) pe_int))))) (pw_or1 (pt_not (tval (pe_c k_is_tuple hr2 (a2 (ixT (pv 4) pe_int) (pv 5)))))))) (pss_one (ps_ret pe_bl)) pss_nil)
      (pss_one (ps_ret (cmpE (op_eqD hu) (pe_c k_gap hr3 (a2 (ixT (pv 4) pe_int) (ixL (pv 1) (ixT (pv 4) pe_int)))) (pv 5)))))))))))), ?_⟩
    intro r ps H3 hps ok
    obtain ⟨px, hpx, hpl0, hpat⟩ := hps.get
    obtain ⟨px', hpx', hpd⟩ := hps
    obtain rfl : px' = px := by rw [hpx] at hpx'; cases hpx'; rfl
    refine ⟨_, rfl, r, ps, rfl, ⟨px', hpx, hpd⟩, ok, fun L fv fas H4 hL s4 nf => ?_⟩
    obtain ⟨fden, fnd, ffr⟩ := nf
    obtain ⟨fa, xs, as, rfl, hfa, hfx, rfl⟩ := fden.lst_of
    have hra : RowsAt K H4 ps L xs as := rows_of hfx
    have Ln := lines_len ok hL
    have z20 := ok.len
    have z2 := ok.two
    refine ⟨_, rfl, r, px', rfl, .inl (SqL.of (s4 _ _ hpx)), fun h f1 => ?_⟩
    have s5 := same_new f1 (.lst px')
    have hh5 : (upd H4 h (.lst px')) h = some (.lst px') := upd_same
    generalize upd H4 h (.lst px') = H5 at s5 hh5 ⊢
    have s35 := s4.trans s5
    refine ⟨_, rfl, h, ps, rfl, ⟨px', hh5, Dens.same s35 _ _ hpd⟩, ok, fun d v H6 hd s6 hv => ?_⟩
    have s36 := s35.trans s6
    have s46 := s5.trans s6
    refine ⟨_, rfl, _, rfl, r, fa, ps, xs, as, L, rfl, ⟨px', s36 _ _ hpx, Dens.same s36 _ _ hpd⟩, ok, s46 _ _ hfa, hra.same s46, hL, fun dv H7 s7 hcase => ?_⟩
    have s37 := s36.trans s7
    have s57 := s6.trans s7
    have s47 := s46.trans s7
    have dpts : ∀ (b : Addr), H7 b = some (.lst px') → Den K H7 (Ma.plst ps) (.ref b) := fun b e => den_lst (SqL.of e) (Dens.same s37 _ _ hpd)
    have hpx7 := s37 _ _ hpx
    have hh7 := s57 _ _ hh5
    refine ⟨_, rfl, _, rfl, Ma.plst ps, Ma.plst ps, dpts _ hh7, dpts _ hpx7, Ma.shp_plst _, Ma.shp_plst _, _, rfl, ?_⟩
    rw [Ma.eqv_plst, decide_eq_true rfl]
    refine iteF ?_
    rcases hcase with ⟨rfl, col⟩ | ⟨l, p, near, dden⟩
    · refine ⟨_, rfl, rfl, _, rfl, iteDT rfl ?_⟩
      refine ⟨_, rfl, _, rfl, Ma.plst ps, Ma.plst ps, dpts _ hh7, dpts _ hpx7, Ma.shp_plst _, Ma.shp_plst _, true, ?_, iteT ?_⟩
      · show V.bl (PyData.eqv (Ma.plst ps) (Ma.plst ps)) = _
        rw [Ma.eqv_plst, decide_eq_true rfl]
      · rcases hd with ⟨_, rfl⟩ | ⟨i, p, l, e, near, rfl⟩
        · obtain rfl : v = .non := by simpa only [Den] using hv
          exact ⟨_, rfl, rfl, q _⟩
        · exact absurd col near.ncol
    · rcases hd with ⟨col, rfl⟩ | ⟨i, p', l', ei, near', rfl⟩
      · exact absurd col near.ncol
      have eg := near.gap near'
      rw [eg] at dden
      obtain ⟨da, xs', rfl, hda, _⟩ := dden.tup_of
      refine ⟨_, rfl, rfl, _, rfl, iteD (fun y => nomatch y) ?_⟩
      have hv7 := Den.same s7 _ _ hv
      obtain ⟨ft, y, z, rfl, hft, hy, hz⟩ := near_parts hv7
      have il := (List.getElem?_eq_some_iff.mp ei).1
      obtain ⟨lb, lt⟩ := isL_lb ok near'.isl
      refine ⟨_, rfl, _, _, _, .tuple [.int i, Ma.ln l', itup (Ma.gapOf l' p')], true, rfl, relv_ty, hv7, kit_tt K, true, rfl, iteF ?_⟩
      refine ⟨_, rfl, ft, _, rfl, .inr hft, rfl, _, rfl, iteNS rfl ?_⟩
      refine ⟨_, rfl, ft, _, 0, _, rfl, rfl, hft, rfl, _, rfl, true, rfl, iteF ?_⟩
      refine ⟨_, rfl, ft, _, 0, _, rfl, rfl, hft, rfl, _, _, rfl, rfl, _, rfl, iteD (by omega) ?_⟩
      refine ⟨_, rfl, ft, _, 0, _, rfl, rfl, hft, rfl, _, rfl, r, px', rfl, .inl (SqL.of hpx7), _, _, rfl, rfl, _, rfl, iteD (by omega) ?_⟩
      have hfa7 := s47 _ _ hfa
      have hra7 := hra.same s47
      refine ⟨_, rfl, ft, _, 1, _, rfl, rfl, hft, rfl, _, rfl, fa, rfl, ⟨_, SqL.of hfa7⟩, comp_list (K := K) (a := fa) (xs := xs) (fun m zs σ' H8 => H8 = H7 ∧ (∃ o', σ' = [o']) ∧ Dens K H7 ((L.take m).map Ma.ln) zs ∧ zs.length ≤ m) ⟨rfl, ⟨none, rfl⟩, Dens.nil, Nat.le_refl _⟩ ?_ ?_ ?_ ?_⟩
      · rw [hra.lx]; exact Nat.le_trans Ln (by decide)
      · rintro m zs σ' H8 _ ⟨rfl, _, _, hl⟩
        exact ⟨SqL.of hfa7, hl⟩
      · rintro m x zs σ' H8 hx ⟨rfl, ⟨o', rfl⟩, hd8, hl⟩
        refine yesT ?_
        have hm : m < L.length := by rw [← hra.lx]; exact (List.getElem?_eq_some_iff.mp hx).1
        obtain ⟨x', pl', ey, _, t', z', rfl, ht', hz', hpl'⟩ := hra7.at_ m _ (List.getElem?_eq_getElem hm)
        rw [hx] at ey; cases ey
        refine ⟨_, rfl, t', _, 0, _, rfl, rfl, ht', rfl, rfl, ⟨_, rfl⟩, ?_, by rw [List.length_append]; exact Nat.succ_le_succ hl⟩
        rw [List.take_succ, List.getElem?_eq_getElem hm, List.map_append]
        exact Dens.append hd8 (Dens.cons hz' Dens.nil)
      · rintro zs σ' H8 ⟨rfl, ⟨o', rfl⟩, hd8, hl⟩ p2 fp2
        rw [hra.lx, List.take_length] at hd8
        have s8 := same_new fp2 (.lst zs)
        refine ⟨Ma.ln l', _, p2, zs, rfl, .inl (SqL.of upd_same), Dens.same s8 _ _ hd8, Den.same s8 _ _ hy, Ma.shp_ln _, fun e he => ?_, _, rfl, ?_⟩
        · obtain ⟨l, _, rfl⟩ := List.mem_map.mp he
          exact Ma.shp_ln _
        rw [any_ln ((hL.mem l').mpr near'.isl)]
        refine iteF ?_
        generalize upd H8 p2 (.lst zs) = H9 at s8 ⊢
        have hft9 := same_seqT s8 hft
        have hy9 := Den.same s8 _ _ hy
        have hz9 := Den.same s8 _ _ hz
        have hd9 := Den.same s8 _ _ dden
        refine ⟨_, rfl, ft, _, 1, _, rfl, rfl, hft9, rfl, _, rfl, ft, _, 1, _, rfl, rfl, hft9, rfl, y, y, Ma.lnl l', rfl, hy9, hy9, true, rfl, iteF ?_⟩
        refine ⟨_, rfl, ft, _, 2, _, rfl, rfl, hft9, rfl, _, rfl, z, .ref da, Ma.gapOf l' p', rfl, hz9, hd9, true, rfl, iteF ?_⟩
        obtain ⟨x, ex, dx⟩ := hpat i _ ei
        have s39 := s37.trans s8
        refine ⟨_, rfl, ft, _, 1, _, rfl, rfl, hft9, rfl, _, rfl, _, rfl, ft, _, 0, _, rfl, rfl, hft9, rfl, r, px', _, x, rfl, rfl, SqL.of (s8 _ _ hpx7), atI_nat ex, y, x, l', p', rfl, hy9, Den.same s39 _ _ dx, lb, lt.up, ok.good.inb _ near'.mem, fun g H10 s10 hg => ?_⟩
        refine ⟨_, rfl, itup (Ma.gapOf l' p'), itup (Ma.gapOf l' p'), hg, Den.same s10 _ _ hd9, shp_ints _, shp_ints _, ?_⟩
        show Q (.bl (PyData.eqv (itup (Ma.gapOf l' p')) (itup (Ma.gapOf l' p')))) _
        rw [eqv_ints, decide_eq_true rfl]
        exact q _
  obtain ⟨tT, hT, rT⟩ := tail
  refine ⟨_, (pss_cons (sset 1 nd (pe_c k_set hr3 (a1 (pv 0))))
      (pss_cons (ps_if (cmp op_eq (pe_op op_mod (pe_c k_cell_at hr1 (a2 (pv 0) pe_int)) pe_int) pe_int) (pss_one (ps_lc (tc := tYes) (i := 1) rfl (compS_mk (tgs := ["k"]) (caps := []) rfl rfl rfl rfl trivial rfl rfl) nd rfl rfl (pi_range1 rfl m_range (a1 (callB b_len call_len_seq m_len (a1 (pv 1))))) (fun _ _ _ _ => (pg_name (i := 0) (show (["k"] : List Str).Nodup by decide +kernel) rfl (Or.inl rfl))) (Or.inl ⟨rfl, rfl⟩) (fun _ _ _ _ => (pe_tup (a2 (pe_op op_add pe_int (pe_op op_mul pe_int (pv 0))) (pe_op op_sub (pv 0) pe_int)))))) pss_nil) hT)), ?_⟩
  refine ⟨_, rfl, a, ns, rfl, hS, fun r H1 s1 hp => ?_⟩
  obtain ⟨xs, r0, hr', hxs⟩ := hp
  have hS1 := s1.seq hS
  have okS := set_ok ns
  have lx : xs.length = (Ma.setP ns).length := by have := Dens.length hxs; rw [List.length_map] at this; exact this
  have l20 := okS.len
  have l2 := okS.two
  refine ⟨_, rfl, a, ns, 1, rfl, hS1, by decide, _, _, rfl, rfl, (by show (0 : Int) < 4; decide), rfl, _, rfl, ?_⟩
  by_cases c : Ma.cell ns 1 % 4 = 1
  · refine iteDT (congrArg V.int c) ?_
    refine ⟨_, rfl, r, xs, rfl, .inl (SqL.of hr'), _, rfl, by omega, by omega, comp_range (n := (xs.length : Int).toNat) (fun m ys σ' H8 => Same H1 H8 ∧ (∃ o', σ' = [o']) ∧ Dens K H8 ((Ma.stepR m).map Ma.pt) ys ∧ ys.length ≤ m) ⟨Same.refl _, ⟨none, rfl⟩, Dens.nil, Nat.le_refl _⟩ ?_ ?_ ?_ ?_⟩
    · exact Nat.le_trans (show (xs.length : Int).toNat ≤ 1000 by omega) (by decide)
    · rintro m ys σ' H8 _ ⟨_, _, _, hl⟩
      exact hl
    · rintro m ys σ' H8 hm ⟨s8, ⟨o', rfl⟩, hd8, hl⟩
      refine yesT ?_
      have e0 : (0 : Int) + (m : Int) = (m : Int) := Int.zero_add _
      rw [e0]
      refine ⟨_, rfl, _, _, rfl, rfl, .inl ⟨by decide, by decide⟩, _, _, rfl, rfl, _, rfl, _, _, rfl, rfl, (by show 2 ≤ sizeLine; decide), fun tp ftp => ?_⟩
      have s9 := same_new ftp (.tup [.int (9 + 2 * (m : Int)), .int ((m : Int) - 30)])
      refine ⟨s8.trans s9, ⟨_, rfl⟩, ?_, by rw [List.length_append]; exact Nat.succ_le_succ hl⟩
      rw [Ma.stepR_succ, List.map_append]
      exact Dens.append (Dens.same s9 _ _ hd8) (Dens.cons (den_tup (SqT.of upd_same) (Dens.cons den_int (Dens.cons den_int Dens.nil))) Dens.nil)
    · rintro ys σ' H8 ⟨s8, ⟨o', rfl⟩, hd8, hl⟩ p3 fp3
      exact rT p3 _ _ ⟨ys, upd_same, Dens.same (same_new fp3 _) _ _ hd8⟩ (stepR_ok (by omega) (by omega))
  · refine iteD (fun z => c (V.int.inj z)) ?_
    exact rT r _ H1 ⟨xs, hr', hxs⟩ okS
end
end Tw

open PySem PySem.W PyProof.Rows
set_option maxRecDepth 100000 in
set_option maxHeartbeats 0 in
theorem PySem.Challenge.cw_twoline_k08_nearest_points_holds : PySem.Challenge.rw_twoline_k08_nearest_points.Holds := by
  w_on; o_law; k_head; (case hw => w_witness2)
  k_fill
  refine Tw.walk (l := PySem.Challenge.rw_twoline_k08_nearest_points) (k := 7) rfl rfl ⟨rfl, by decide, by decide⟩ (fun w h Y => PySem.W.kIn_of Y) ?F
  case F =>
    intro w mg fa h KX G hmg
    have S_s_greatest_divisor : L3.Src (L2.KOf KX) mg "greatest_divisor" Tw.s_greatest_divisor := by
      dsimp only [L2.KOf]
      refine' L3.src_mk KX G ?a ?l ?c ?k
      (case a => k_is); (case l => k_is); (case c => k_is); (case k => k_is)
    have S_s_line_of : L3.Src (L2.KOf KX) mg "line_of" Tw.s_line_of := by
      dsimp only [L2.KOf]
      refine' L3.src_mk KX G ?a ?l ?c ?k
      (case a => k_is); (case l => k_is); (case c => k_is); (case k => k_is)
    have S_s_offset : L3.Src (L2.KOf KX) mg "offset" Tw.s_offset := by
      dsimp only [L2.KOf]
      refine' L3.src_mk KX G ?a ?l ?c ?k
      (case a => k_is); (case l => k_is); (case c => k_is); (case k => k_is)
    have S_s_on : L3.Src (L2.KOf KX) mg "on" Tw.s_on := by
      dsimp only [L2.KOf]
      refine' L3.src_mk KX G ?a ?l ?c ?k
      (case a => k_is); (case l => k_is); (case c => k_is); (case k => k_is)
    have S_s_is_point : L3.Src (L2.KOf KX) mg "is_point" Tw.s_is_point := by
      dsimp only [L2.KOf]
      refine' L3.src_mk KX G ?a ?l ?c ?k
      (case a => k_is); (case l => k_is); (case c => k_is); (case k => k_is)
    have S_s_are_points : L3.Src (L2.KOf KX) mg "are_points" Tw.s_are_points := by
      dsimp only [L2.KOf]
      refine' L3.src_mk KX G ?a ?l ?c ?k
      (case a => k_is); (case l => k_is); (case c => k_is); (case k => k_is)
    have S_s_refuse_bad : L3.Src (L2.KOf KX) mg "refuse_bad" Tw.s_refuse_bad := by
      dsimp only [L2.KOf]
      refine' L3.src_mk KX G ?a ?l ?c ?k
      (case a => k_is); (case l => k_is); (case c => k_is); (case k => k_is)
    have S_s_lines_of_pairs : L3.Src (L2.KOf KX) mg "lines_of_pairs" Tw.s_lines_of_pairs := by
      dsimp only [L2.KOf]
      refine' L3.src_mk KX G ?a ?l ?c ?k
      (case a => k_is); (case l => k_is); (case c => k_is); (case k => k_is)
    have S_s_places_on : L3.Src (L2.KOf KX) mg "places_on" Tw.s_places_on := by
      dsimp only [L2.KOf]
      refine' L3.src_mk KX G ?a ?l ?c ?k
      (case a => k_is); (case l => k_is); (case c => k_is); (case k => k_is)
    have S_s_lines : L3.Src (L2.KOf KX) mg "lines" Tw.s_lines := by
      dsimp only [L2.KOf]
      refine' L3.src_mk KX G ?a ?l ?c ?k
      (case a => k_is); (case l => k_is); (case c => k_is); (case k => k_is)
    have S_s_fraction : L3.Src (L2.KOf KX) mg "fraction" Tw.s_fraction := by
      dsimp only [L2.KOf]
      refine' L3.src_mk KX G ?a ?l ?c ?k
      (case a => k_is); (case l => k_is); (case c => k_is); (case k => k_is)
    have S_s_gap : L3.Src (L2.KOf KX) mg "gap" Tw.s_gap := by
      dsimp only [L2.KOf]
      refine' L3.src_mk KX G ?a ?l ?c ?k
      (case a => k_is); (case l => k_is); (case c => k_is); (case k => k_is)
    have S_s_gaps_off_lines : L3.Src (L2.KOf KX) mg "gaps_off_lines" Tw.s_gaps_off_lines := by
      dsimp only [L2.KOf]
      refine' L3.src_mk KX G ?a ?l ?c ?k
      (case a => k_is); (case l => k_is); (case c => k_is); (case k => k_is)
    have S_s_is_smaller : L3.Src (L2.KOf KX) mg "is_smaller" Tw.s_is_smaller := by
      dsimp only [L2.KOf]
      refine' L3.src_mk KX G ?a ?l ?c ?k
      (case a => k_is); (case l => k_is); (case c => k_is); (case k => k_is)
    have S_s_nearest : L3.Src (L2.KOf KX) mg "nearest" Tw.s_nearest := by
      dsimp only [L2.KOf]
      refine' L3.src_mk KX G ?a ?l ?c ?k
      (case a => k_is); (case l => k_is); (case c => k_is); (case k => k_is)
    have S_t_cell_at : L3.Src (L2.KOf KX) mg "_law_cell_at" Tw.t_cell_at := by
      dsimp only [L2.KOf]
      refine' L3.src_mk KX G ?a ?l ?c ?k
      (case a => k_is); (case l => k_is); (case c => k_is); (case k => k_is)
    have S_t_point_by : L3.Src (L2.KOf KX) mg "_law_point_by" Tw.t_point_by := by
      dsimp only [L2.KOf]
      refine' L3.src_mk KX G ?a ?l ?c ?k
      (case a => k_is); (case l => k_is); (case c => k_is); (case k => k_is)
    have S_t_points_by : L3.Src (L2.KOf KX) mg "_law_points_by" Tw.t_points_by := by
      dsimp only [L2.KOf]
      refine' L3.src_mk KX G ?a ?l ?c ?k
      (case a => k_is); (case l => k_is); (case c => k_is); (case k => k_is)
    have S_t_set : L3.Src (L2.KOf KX) mg "_law_set" Tw.t_set := by
      dsimp only [L2.KOf]
      refine' L3.src_mk KX G ?a ?l ?c ?k
      (case a => k_is); (case l => k_is); (case c => k_is); (case k => k_is)
    have S_t_whole : L3.Src (L2.KOf KX) mg "_law_whole" Tw.t_whole := by
      dsimp only [L2.KOf]
      refine' L3.src_mk KX G ?a ?l ?c ?k
      (case a => k_is); (case l => k_is); (case c => k_is); (case k => k_is)
    have S_t_divisor : L3.Src (L2.KOf KX) mg "_law_divisor" Tw.t_divisor := by
      dsimp only [L2.KOf]
      refine' L3.src_mk KX G ?a ?l ?c ?k
      (case a => k_is); (case l => k_is); (case c => k_is); (case k => k_is)
    have S_t_low : L3.Src (L2.KOf KX) mg "_law_low" Tw.t_low := by
      dsimp only [L2.KOf]
      refine' L3.src_mk KX G ?a ?l ?c ?k
      (case a => k_is); (case l => k_is); (case c => k_is); (case k => k_is)
    have S_t_line : L3.Src (L2.KOf KX) mg "_law_line" Tw.t_line := by
      dsimp only [L2.KOf]
      refine' L3.src_mk KX G ?a ?l ?c ?k
      (case a => k_is); (case l => k_is); (case c => k_is); (case k => k_is)
    have S_t_on : L3.Src (L2.KOf KX) mg "_law_on" Tw.t_on := by
      dsimp only [L2.KOf]
      refine' L3.src_mk KX G ?a ?l ?c ?k
      (case a => k_is); (case l => k_is); (case c => k_is); (case k => k_is)
    have S_t_is_tuple : L3.Src (L2.KOf KX) mg "_law_is_tuple" Tw.t_is_tuple := by
      dsimp only [L2.KOf]
      refine' L3.src_mk KX G ?a ?l ?c ?k
      (case a => k_is); (case l => k_is); (case c => k_is); (case k => k_is)
    have S_t_lines : L3.Src (L2.KOf KX) mg "_law_lines" Tw.t_lines := by
      dsimp only [L2.KOf]
      refine' L3.src_mk KX G ?a ?l ?c ?k
      (case a => k_is); (case l => k_is); (case c => k_is); (case k => k_is)
    have S_t_gap : L3.Src (L2.KOf KX) mg "_law_gap" Tw.t_gap := by
      dsimp only [L2.KOf]
      refine' L3.src_mk KX G ?a ?l ?c ?k
      (case a => k_is); (case l => k_is); (case c => k_is); (case k => k_is)
    have S_t_least : L3.Src (L2.KOf KX) mg "_law_least" Tw.t_least := by
      dsimp only [L2.KOf]
      refine' L3.src_mk KX G ?a ?l ?c ?k
      (case a => k_is); (case l => k_is); (case c => k_is); (case k => k_is)
    have S_t_law : L3.Src (L2.KOf KX) mg "law" Tw.t_law := by
      dsimp only [L2.KOf]
      refine' L3.src_mk KX G ?a ?l ?c ?k
      (case a => k_is); (case l => k_is); (case c => k_is); (case k => k_is)
    have m_abs : mg "abs" = none := by
      refine' PySem.W.mg_none_of KX G ?a
      (case a => k_is)
    have m_len : mg "len" = none := by
      refine' PySem.W.mg_none_of KX G ?a
      (case a => k_is)
    have m_range : mg "range" = none := by
      refine' PySem.W.mg_none_of KX G ?a
      (case a => k_is)
    have m_set : mg "set" = none := by
      refine' PySem.W.mg_none_of KX G ?a
      (case a => k_is)
    have m_all : mg "all" = none := by
      refine' PySem.W.mg_none_of KX G ?a
      (case a => k_is)
    have m_sorted : mg "sorted" = none := by
      refine' PySem.W.mg_none_of KX G ?a
      (case a => k_is)
    have m_list : mg "list" = none := by
      refine' PySem.W.mg_none_of KX G ?a
      (case a => k_is)
    have m_isi : mg "isinstance" = none := by
      refine' PySem.W.mg_none_of KX G ?a
      (case a => k_is)
    have m_int : mg "int" = none := by
      refine' PySem.W.mg_none_of KX G ?a
      (case a => k_is)
    have m_bool : mg "bool" = none := by
      refine' PySem.W.mg_none_of KX G ?a
      (case a => k_is)
    have m_tuple : mg "tuple" = none := by
      refine' PySem.W.mg_none_of KX G ?a
      (case a => k_is)
    have g_FARTHEST : L3.GV mg "FARTHEST" (.int 1000000) := by
      refine' ⟨_, PySem.W.mg_of KX G ?a, ?b⟩
      (case a => k_is)
      (case b => exact ⟨_, rfl⟩)
    have g_FEWEST : L3.GV mg "FEWEST" (.int 2) := by
      refine' ⟨_, PySem.W.mg_of KX G ?a, ?b⟩
      (case a => k_is)
      (case b => exact ⟨_, rfl⟩)
    have g_MOST : L3.GV mg "MOST" (.int 20) := by
      refine' ⟨_, PySem.W.mg_of KX G ?a, ?b⟩
      (case a => k_is)
      (case b => exact ⟨_, rfl⟩)
    obtain ⟨cS, zS⟩ : ∃ C, L3.ExcC (L2.KOf KX) mg "SamePoint" C := by
      dsimp only [L2.KOf]
      refine' ⟨_, L3.excC_mk KX G ?a ?e⟩
      (case a => k_is); (case e => k_exc)
    obtain ⟨cP, zP⟩ : ∃ C, L3.ExcC (L2.KOf KX) mg "BadPoints" C := by
      dsimp only [L2.KOf]
      refine' ⟨_, L3.excC_mk KX G ?a ?e⟩
      (case a => k_is); (case e => k_exc)
    refine L3.law_at S_t_law hmg (fun _ _ _ _ _ _ _ => rfl) fun base f fd Fn => ?_
    have k_cell := Tw.c_cell_at (P := PySem.Challenge.rw_twoline_k08_nearest_points.prog) (w := w) (base := base) S_t_cell_at m_len
    have k_pt := Tw.c_point_by (P := PySem.Challenge.rw_twoline_k08_nearest_points.prog) (w := w) (base := base) S_t_point_by
    have k_pts := Tw.c_points_by S_t_points_by m_len m_range k_cell k_pt
    have k_set := Tw.c_set S_t_set k_cell k_pts
    have k_ip := Tw.c_is_point (P := PySem.Challenge.rw_twoline_k08_nearest_points.prog) (w := w) (base := base) S_s_is_point m_abs g_FARTHEST
    have k_ap := Tw.c_are_points S_s_are_points m_len m_set m_all g_FEWEST g_MOST k_ip
    have k_rb := Tw.c_refuse_bad S_s_refuse_bad zP k_ap
    have k_gd := Tw.c_greatest_divisor (P := PySem.Challenge.rw_twoline_k08_nearest_points.prog) (w := w) (base := base) S_s_greatest_divisor m_abs
    have k_lo := Tw.c_line_ofT S_s_line_of zS k_gd
    have k_of := Tw.c_offset (P := PySem.Challenge.rw_twoline_k08_nearest_points.prog) (w := w) (base := base) S_s_offset
    have k_on := Tw.c_on S_s_on k_of
    have k_lp := Tw.c_lines_of_pairs S_s_lines_of_pairs m_len m_range m_sorted k_lo
    have k_po := Tw.c_places_on S_s_places_on m_len m_range k_on
    have k_ls := Tw.c_lines S_s_lines k_rb k_lp k_po
    have k_fr := Tw.c_fraction S_s_fraction k_gd
    have k_gp := Tw.c_gap S_s_gap k_of k_fr
    have k_go := Tw.c_gaps_off_lines S_s_gaps_off_lines m_len m_range k_ls k_gp
    have k_sm := Tw.c_is_smaller (P := PySem.Challenge.rw_twoline_k08_nearest_points.prog) (w := w) (base := base) S_s_is_smaller
    have k_ne := Tw.c_nearest S_s_nearest k_go k_sm
    have k_div := Tw.c_divisor (P := PySem.Challenge.rw_twoline_k08_nearest_points.prog) (w := w) (base := base) S_t_divisor m_abs
    have k_ll := Tw.c_lineT S_t_line k_div
    have k_lon := Tw.c_lon (P := PySem.Challenge.rw_twoline_k08_nearest_points.prog) (w := w) (base := base) S_t_on
    have k_wh := Tw.c_whole (P := PySem.Challenge.rw_twoline_k08_nearest_points.prog) (w := w) (base := base) S_t_whole m_isi m_int m_bool
    have k_it := Tw.c_is_tuple S_t_is_tuple m_isi m_tuple m_len k_wh
    have k_low := Tw.c_low S_t_low k_div
    have k_lg := Tw.c_lgap S_t_gap k_low
    have k_lls := Tw.c_llines S_t_lines m_len m_range m_sorted m_list k_ll k_lon
    have k_le := Tw.c_least S_t_least k_lg
    exact Tw.ok_law Fn m_len m_range m_list m_isi m_tuple k_cell k_set k_lls (Tw.near_imp k_ne) k_le k_wh k_it k_lg

