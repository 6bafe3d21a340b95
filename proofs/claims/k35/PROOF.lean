import PyProof.Rows.All
import Wide.All
import OpenK.AllK
import Wide.FinOn
import Lean
import PyProof.EqAt
import PyProof.EqKinds
import PyProof.TupleCall
import PySem.Challenge.RW_pactroom_k35_a_sheet
set_option Elab.async false
set_option linter.all false
set_option maxRecDepth 100000
/-! THE HAND LAYER, for ints, bools, texts, own classes, LISTS and tuples (index, slices, in, append, pop ..), calls, loops. Paste it whole ahead of your own text; what your proof does not reach may be deleted. -/
namespace L2
open PySem PySem.Spec PyProof.Rows

/-- a key: an int or a str -/
abbrev Key := Sum Int Str
def keyIs : Key → Value → Bool
  | .inl k, v => Value.isInt k v
  | .inr x, v => Value.isStrOf x v
def keyH (w : World) : Key → Int
  | .inl k => hashInt k
  | .inr x => hashStr w x
theorem keyIs_shape : ∀ {k : Key} {v : Value}, keyIs k v = true → (∃ i t, k = Sum.inl i ∧ v = Value.int i t) ∨ (∃ x t, k = Sum.inr x ∧ v = Value.str x t)
  | .inl i, v, h => by
    obtain ⟨t, e⟩ := Value.isInt_shape (k := i) (v := v) h
    exact .inl ⟨i, t, rfl, e⟩
  | .inr x, v, h => by
    obtain ⟨t, e⟩ := Value.isStrOf_shape (x := x) (v := v) h
    exact .inr ⟨x, t, rfl, e⟩
theorem keyIs_int (i : Int) (t : Tok) : keyIs (.inl i) (.int i t) = true := by simp [keyIs, Value.isInt]
theorem keyIs_str (x : Str) (t : Tok) : keyIs (.inr x) (.str x t) = true := by simp [keyIs, Value.isStrOf]
theorem key_ll (a b : Int) : decide ((Sum.inl a : Key) = Sum.inl b) = (a == b) := by
  by_cases e : a = b
  · subst e; simp
  · have h : ¬ (Sum.inl a : Key) = Sum.inl b := fun q => e (Sum.inl.inj q)
    rw [decide_eq_false h]
    exact (beq_eq_false_iff_ne.mpr e).symm
theorem key_rr (a b : Str) : decide ((Sum.inr a : Key) = Sum.inr b) = decide (a = b) := by
  by_cases e : a = b
  · subst e; simp
  · have h : ¬ (Sum.inr a : Key) = Sum.inr b := fun q => e (Sum.inr.inj q)
    rw [decide_eq_false h, decide_eq_false e]
theorem key_lr (a : Int) (b : Str) : decide ((Sum.inl a : Key) = Sum.inr b) = false := decide_eq_false (fun q => nomatch q)
theorem key_rl (a : Str) (b : Int) : decide ((Sum.inr a : Key) = Sum.inl b) = false := decide_eq_false (fun q => nomatch q)

def mixKind (prog : Program) (w : World) : PySem.KeyKind prog w Key where
  is := keyIs
  hash := keyH w
  inj := fun v a b ha hb => by
    rcases keyIs_shape ha with ⟨i, t, rfl, rfl⟩ | ⟨x, t, rfl, rfl⟩
    · rcases keyIs_shape hb with ⟨j, u, rfl, e⟩ | ⟨y, u, rfl, e⟩
      · injection e with e1 _; rw [e1]
      · exact nomatch e
    · rcases keyIs_shape hb with ⟨j, u, rfl, e⟩ | ⟨y, u, rfl, e⟩
      · exact nomatch e
      · injection e with e1 _; rw [e1]
  byValue := fun k v h => by
    rcases keyIs_shape h with ⟨i, t, rfl, rfl⟩ | ⟨x, t, rfl, rfl⟩ <;> rfl
  pyHash := fun hv h => by
    rcases keyIs_shape hv with ⟨i, t, rfl, rfl⟩ | ⟨x, t, rfl, rfl⟩
    · exact wpAny_pyHash_int h
    · exact wpAny_pyHash_str h
  eqBool := fun hu hv h => by
    rcases keyIs_shape hu with ⟨i, t, rfl, rfl⟩ | ⟨x, t, rfl, rfl⟩
    · rcases keyIs_shape hv with ⟨j, u, rfl, rfl⟩ | ⟨y, u, rfl, rfl⟩
      · rw [key_ll] at h; exact wpAny_eqBool_int h
      · rw [key_lr] at h; exact SeqAt.EqAt.int_str i t y u _ _ _ _ h
    · rcases keyIs_shape hv with ⟨j, u, rfl, rfl⟩ | ⟨y, u, rfl, rfl⟩
      · rw [key_rl] at h; exact SeqAt.EqAt.str_int x t j u _ _ _ _ h
      · rw [key_rr] at h; exact wpAny_eqBool_str h
  «strs» := fun k x t v h => by
    rcases keyIs_shape h with ⟨i, u, rfl, e⟩ | ⟨y, u, rfl, e⟩
    · exact nomatch e
    · injection e with e1 _
      subst e1
      cases v <;> rfl

theorem mixKind_int (prog : Program) (w : World) (i : Int) (t : Tok) : (mixKind prog w).is (.inl i) (.int i t) = true := keyIs_int i t
theorem mixKind_str (prog : Program) (w : World) (x : Str) (t : Tok) : (mixKind prog w).is (.inr x) (.str x t) = true := keyIs_str x t
end L2

namespace L2
open PySem PySem.Spec PyProof.Rows

/-- a value, without the heap -/
inductive V where
  | non | bl (b : Bool) | int (i : Int) | str (x : Str) | byt (b : Array UInt8) | flt (b : UInt64) | ref (a : Addr) | ty (n : String)
  deriving DecidableEq

def RelV : V → Value → Prop
  | .non, u => u = Value.none
  | .bl b, u => u = Value.bool b
  | .int i, u => ∃ t, u = Value.int i t
  | .str x, u => ∃ t, u = Value.str x t
  | .byt b, u => ∃ t, u = Value.bytes b t
  | .flt b, u => ∃ t, u = Value.float b t
  | .ref a, u => u = Value.ref a
  | .ty n, u => u = Value.type n

abbrev Vals : List V → List Value → Prop := Paired RelV
theorem Vals.length {xs : List V} {us : List Value} (r : Vals xs us) : xs.length = us.length := Paired.length r
theorem Vals.get : ∀ {xs : List V} {us : List Value} {i : Nat} {x : V}, Vals xs us → xs[i]? = some x → ∃ u, us[i]? = some u ∧ RelV x u
  | _, _, _, _, .nil, e => by simp at e
  | _, _, 0, _, .cons r _, e => by simp at e; subst e; exact ⟨_, rfl, r⟩
  | _, _, i + 1, x, .cons _ t, e => by
    obtain ⟨u, h1, h2⟩ := Vals.get (i := i) (x := x) t (by simpa using e)
    exact ⟨u, by simpa using h1, h2⟩
theorem Vals.set {x : V} {u : Value} (r : RelV x u) : ∀ {xs : List V} {us : List Value} (i : Nat), Vals xs us → Vals (xs.set i x) (us.set i u)
  | _, _, _, .nil => .nil
  | _, _, 0, .cons _ t => .cons r t
  | _, _, i + 1, .cons q t => .cons q (Vals.set r i t)
theorem Vals.append : ∀ {xs ys : List V} {us ws : List Value}, Vals xs us → Vals ys ws → Vals (xs ++ ys) (us ++ ws)
  | _, _, _, _, .nil, s => s
  | _, _, _, _, .cons r t, s => .cons r (Vals.append t s)
theorem Vals.take : ∀ {xs : List V} {us : List Value} (n : Nat), Vals xs us → Vals (xs.take n) (us.take n)
  | _, _, 0, _ => .nil
  | _, _, _ + 1, .nil => .nil
  | _, _, n + 1, .cons r t => .cons r (Vals.take n t)
theorem Vals.drop : ∀ {xs : List V} {us : List Value} (n : Nat), Vals xs us → Vals (xs.drop n) (us.drop n)
  | _, _, 0, r => r
  | _, _, _ + 1, .nil => .nil
  | _, _, n + 1, .cons _ t => Vals.drop n t
def RelO : Option V → Option Value → Prop
  | some v, some u => RelV v u
  | none, none => True
  | _, _ => False
def KV {κ : Type} : List (κ × V) → List (κ × Value) → Prop := Paired fun (p : κ × V) (q : κ × Value) => p.1 = q.1 ∧ RelV p.2 q.2

/-- a key of a dict (00_mix): an int or a text -/
def kV : Key → V
  | .inl i => .int i
  | .inr x => .str x

/-- what stands at a tracked address -/
inductive HO where
  /-- a list -/
  | lst (xs : List V)
  /-- a tuple (never changes) -/
  | tup (xs : List V)
  /-- a dict whose keys are ints and texts; one whose keys are tuples of ints and texts (the empty one is both) -/
  | dK (kvs : List (Key × V)) | dT (kvs : List (List Key × V))
  /-- a set of ints: its members, its size -/
  | set (S : Int → Bool) (n : Nat)
  /-- an instance of the class at C, its dict at dx, its attributes -/
  | ins (C dx : Addr) (fs : List (Str × V))
  /-- the dict of the instance at x -/
  | own (x : Addr)
  /-- the dict of an exception -/
  | xd (fs : List (Str × V))
  /-- a bound method, f of x -/
  | met (f x : Addr)
  /-- a range object lo, lo + 1, .. below hi -/
  | rng (lo hi : Int)
  /-- a thing that is known to the object (the script; a dict while a loop walks it): read, never written while it is so -/
  | frz (o : Obj) (u : HO)
  /-- a code object's table -/
  | tbl (ps : Array Value)
  /-- any other thing, by what is true of its one object (a def of one's own: SetO a S n := HO.ext fun h => ..) -/
  | ext (φ : Heap → Prop)

abbrev Hp := Addr → Option HO
def upd (H : Hp) (a : Addr) (o : HO) : Hp := fun b => if b = a then some o else H b
theorem upd_same {H : Hp} {a : Addr} {o : HO} : upd H a o a = some o := by unfold upd; rw [if_pos rfl]
theorem upd_ne {H : Hp} {a b : Addr} {o : HO} (h : b ≠ a) : upd H a o b = H b := by unfold upd; rw [if_neg h]
/-- two objects of different content stand apart -/
theorem ne_of {H : Hp} {a b : Addr} {o u : HO} (h : H a = some o) (h' : H b = some u) (d : o ≠ u) : a ≠ b := by
  intro e; subst e; rw [h] at h'; exact d (Option.some.inj h')
theorem ne_of_none {H : Hp} {a b : Addr} {o : HO} (h : H a = some o) (h' : H b = none) : a ≠ b := by
  intro e; subst e; rw [h] at h'; cases h'

section
variable (P : Program) (w : World)
def ObjOk (H : Hp) (h : Heap) (a : Addr) : HO → Prop
  | .lst xs => xs.length ≤ sizeLine ∧ ∃ (its : List Value) (n : Nat), Vals xs its ∧ h.get? a = some { cls := .type "list", data := .seq its.toArray n }
  | .tup xs => xs.length ≤ sizeLine ∧ ∃ its : List Value, Vals xs its ∧ IsTup h a its.toArray
  | .dK kvs => kvs.length ≤ sizeLine ∧ (a == sysModules) = false ∧ ∃ vs, KV kvs vs ∧ h.DictOf (mixKind P w) a vs
  | .dT kvs => kvs.length ≤ sizeLine ∧ (a == sysModules) = false ∧ ∃ xs : List (List Key × Addr × Value),
      Paired (fun (p : List Key × V) (q : List Key × Addr × Value) => p.1 = q.1 ∧ H q.2.1 = some (.tup (p.1.map kV)) ∧ RelV p.2 q.2.2) kvs xs ∧
      ∃ o es ep, h.get? a = some o ∧ o.ExactDict ∧ o.data = .dict es ep ∧ es.toList = xs.map (entryOfKey (tupleKind (mixKind P w))) ∧ (xs.map (·.1)).Nodup
  | .set S n => h.SetOf (intKind P w) a S n
  | .ins C dx fs => H dx = some (.own a) ∧ fs.length ≤ 1000 ∧ dx ≠ a ∧ h.get? a = some (PySem.W.instObj C dx) ∧
      ∃ mA, h.Ns1 dx mA ∧ (∀ f, RelO (fs.lookup f) (mA f)) ∧ PySem.Within mA (fs.map (·.1))
  | .own _ => ∃ o, h.get? a = some o
  | .xd fs => ∃ mA, h.Ns1 a mA ∧ ∀ f, RelO (fs.lookup f) (mA f)
  | .rng lo hi => ∃ t u v, h.get? a = some { cls := .type "range", data := .fields #[.int lo t, .int hi u, .int 1 v] }
  | .frz o u => h.get? a = some o ∧ ObjOk H h a u
  | .tbl ps => h.get? a = some { cls := .none, data := .fields ps }
  | .met f x => h.get? a = some (PySem.W.methodObj (.ref f) (.ref x))
  | .ext φ => φ h ∧ (∃ o, h.get? a = some o) ∧ ∀ h1 h2 : Heap, φ h1 → (∀ o, h1.get? a = some o → h2.get? a = some o) → φ h2
/-- the abstract heap is held -/
def HOk (H : Hp) (h : Heap) : Prop := ∀ a o, H a = some o → ObjOk P w H h a o
end

section
variable {P : Program} {w : World} {H H' : Hp} {h h' : Heap} {a : Addr} {o : HO}
theorem ObjOk.lt (x : ObjOk P w H h a o) : a < h.objs.size := by
  cases o with
  | lst xs => obtain ⟨_, _, _, _, e⟩ := x; exact Heap.lt_size e
  | tup xs => obtain ⟨_, _, _, p⟩ := x; exact p.lt
  | dK kvs => obtain ⟨_, _, _, _, o, _, _, e, _⟩ := x; exact Heap.lt_size e
  | dT kvs => obtain ⟨_, _, _, _, o, _, _, e, _⟩ := x; exact Heap.lt_size e
  | set S n => obtain ⟨o, _, _, _, e, _⟩ := x; exact Heap.lt_size e
  | ins C dx fs => obtain ⟨_, _, _, e, _⟩ := x; exact Heap.lt_size e
  | own y => obtain ⟨_, e⟩ := x; exact Heap.lt_size e
  | xd fs => obtain ⟨_, ⟨_, _, _, e, _⟩, _⟩ := x; exact Heap.lt_size e
  | rng lo hi => obtain ⟨_, _, _, e⟩ := x; exact Heap.lt_size e
  | frz ob u => obtain ⟨e, _⟩ := x; exact Heap.lt_size e
  | tbl ps => exact Heap.lt_size (show h.get? a = some _ from x)
  | met f y => exact Heap.lt_size (show h.get? a = some _ from x)
  | ext φ => obtain ⟨_, ⟨_, e⟩, _⟩ := x; exact Heap.lt_size e
theorem Paired.mapP {α β : Type} {F G : α → β → Prop} : ∀ {l₁ : List α} {l₂ : List β}, Paired F l₁ l₂ → (∀ a b, F a b → G a b) → Paired G l₁ l₂
  | _, _, .nil, _ => .nil
  | _, _, .cons r t, f => .cons (f _ _ r) (Paired.mapP t f)
/-- what an object's description leans on: its own object, its own dict, the tuples -/
theorem ObjOk.stay (x : ObjOk P w H h a o) (k : ∀ b u, (b = a ∨ H b = some (.own a)) → h.get? b = some u → h'.get? b = some u)
    (ho : ∀ b, H b = some (.own a) → H' b = some (.own a)) (ht : ∀ b xs, H b = some (.tup xs) → H' b = some (.tup xs)) : ObjOk P w H' h' a o := by
  induction o with
  | lst xs => obtain ⟨z, its, n, r, e⟩ := x; exact ⟨z, its, n, r, k _ _ (.inl rfl) e⟩
  | tup xs => obtain ⟨z, its, r, ob, e, c⟩ := x; exact ⟨z, its, r, ob, k _ _ (.inl rfl) e, c⟩
  | dK kvs => obtain ⟨z, y, vs, r, ob, es, ep, e, c⟩ := x; exact ⟨z, y, vs, r, ob, es, ep, k _ _ (.inl rfl) e, c⟩
  | dT kvs =>
    obtain ⟨z, y, xs, r, ob, es, ep, e, c⟩ := x
    exact ⟨z, y, xs, Paired.mapP r fun p q z => ⟨z.1, ht _ _ z.2.1, z.2.2⟩, ob, es, ep, k _ _ (.inl rfl) e, c⟩
  | set S n => obtain ⟨ob, es, ep, t, e, c⟩ := x; exact ⟨ob, es, ep, t, k _ _ (.inl rfl) e, c⟩
  | ins C dx fs =>
    obtain ⟨d, z, ne, e, mA, ⟨od, es, ep, e2, c⟩, r⟩ := x
    exact ⟨ho _ d, z, ne, k _ _ (.inl rfl) e, mA, ⟨od, es, ep, k _ _ (.inr d) e2, c⟩, r⟩
  | own y => obtain ⟨ob, e⟩ := x; exact ⟨ob, k _ _ (.inl rfl) e⟩
  | xd fs => obtain ⟨mA, ⟨od, es, ep, e, c⟩, r⟩ := x; exact ⟨mA, ⟨od, es, ep, k _ _ (.inl rfl) e, c⟩, r⟩
  | rng lo hi => obtain ⟨t, u, v, e⟩ := x; exact ⟨t, u, v, k _ _ (.inl rfl) e⟩
  | frz ob u ih => obtain ⟨e, q⟩ := x; exact ⟨k _ _ (.inl rfl) e, ih q⟩
  | tbl ps =>
    have e : h.get? a = some { cls := .none, data := .fields ps } := x
    show h'.get? a = some { cls := .none, data := .fields ps }
    exact k a _ (.inl rfl) e
  | met f y =>
    have e : h.get? a = some (PySem.W.methodObj (.ref f) (.ref y)) := x
    show h'.get? a = some (PySem.W.methodObj (.ref f) (.ref y))
    exact k a _ (.inl rfl) e
  | ext φ => obtain ⟨p, ⟨o, e⟩, st⟩ := x; exact ⟨st _ _ p fun o q => k _ _ (.inl rfl) q, ⟨o, k _ _ (.inl rfl) e⟩, st⟩
theorem HOk.lt (x : HOk P w H h) (e : H a = some o) : a < h.objs.size := (x a o e).lt
theorem HOk.fresh (x : HOk P w H h) (e : h.objs.size ≤ a) : H a = none := by
  cases q : H a with
  | none => rfl
  | some u => exact absurd (Nat.lt_of_lt_of_le (x.lt q) e) (Nat.lt_irrefl _)
/-- every object of the heap is kept -/
theorem HOk.kept (x : HOk P w H h) (k : ∀ b u, h.get? b = some u → h'.get? b = some u) : HOk P w H h' := fun a o e =>
  (x a o e).stay (fun b u _ q => k b u q) (fun _ q => q) fun _ _ q => q
/-- a new object is laid and tracked -/
theorem HOk.laid (x : HOk P w H h) (k : ∀ b u, h.get? b = some u → h'.get? b = some u) (hp : h.objs.size ≤ a) (new : ObjOk P w (upd H a o) h' a o) : HOk P w (upd H a o) h' := fun b u e => by
  have hn := x.fresh hp
  by_cases hb : b = a
  · subst hb; rw [upd_same] at e; cases e; exact new
  · rw [upd_ne hb] at e
    exact (x b u e).stay (fun c v _ q => k c v q) (fun c q => by rw [upd_ne (ne_of_none q hn)]; exact q) fun c xs q => by rw [upd_ne (ne_of_none q hn)]; exact q
end

/-- what may be read as u: it is u, or a known u -/
def Rd (H : Hp) (a : Addr) (u : HO) : Prop := H a = some u ∨ ∃ o, H a = some (.frz o u)
theorem Rd.ok {P : Program} {w : World} {H : Hp} {h : Heap} {a : Addr} {u : HO} (r : Rd H a u) (x : HOk P w H h) : ObjOk P w H h a u := by
  rcases r with r | ⟨o, r⟩
  · exact x a u r
  · obtain ⟨_, q⟩ := x a _ r
    exact q
/-- what may be written -/
def Mut : Option HO → Prop
  | some (.lst _) => True
  | some (.dK _) => True
  | some (.dT _) => True
  | some (.set _ _) => True
  | some (.ins _ _ _) => True
  | some (.ext _) => True
  | _ => False
section
variable {P : Program} {w : World} {H : Hp} {h h' : Heap} {x e : Addr} {o' : HO}
/-- the object at e is changed: x itself, or the dict of the instance x -/
theorem HOk.write (ok : HOk P w H h) (mu : Mut (H x)) (he : e = x ∨ H e = some (.own x)) (k : ∀ b u, b ≠ e → h.get? b = some u → h'.get? b = some u) (heo : ∃ u, h'.get? e = some u)
    (new : ObjOk P w (upd H x o') h' x o') : HOk P w (upd H x o') h' := fun b u q => by
  have nown : ∀ c y, H c = some (.own y) → c ≠ x := fun c y r z => by subst z; rw [r] at mu; exact mu
  have ntup : ∀ c xs, H c = some (.tup xs) → c ≠ x := fun c xs r z => by subst z; rw [r] at mu; exact mu
  by_cases hb : b = x
  · subst hb; rw [upd_same] at q; cases q; exact new
  · rw [upd_ne hb] at q
    by_cases hbe : b = e
    · have q' : H b = some (.own x) := by
        rcases he with z | z
        · exact absurd (hbe.trans z) hb
        · rw [hbe]; exact z
      rw [q] at q'; cases q'
      obtain ⟨v, hv⟩ := heo
      exact ⟨v, by rw [hbe]; exact hv⟩
    · refine (ok b u q).stay (fun c v hc r => k c v ?_ r) (fun c r => by rw [upd_ne (nown c b r)]; exact r) fun c xs r => by rw [upd_ne (ntup c xs r)]; exact r
      rcases hc with rfl | hc
      · exact hbe
      · rintro rfl
        rcases he with z | z
        · exact nown c b hc z
        · rw [hc] at z; cases z; exact hb rfl
end

/-! ### kept unless tracked; of the frames at fs (the callers') the slots may change (an exception that passes writes there); of the records at ex (iterators) nothing is said -/
structure Un (fs ex : List Addr) (H H' : Hp) (h h' : Heap) : Prop where
  keep : ∀ b o, h.get? b = some o → H b = none → b ∉ fs → b ∉ ex → h'.get? b = some o
  slot : ∀ b o, h.get? b = some o → H b = none → b ∈ fs → b ∉ ex → ∃ sl, h'.get? b = some { o with slots := sl }
  free : ∀ b o, h.get? b = some o → H b = none → b ∉ ex → H' b = none
  there : ∀ b o, h.get? b = some o → b ∉ ex → ∃ o', h'.get? b = some o'
  tups : ∀ b xs, H b = some (.tup xs) → H' b = some (.tup xs)
  frzs : ∀ b o u, H b = some (.frz o u) → H' b = some (.frz o u)
  tbls : ∀ b ps, H b = some (.tbl ps) → ∃ more, H' b = some (.tbl (ps ++ more))
section
variable {fs fs' ex ex' : List Addr} {H H1 H2 : Hp} {h h1 h2 h' : Heap} {a x e : Addr} {o : HO}
theorem Un.any (u : Un fs ex H H1 h h1) {b : Addr} {ob : Obj} (q : h.get? b = some ob) (n : H b = none) (hx : b ∉ ex) : ∃ sl, h1.get? b = some { ob with slots := sl } := by
  by_cases hb : b ∈ fs
  · exact u.slot b ob q n hb hx
  · exact ⟨ob.slots, u.keep b ob q n hb hx⟩
theorem Un.kept (k : ∀ b u, h.get? b = some u → h'.get? b = some u) : Un fs ex H H h h' :=
  ⟨fun b ob q _ _ _ => k b ob q, fun b ob q _ _ _ => ⟨ob.slots, k b ob q⟩, fun _ _ _ n _ => n, fun b ob q _ => ⟨ob, k b ob q⟩, fun _ _ q => q, fun _ _ _ q => q, fun _ ps q => ⟨#[], by rw [q]; simp⟩⟩
theorem Un.refl : Un fs ex H H h h := Un.kept fun _ _ q => q
theorem Un.laid (k : ∀ b u, h.get? b = some u → h'.get? b = some u) (hp : h.objs.size ≤ a) (hn : H a = none) : Un fs ex H (upd H a o) h h' where
  keep := fun b u q _ _ _ => k b u q
  slot := fun b u q _ _ _ => ⟨u.slots, k b u q⟩
  free := fun b u q n _ => by rw [upd_ne (Nat.ne_of_lt (Nat.lt_of_lt_of_le (Heap.lt_size q) hp))]; exact n
  there := fun b u q _ => ⟨u, k b u q⟩
  tups := fun b xs q => by rw [upd_ne (ne_of_none q hn)]; exact q
  frzs := fun b u xs q => by rw [upd_ne (ne_of_none q hn)]; exact q
  tbls := fun b ps q => ⟨#[], by rw [upd_ne (ne_of_none q hn), q]; simp⟩
theorem Un.write (mu : Mut (H x)) (he : e = x ∨ H e = some (.own x)) (k : ∀ b u, b ≠ e → h.get? b = some u → h'.get? b = some u) (heo : ∃ u, h'.get? e = some u) : Un fs ex H (upd H x o) h h' := by
  have hx : ∀ b, H b = none → b ≠ x := fun b n z => by subst z; rw [n] at mu; exact mu
  have hb : ∀ b, H b = none → b ≠ e := fun b n z => by
    subst z
    rcases he with r | r
    · exact hx b n r
    · rw [n] at r; cases r
  have hm : ∀ b u, H b = some u → ¬ Mut (some u) → b ≠ x := fun b u q nm z => by subst z; rw [q] at mu; exact nm mu
  refine ⟨fun b u q n _ _ => k b u (hb b n) q, fun b u q n _ _ => ⟨u.slots, k b u (hb b n) q⟩, fun b u q n _ => by rw [upd_ne (hx b n)]; exact n, fun b u q _ => ?_,
    fun b xs q => by rw [upd_ne (hm b _ q fun z => z)]; exact q, fun b u xs q => by rw [upd_ne (hm b _ q fun z => z)]; exact q, fun b ps q => ⟨#[], by rw [upd_ne (hm b _ q fun z => z), q]; simp⟩⟩
  by_cases hbe : b = e
  · subst hbe; exact heo
  · exact ⟨u, k b u hbe q⟩
end

/-! ### the heap without what is tracked -/
def trk (h : Heap) (H : Hp) : List Addr := (List.range h.objs.size).filter fun a => (H a).isSome
def hidT (h : Heap) (H : Hp) : Heap := PySem.W.hideAll h (trk h H)
theorem hidT_size (h : Heap) (H : Hp) : (hidT h H).objs.size = h.objs.size := PySem.W.hideAll_size _ _
theorem hidT_get {h : Heap} {H : Hp} {b : Addr} {o : Obj} (e : h.get? b = some o) (n : H b = none) : (hidT h H).get? b = some o :=
  PySem.W.hideAll_get _ e fun hm => by
    have q : (H b).isSome = true := (List.mem_filter.mp hm).2
    rw [n] at q; simp at q
theorem of_hidT {h : Heap} {H : Hp} {b : Addr} {o : Obj} (e : (hidT h H).get? b = some o) : h.get? b = some o ∧ H b = none := by
  have e' : h.get? b = some o := PySem.W.of_hideAll (trk h H) e
  refine ⟨e', ?_⟩
  cases q : H b with
  | none => rfl
  | some x =>
    have hm : b ∈ trk h H := List.mem_filter.mpr ⟨List.mem_range.mpr (Heap.lt_size e'), by simp [q]⟩
    have z : (hidT h H).get? b = none := PySem.W.hideAll_none (trk h H) hm
    rw [z] at e; cases e

/-! ### OpenK's ledger, filled with every new object but one -/
def allNews (g h : Heap) (L : Addr) : List (Addr × Obj) := (List.range h.objs.size).filterMap fun a => if a = L ∨ (g.get? a).isSome = true then none else (h.get? a).map fun o => (a, o)
def rest (g h : Heap) (L d : Addr) : List (Addr × Obj) := (allNews g h L).filter fun p => decide (p.1 ≠ d)
end L2

namespace L2
open PySem PySem.Spec PyProof.Rows

/-- the module's facts, over the base: the heap at the law's entry without what is tracked there -/
structure Mod (K : PySem.W.Frag) (mg : Str → Option Value) (base : Heap) : Prop where
  kin : K.In base
  glob : base.Ns mainGlobals mg
  blt : ∃ mb, base.Ns builtinsNs mb ∧ ∀ x : Str, x ≠ "__name__" → mb x = bootBuiltins x
  nolimit : base.NoLimit

/-- the context: a def's body (or a comprehension's block) running. base: fixed through the whole law; s₀, H₀: the entry; outer: the frames whose slots others may change (a def's callers); stack: all frames that run;
   ex: iterators that were made ahead of the entry and are walked here (a comprehension's); fn: the names whose cells were made at the entry (a def: all; a comprehension's block: its own); calm: not within an except suite; pn: pins that every state bears; xe: what is wanted of an exception that leaves the code -/
structure Cx where
  prog : Program
  w : World
  K : PySem.W.Frag
  mg : Str → Option Value
  base : Heap
  A : Around
  N : List Str
  s₀ : Shared
  H₀ : Hp
  env : Env
  outer : List Env
  stack : List Env
  ex : List Addr
  fn : Str → Bool
  calm : Bool
  pn : List (Addr × Obj)
  xe : Value → Shared → Prop
/-- the callers' frames -/
def frs (l : List Env) : List Addr := l.filterMap (·.frame)
abbrev Cx.fs (X : Cx) : List Addr := frs X.outer

def Vis (sc : Scope) (x : Str) : Prop := sc.names.lookup x = some .local ∨ sc.names.lookup x = some .cell ∨ sc.names.lookup x = some .free
def Loc (sc : Scope) (x : Str) : Prop := sc.names.lookup x = some .local ∨ sc.names.lookup x = some .cell
def Look (env : Env) (h : Heap) (m : Str → Option Value) (x : Str) (u : Value) : Prop :=
  (env.kindOf x = some .local ∧ m x = some u) ∨ ((env.kindOf x = some .cell ∨ env.kindOf x = some .free) ∧ ∃ c, env.cells.lookup x = some c ∧ h.IsCell c (some u))

structure Cx.Ok (X : Cx) : Prop where
  mod : Mod X.K X.mg X.base
  kind : X.env.scope.kind = .function
  glob : X.env.globals = mainGlobals
  blt : X.env.builtins = builtinsNs
  above : X.s₀.heap.objs.size ≤ X.env.locals
  inj : ∀ x y c, X.env.cells.lookup x = some c → X.env.cells.lookup y = some c → x = y
  has : ∀ x, (X.env.kindOf x = some .cell ∨ X.env.kindOf x = some .free) → ∃ c, X.env.cells.lookup x = some c
  cab : ∀ x c, X.fn x = true → X.env.cells.lookup x = some c → X.s₀.heap.objs.size ≤ c
  hd : X.calm = true → X.A.handled = none
  frames : X.A.frames = some X.stack
  stk : X.stack = X.outer ∨ (X.stack = X.env :: X.outer ∧ X.env.frame = some X.env.locals)
  exf : ∀ b ∈ X.ex, b ≠ X.env.locals ∧ ∀ x c, X.env.cells.lookup x = some c → c ≠ b
  bs : ∀ b o, X.base.get? b = some o → X.s₀.heap.get? b = some o ∧ X.H₀ b = none
  bsz : X.base.objs.size ≤ X.s₀.heap.objs.size
  noex : ∀ b o, X.base.get? b = some o → b ∉ X.ex
  exfs : ∀ b ∈ X.ex, b ∉ X.fs
  funs : X.s₀.heap.FunFrames X.base X.outer
  frf : ∀ b ∈ X.fs, X.H₀ b = none

structure Inv (X : Cx) (pins : List (Addr × Obj)) (σ : List (Option V)) (H : Hp) (s : Shared) : Prop where
  ok : X.Ok
  os : s.os = X.s₀.os
  bare : AllBare s.gens
  base : Un X.fs X.ex X.H₀ H X.s₀.heap s.heap
  loc : ∃ m, s.heap.Ns X.env.locals m ∧ ∀ (i : Nat) (x : Str) (v : V), X.N[i]? = some x → σ[i]? = some (some v) → Vis X.env.scope x → ∃ u, RelV v u ∧ Look X.env s.heap m x u
  cell : ∀ x c, X.env.cells.lookup x = some c → ∃ v, s.heap.IsCell c v
  free : H X.env.locals = none
  freeC : ∀ x c, X.env.cells.lookup x = some c → H c = none
  pin : ∀ p ∈ X.pn ++ pins, s.heap.get? p.1 = some p.2 ∧ H p.1 = none ∧ p.1 ≠ X.env.locals ∧ p.1 ∉ X.fs ∧ ∀ v, p.2.data ≠ .cell v
  hok : HOk X.prog X.w H s.heap
  len : σ.length = X.N.length

section
variable {X : Cx} {pins : List (Addr × Obj)} {σ : List (Option V)} {H H' : Hp} {s : Shared} {h' : Heap}

theorem Cx.Ok.nofr (ok : X.Ok) {b : Addr} {o : Obj} (e : X.base.get? b = some o) : b ∉ X.fs := fun hb => by
  have := (ok.funs.mem hb).1
  rw [e] at this; cases this
theorem Inv.bs (I : Inv X pins σ H s) : ∀ b o, X.base.get? b = some o → s.heap.get? b = some o ∧ H b = none := fun b o e =>
  ⟨I.base.keep b o (I.ok.bs b o e).1 (I.ok.bs b o e).2 (I.ok.nofr e) (I.ok.noex b o e), I.base.free b o (I.ok.bs b o e).1 (I.ok.bs b o e).2 (I.ok.noex b o e)⟩
theorem Inv.bk (I : Inv X pins σ H s) : ∀ b o, X.base.get? b = some o → s.heap.get? b = some o := fun b o e => (I.bs b o e).1
theorem Inv.mod (I : Inv X pins σ H s) : Mod X.K X.mg X.base := I.ok.mod
theorem Inv.kIn (I : Inv X pins σ H s) : X.K.In s.heap := I.ok.mod.kin.keeps I.bk
theorem Inv.lt (I : Inv X pins σ H s) : X.env.locals < s.heap.objs.size := let ⟨_, hn, _⟩ := I.loc; hn.lt
theorem Inv.sz (I : Inv X pins σ H s) : X.s₀.heap.objs.size ≤ s.heap.objs.size := Nat.le_trans I.ok.above (Nat.le_of_lt I.lt)
theorem Inv.nofs (I : Inv X pins σ H s) {a : Addr} (h : s.heap.objs.size ≤ a) : a ∉ X.fs := fun hb => by
  obtain ⟨_, o, ho, _⟩ := I.ok.funs.mem hb
  exact absurd (Nat.lt_of_lt_of_le (Heap.lt_size ho) (Nat.le_trans I.sz h)) (Nat.lt_irrefl _)
theorem Inv.cne (I : Inv X pins σ H s) : ∀ x c, X.env.cells.lookup x = some c → c ≠ X.env.locals := fun x c e z => by
  obtain ⟨v, o, ho, hd⟩ := I.cell x c e
  obtain ⟨m, ⟨o', es, ep, ho', hd', _⟩, _⟩ := I.loc
  rw [z, ho'] at ho; cases ho; rw [hd'] at hd; cases hd
theorem Inv.funs (I : Inv X pins σ H s) : s.heap.FunFrames X.base X.outer := by
  have all : ∀ (l : List Env), (∀ b ∈ frs l, b ∈ X.fs) → X.s₀.heap.FunFrames X.base l → s.heap.FunFrames X.base l := by
    intro l
    induction l with
    | nil => intro _ _; trivial
    | cons env r ih =>
      intro hs hl
      obtain ⟨hk, ⟨L, o, hf, hn, ho, hd⟩, hr⟩ := hl
      have hL : L ∈ X.fs := hs L (by unfold frs; rw [List.filterMap_cons, hf]; exact List.mem_cons_self)
      obtain ⟨sl, e⟩ := I.base.slot L o ho (I.ok.frf L hL) hL fun z => I.ok.exfs L z hL
      exact ⟨hk, ⟨L, _, hf, hn, e, hd⟩, ih (fun b hb => hs b (by unfold frs; rw [List.filterMap_cons, hf]; exact List.mem_cons_of_mem _ hb)) hr⟩
  exact all X.outer (fun _ hb => hb) I.ok.funs

/-- the frames that run, for a call -/
theorem Inv.stack (I : Inv X pins σ H s) : s.heap.FunFrames X.base X.stack := by
  rcases I.ok.stk with e | ⟨e, hf⟩
  · rw [e]; exact I.funs
  · rw [e]
    obtain ⟨m, hn, _⟩ := I.loc
    refine .cons (by rw [I.ok.kind]; decide) hf hn ?_ I.funs
    exact Heap.get?_none_of_le (Nat.le_trans I.ok.bsz I.ok.above)
theorem Inv.stkSub (I : Inv X pins σ H s) : ∀ b ∈ frs X.stack, b ∈ X.env.locals :: X.fs := fun b hb => by
  rcases I.ok.stk with e | ⟨e, hf⟩
  · rw [e] at hb; exact List.mem_cons_of_mem _ hb
  · rw [e] at hb
    unfold frs at hb
    rw [List.filterMap_cons, hf] at hb
    exact hb
theorem Inv.stkFree (I : Inv X pins σ H s) : ∀ b ∈ frs X.stack, H b = none := fun b hb => by
  rcases List.mem_cons.mp (I.stkSub b hb) with e | hb
  · rw [e]; exact I.free
  · obtain ⟨_, o, ho, _⟩ := I.ok.funs.mem hb
    exact I.base.free b o ho (I.ok.frf b hb) fun z => I.ok.exfs b z hb

/-- THE STEP: the untracked objects but the frame and the records at ch are kept (the callers' frames up to slots), the frame's map is kept, the new abstract heap is held -/
theorem Inv.step {g' : Array GenState} {t' : Nat} {d' : Drawn} {ch : List Addr} (I : Inv X pins σ H s)
    (hch : ∀ b ∈ ch, (b ∈ X.ex ∨ X.s₀.heap.objs.size ≤ b) ∧ b ≠ X.env.locals ∧ (∀ x c, X.env.cells.lookup x = some c → c ≠ b) ∧ ∀ p ∈ X.pn ++ pins, p.1 ≠ b)
    (keep : ∀ b o, b ≠ X.env.locals → b ∉ X.fs → b ∉ ch → s.heap.get? b = some o → H b = none → h'.get? b = some o)
    (slot : ∀ b o, b ≠ X.env.locals → b ∈ X.fs → b ∉ ch → s.heap.get? b = some o → H b = none → ∃ sl, h'.get? b = some { o with slots := sl }) (free : ∀ b o, b ∉ ch → s.heap.get? b = some o → H b = none → H' b = none)
    (there : ∀ b o, b ∉ ch → s.heap.get? b = some o → ∃ o', h'.get? b = some o')
    (tups : ∀ b xs, H b = some (.tup xs) → H' b = some (.tup xs)) (frzs : ∀ b o u, H b = some (.frz o u) → H' b = some (.frz o u)) (tbls : ∀ b ps, H b = some (.tbl ps) → ∃ more, H' b = some (.tbl (ps ++ more)))
    (ns : ∀ m, s.heap.Ns X.env.locals m → h'.Ns X.env.locals m) (hok : HOk X.prog X.w H' h') (hg : AllBare g') :
    Inv X pins σ H' { s with heap := h', gens := g', drawn := d', toks := t' } := by
  have neL : ∀ b o, X.s₀.heap.get? b = some o → b ≠ X.env.locals := fun b o e => Nat.ne_of_lt (Nat.lt_of_lt_of_le (Heap.lt_size e) I.ok.above)
  have neC : ∀ b o, X.s₀.heap.get? b = some o → b ∉ X.ex → b ∉ ch := fun b o e hx hb => by
    rcases (hch b hb).1 with z | z
    · exact hx z
    · exact absurd (Nat.lt_of_lt_of_le (Heap.lt_size e) z) (Nat.lt_irrefl _)
  have cellK : ∀ x c, X.env.cells.lookup x = some c → ∀ v, s.heap.IsCell c v → h'.IsCell c v := fun x c e v ⟨o, ho, hd⟩ => by
    have nch : c ∉ ch := fun z => (hch c z).2.2.1 x c e rfl
    by_cases hc : c ∈ X.fs
    · obtain ⟨sl, q⟩ := slot c o (I.cne x c e) hc nch ho (I.freeC x c e)
      exact ⟨_, q, hd⟩
    · exact ⟨o, keep c o (I.cne x c e) hc nch ho (I.freeC x c e), hd⟩
  refine ⟨I.ok, I.os, hg, ⟨fun b o e n hb hx => ?_, fun b o e n hb hx => ?_, fun b o e n hx => ?_, fun b o e hx => ?_, fun b xs e => tups b xs (I.base.tups b xs e), fun b o xs e => frzs b o xs (I.base.frzs b o xs e), fun b ps e => ?_⟩, ?_, fun x c e => ?_, ?_, fun x c e => ?_, fun p hp => ?_, hok, I.len⟩
  · exact keep b o (neL b o e) hb (neC b o e hx) (I.base.keep b o e n hb hx) (I.base.free b o e n hx)
  · obtain ⟨sl, e1⟩ := I.base.slot b o e n hb hx
    obtain ⟨sl', e2⟩ := slot b _ (neL b o e) hb (neC b o e hx) e1 (I.base.free b o e n hx)
    exact ⟨sl', e2⟩
  · obtain ⟨o', e1⟩ := I.base.there b o e hx
    exact free b o' (neC b o e hx) e1 (I.base.free b o e n hx)
  · obtain ⟨o', e1⟩ := I.base.there b o e hx
    exact there b o' (neC b o e hx) e1
  · obtain ⟨m1, e1⟩ := I.base.tbls b ps e
    obtain ⟨m2, e2⟩ := tbls b _ e1
    exact ⟨m1 ++ m2, by rw [e2, Array.append_assoc]⟩
  · obtain ⟨m, hn, hl⟩ := I.loc
    refine ⟨m, ns m hn, fun i x v e1 e2 e3 => ?_⟩
    obtain ⟨u, r, l⟩ := hl i x v e1 e2 e3
    refine ⟨u, r, ?_⟩
    rcases l with l | ⟨k, c, e, z⟩
    · exact .inl l
    · exact .inr ⟨k, c, e, cellK x c e _ z⟩
  · obtain ⟨v, z⟩ := I.cell x c e
    exact ⟨v, cellK x c e v z⟩
  · obtain ⟨m, ⟨o, _, _, ho, _⟩, _⟩ := I.loc
    exact free _ o (fun z => (hch _ z).2.1 rfl) ho I.free
  · obtain ⟨v, o, ho, hd⟩ := I.cell x c e
    exact free c o (fun z => (hch c z).2.2.1 x c e rfl) ho (I.freeC x c e)
  · obtain ⟨e, n, ne, nf, d⟩ := I.pin p hp
    have nch : p.1 ∉ ch := fun z => (hch p.1 z).2.2.2 p hp rfl
    exact ⟨keep p.1 p.2 ne nf nch e n, free p.1 p.2 nch e n, ne, nf, d⟩
/-- .. where the frame's own object is kept too -/
theorem Inv.un {t' : Nat} (I : Inv X pins σ H s) (u : Un X.fs [] H H' s.heap h') (hok : HOk X.prog X.w H' h') : Inv X pins σ H' { s with heap := h', toks := t' } := by
  obtain ⟨m, ⟨o, es, ep, ho, r⟩, _⟩ := id I.loc
  obtain ⟨sl, hL⟩ := u.any ho I.free (by simp)
  exact I.step (g' := s.gens) (d' := s.drawn) (ch := []) (fun _ z => nomatch z) (fun b o _ hb _ e n => u.keep b o e n hb (by simp)) (fun b o _ hb _ e n => u.slot b o e n hb (by simp)) (fun b o _ e n => u.free b o e n (by simp)) (fun b o _ e => u.there b o e (by simp)) u.tups u.frzs u.tbls (fun m' hm => by
    obtain ⟨o', es', ep', ho', r'⟩ := hm
    rw [ho] at ho'; cases ho'
    exact ⟨_, es', ep', hL, r'⟩) hok I.bare
/-- behind a call (or a comprehension's block): the slots of this frame may have changed too, the records at ch may have turned -/
theorem Inv.call {g' : Array GenState} {t' : Nat} {d' : Drawn} {ch : List Addr} (I : Inv X pins σ H s) (u : Un (frs X.stack) ch H H' s.heap h') (hok : HOk X.prog X.w H' h') (hg : AllBare g')
    (hch : ∀ b ∈ ch, (b ∈ X.ex ∨ X.s₀.heap.objs.size ≤ b) ∧ b ≠ X.env.locals ∧ (∀ x c, X.env.cells.lookup x = some c → c ≠ b) ∧ ∀ p ∈ X.pn ++ pins, p.1 ≠ b) :
    Inv X pins σ H' { s with heap := h', gens := g', drawn := d', toks := t' } := by
  obtain ⟨m, ⟨o, es, ep, ho, r⟩, _⟩ := id I.loc
  obtain ⟨sl, hL⟩ := u.any ho I.free fun z => (hch _ z).2.1 rfl
  exact I.step (ch := ch) hch (fun b o hL hb hc e n => u.keep b o e n (fun z => (List.mem_cons.mp (I.stkSub b z)).elim hL hb) hc) (fun b o _ _ hc e n => u.any e n hc) (fun b o hc e n => u.free b o e n hc) (fun b o hc e => u.there b o e hc) u.tups u.frzs u.tbls (fun m' hm => by
    obtain ⟨o', es', ep', ho', r'⟩ := hm
    rw [ho] at ho'; cases ho'
    exact ⟨_, es', ep', hL, r'⟩) hok hg
/-- an untracked record of ours (an iterator) has turned -/
theorem Inv.turned {t' : Nat} {it : Addr} (I : Inv X pins σ H s) (k : ∀ b o, b ≠ it → s.heap.get? b = some o → h'.get? b = some o) (hn : H it = none) (hL : it ≠ X.env.locals)
    (h1 : it ∈ X.ex ∨ X.s₀.heap.objs.size ≤ it) (h2 : ∀ x c, X.env.cells.lookup x = some c → c ≠ it) (h3 : ∀ p ∈ X.pn ++ pins, p.1 ≠ it) : Inv X pins σ H { s with heap := h', toks := t' } := by
  have nit : ∀ b u, H b = some u → b ≠ it := fun b u e z => by rw [z, hn] at e; cases e
  refine I.step (g' := s.gens) (d' := s.drawn) (ch := [it]) (fun b hb => ?_) (fun b o _ _ hc e _ => k b o (fun z => hc (by simp [z])) e) (fun b o _ _ hc e _ => ⟨o.slots, k b o (fun z => hc (by simp [z])) e⟩) (fun _ _ _ _ n => n)
    (fun b o hc e => ⟨o, k b o (fun z => hc (by simp [z])) e⟩) (fun _ _ e => e) (fun _ _ _ e => e) (fun b ps e => ⟨#[], by rw [e]; simp⟩) (fun m hm => ?_) (fun b u e => ?_) I.bare
  · have e : b = it := by simpa using hb
    subst e
    exact ⟨h1, hL, h2, h3⟩
  · obtain ⟨o, es, ep, ho, r⟩ := hm
    exact ⟨o, es, ep, k _ o (Ne.symm hL) ho, r⟩
  · refine (I.hok b u e).stay (fun c v hc q => k c v ?_ q) (fun _ q => q) fun _ _ q => q
    rcases hc with z | z
    · rw [z]; exact nit b u e
    · exact nit c _ z
theorem Inv.tok (I : Inv X pins σ H s) (t : Nat) : Inv X pins σ H { s with toks := t } := I.un (h' := s.heap) (t' := t) Un.refl I.hok
/-- all objects kept -/
theorem Inv.kept {t' : Nat} (I : Inv X pins σ H s) (k : ∀ b u, s.heap.get? b = some u → h'.get? b = some u) : Inv X pins σ H { s with heap := h', toks := t' } := I.un (Un.kept k) (I.hok.kept k)
/-- a new object laid and tracked -/
theorem Inv.laid {a : Addr} {o : HO} {t' : Nat} (I : Inv X pins σ H s) (k : ∀ b u, s.heap.get? b = some u → h'.get? b = some u) (hp : s.heap.objs.size ≤ a) (new : ObjOk X.prog X.w (upd H a o) h' a o) :
    Inv X pins σ (upd H a o) { s with heap := h', toks := t' } := I.un (Un.laid k hp (I.hok.fresh hp)) (I.hok.laid k hp new)
/-- an object written -/
theorem Inv.write {x e : Addr} {o : HO} {t' : Nat} (I : Inv X pins σ H s) (mu : Mut (H x)) (he : e = x ∨ H e = some (.own x)) (k : ∀ b u, b ≠ e → s.heap.get? b = some u → h'.get? b = some u) (heo : ∃ u, h'.get? e = some u)
    (new : ObjOk X.prog X.w (upd H x o) h' x o) : Inv X pins σ (upd H x o) { s with heap := h', toks := t' } := I.un (Un.write mu he k heo) (I.hok.write mu he k heo new)
/-- forgetting slots, pins -/
theorem Inv.weak {σ' : List (Option V)} (I : Inv X pins σ H s) (hl : σ'.length = σ.length) (w : ∀ (i : Nat) v, σ'[i]? = some (some v) → σ[i]? = some (some v)) : Inv X pins σ' H s :=
  ⟨I.ok, I.os, I.bare, I.base, let ⟨m, hn, hl'⟩ := I.loc; ⟨m, hn, fun i x v e1 e2 e3 => hl' i x v e1 (w i v e2) e3⟩, I.cell, I.free, I.freeC, I.pin, I.hok, hl.trans I.len⟩
theorem Inv.pins_of {pins' : List (Addr × Obj)} (I : Inv X pins σ H s) (h : ∀ p ∈ pins', s.heap.get? p.1 = some p.2 ∧ H p.1 = none ∧ p.1 ≠ X.env.locals ∧ p.1 ∉ X.fs ∧ ∀ v, p.2.data ≠ .cell v) : Inv X pins' σ H s :=
  ⟨I.ok, I.os, I.bare, I.base, I.loc, I.cell, I.free, I.freeC, fun p hp => (List.mem_append.mp hp).elim (fun z => I.pin p (List.mem_append_left _ z)) (h p), I.hok, I.len⟩

theorem nodup_ix {N : List Str} (hN : N.Nodup) {i j : Nat} {x : Str} (a : N[i]? = some x) (b : N[j]? = some x) : i = j := by
  obtain ⟨h1, e1⟩ := List.getElem?_eq_some_iff.mp a
  obtain ⟨h2, e2⟩ := List.getElem?_eq_some_iff.mp b
  exact (List.getElem_inj hN).mp (e1.trans e2.symm)

/-- a name is stored; what changed -/
theorem store_ok2 {M : Model} {A : Around} {E : Value → Shared → Prop} {i : Nat} {x : Str} {v : V} {u : Value} {Q : Unit → Shared → Prop} (I : Inv X pins σ H s) (hN : X.N.Nodup) (hi : X.N[i]? = some x) (hx : Loc X.env.scope x) (r : RelV v u)
    (h : ∀ s', Inv X pins (σ.set i (some v)) H s' → (∃ a, Heap.SameBut a s.heap s'.heap ∧ (a = X.env.locals ∨ X.env.cells.lookup x = some a)) → Q () s') (hf : X.fn x = true ∨ X.env.scope.names.lookup x = some .local := by first | exact .inl rfl | exact .inr rfl | assumption) : wpAny M A (storeName X.env x u) Q E s := by
  obtain ⟨m, hn, hl⟩ := id I.loc
  have hcls : (X.env.scope.kind == .class || (X.env.scope.kind == .module && X.env.locals != X.env.globals)) = false := by rw [I.ok.kind]; rfl
  have hiσ : i < σ.length := by rw [I.len]; exact (List.getElem?_eq_some_iff.mp hi).1
  have cne := I.cne
  have tracked : ∀ {a : Addr} {h' : Heap}, (∃ o, s.heap.get? a = some o ∧ H a = none) → Heap.SameBut a s.heap h' → HOk X.prog X.w H h' := fun {a h'} ha hs b ob e => by
    obtain ⟨_, _, hfree⟩ := ha
    refine (I.hok b ob e).stay (fun c w' hc q => (hs.2 c ?_).trans q) (fun _ q => q) fun _ _ q => q
    rintro rfl
    rcases hc with rfl | hc
    · rw [hfree] at e; cases e
    · rw [hfree] at hc; cases hc
  rcases hx with hk | hk
  · refine wpAny_storeName_local hk hn (fun h' hn' hs => ?_) hcls
    obtain ⟨oL, _, _, hoL, _⟩ := id hn
    refine h _ ⟨I.ok, I.os, I.bare, ⟨fun b o e n hb hx => ?_, fun b o e n hb hx => ?_, I.base.free, fun b o e hx => ?_, I.base.tups, I.base.frzs, I.base.tbls⟩, ⟨_, hn', fun j y v' e1 e2 e3 => ?_⟩, fun y c e => ?_, I.free, I.freeC, fun p hp => ?_, tracked ⟨oL, hoL, I.free⟩ hs, by simpa using I.len⟩ ⟨_, hs, .inl rfl⟩
    · exact (hs.2 b (Nat.ne_of_lt (Nat.lt_of_lt_of_le (Heap.lt_size e) I.ok.above))).trans (I.base.keep b o e n hb hx)
    · obtain ⟨sl, e1⟩ := I.base.slot b o e n hb hx
      exact ⟨sl, (hs.2 b (Nat.ne_of_lt (Nat.lt_of_lt_of_le (Heap.lt_size e) I.ok.above))).trans e1⟩
    · obtain ⟨o', e1⟩ := I.base.there b o e hx
      exact ⟨o', (hs.2 b (Nat.ne_of_lt (Nat.lt_of_lt_of_le (Heap.lt_size e) I.ok.above))).trans e1⟩
    · by_cases hj : j = i
      · subst hj
        rw [hi] at e1; cases e1
        rw [List.getElem?_set_self hiσ] at e2
        cases e2
        exact ⟨u, r, .inl ⟨hk, by simp⟩⟩
      · rw [List.getElem?_set_ne (Ne.symm hj)] at e2
        obtain ⟨u', r', q⟩ := hl j y v' e1 e2 e3
        refine ⟨u', r', ?_⟩
        rcases q with ⟨k, e⟩ | ⟨k, c, e, z⟩
        · refine .inl ⟨k, ?_⟩
          have : y ≠ x := fun e => hj (nodup_ix hN e1 (e ▸ hi))
          simp [this, e]
        · exact .inr ⟨k, c, e, z.sameBut hs (cne y c e)⟩
    · obtain ⟨w', z⟩ := I.cell y c e
      exact ⟨w', z.sameBut hs (cne y c e)⟩
    · obtain ⟨e, n, ne, nf, d⟩ := I.pin p hp
      exact ⟨(hs.2 p.1 ne).trans e, n, ne, nf, d⟩
  · have hfn : X.fn x = true := by
      rcases hf with z | z
      · exact z
      · rw [z] at hk; cases hk
    obtain ⟨c, hc⟩ := I.ok.has x (.inl hk)
    obtain ⟨w', z⟩ := I.cell x c hc
    refine wpAny_storeName_cell I.ok.kind hk hc z (fun h' hc' hs => ?_)
    obtain ⟨oc, hoc, hocd⟩ := id z
    refine h { s with heap := h' } ⟨I.ok, I.os, I.bare, ⟨fun b o e n hb hx => ?_, fun b o e n hb hx => ?_, I.base.free, fun b o e hx => ?_, I.base.tups, I.base.frzs, I.base.tbls⟩, ⟨m, hn.sameBut hs (Ne.symm (cne x c hc)), fun j y v' e1 e2 e3 => ?_⟩, fun y c' e => ?_, I.free, I.freeC, fun p hp => ?_, tracked ⟨oc, hoc, I.freeC x c hc⟩ hs, by simpa using I.len⟩ ⟨c, hs, .inr hc⟩
    · exact (hs.2 b (Nat.ne_of_lt (Nat.lt_of_lt_of_le (Heap.lt_size e) (I.ok.cab x c hfn hc)))).trans (I.base.keep b o e n hb hx)
    · obtain ⟨sl, e1⟩ := I.base.slot b o e n hb hx
      exact ⟨sl, (hs.2 b (Nat.ne_of_lt (Nat.lt_of_lt_of_le (Heap.lt_size e) (I.ok.cab x c hfn hc)))).trans e1⟩
    · obtain ⟨o', e1⟩ := I.base.there b o e hx
      exact ⟨o', (hs.2 b (Nat.ne_of_lt (Nat.lt_of_lt_of_le (Heap.lt_size e) (I.ok.cab x c hfn hc)))).trans e1⟩
    · by_cases hj : j = i
      · subst hj
        rw [hi] at e1; cases e1
        rw [List.getElem?_set_self hiσ] at e2
        cases e2
        exact ⟨u, r, .inr ⟨.inl hk, c, hc, hc'⟩⟩
      · rw [List.getElem?_set_ne (Ne.symm hj)] at e2
        obtain ⟨u', r', q⟩ := hl j y v' e1 e2 e3
        refine ⟨u', r', ?_⟩
        rcases q with q | ⟨k, c', e, z'⟩
        · exact .inl q
        · refine .inr ⟨k, c', e, z'.sameBut hs ?_⟩
          rintro rfl
          exact hj (nodup_ix hN e1 (I.ok.inj _ _ _ e hc ▸ hi))
    · by_cases hcc : c' = c
      · subst hcc; exact ⟨_, hc'⟩
      · obtain ⟨w2, z2⟩ := I.cell y c' e
        exact ⟨w2, z2.sameBut hs hcc⟩
    · obtain ⟨e, n, ne, nf, d⟩ := I.pin p hp
      refine ⟨(hs.2 p.1 ?_).trans e, n, ne, nf, d⟩
      intro q
      rw [q, hoc] at e
      have q' : oc = p.2 := Option.some.inj e
      exact d w' (by rw [← q']; exact hocd)
theorem store_ok {M : Model} {A : Around} {E : Value → Shared → Prop} {i : Nat} {x : Str} {v : V} {u : Value} {Q : Unit → Shared → Prop} (I : Inv X pins σ H s) (hN : X.N.Nodup) (hi : X.N[i]? = some x) (hx : Loc X.env.scope x) (r : RelV v u)
    (h : ∀ s', Inv X pins (σ.set i (some v)) H s' → Q () s') (hf : X.fn x = true ∨ X.env.scope.names.lookup x = some .local := by first | exact .inl rfl | exact .inr rfl | assumption) : wpAny M A (storeName X.env x u) Q E s :=
  store_ok2 I hN hi hx r (fun s' I' _ => h s' I') hf
/-- behind a call or a block, the state as it is -/
theorem Inv.call' {s' : Shared} {ch : List Addr} (I : Inv X pins σ H s) (ho : s'.os = s.os) (u : Un (frs X.stack) ch H H' s.heap s'.heap) (hok : HOk X.prog X.w H' s'.heap) (hg : AllBare s'.gens)
    (hch : ∀ b ∈ ch, (b ∈ X.ex ∨ X.s₀.heap.objs.size ≤ b) ∧ b ≠ X.env.locals ∧ (∀ x c, X.env.cells.lookup x = some c → c ≠ b) ∧ ∀ p ∈ X.pn ++ pins, p.1 ≠ b) : Inv X pins σ H' s' := by
  obtain ⟨h', g', d', t', o'⟩ := s'
  have e : o' = s.os := ho
  subst e
  exact I.call (g' := g') (t' := t') (d' := d') u hok hg hch
end

/-! ### the judgements -/
/-- an exception: its class, its own dict's address (where it has one), the abstract heap behind it -/
abbrev XK := Value → Option Addr → Hp → Prop
abbrev St := List (Option V)
abbrev VK := V → Hp → Prop
/-- an expression's reading; a test's; an argument list's -/
abbrev TE := St → Hp → VK → Prop
abbrev TT := St → Hp → (Bool → Hp → Prop) → Prop
abbrev TA := St → Hp → (List V → Hp → Prop) → Prop
/-- what is wanted behind a statement -/
structure Ends where
  nx : St → Hp → Prop
  rt : VK
  bk : St → Hp → Prop := fun _ _ => False
  ct : St → Hp → Prop := fun _ _ => False
abbrev TS := Ends → St → Hp → Prop

def EP (X : Cx) (pins : List (Addr × Obj)) (σ : St) (Q : VK) (u : Value) (s' : Shared) : Prop := ∃ v H', Inv X pins σ H' s' ∧ RelV v u ∧ Q v H'
def TP (X : Cx) (pins : List (Addr × Obj)) (σ : St) (Q : Bool → Hp → Prop) (b : Bool) (s' : Shared) : Prop := ∃ H', Inv X pins σ H' s' ∧ Q b H'
def AP (X : Cx) (pins : List (Addr × Obj)) (σ : St) (Q : List V → Hp → Prop) (us : List Value) (s' : Shared) : Prop := ∃ vs H', Inv X pins σ H' s' ∧ Vals vs us ∧ Q vs H'
def SP (X : Cx) (pins : List (Addr × Obj)) (D : Ends) (f : Flow) (s' : Shared) : Prop :=
  match f with
  | .next => ∃ σ' H', Inv X pins σ' H' s' ∧ D.nx σ' H'
  | .brk => ∃ σ' H', Inv X pins σ' H' s' ∧ D.bk σ' H'
  | .cont => ∃ σ' H', Inv X pins σ' H' s' ∧ D.ct σ' H'
  | .ret u => ∃ v σ' H', Inv X pins σ' H' s' ∧ RelV v u ∧ D.rt v H'

def PE (X : Cx) (e : Expr) (t : TE) : Prop :=
  ∀ (pins : List (Addr × Obj)) (s : Shared) (σ : St) (H : Hp) (Q : VK), Inv X pins σ H s → t σ H Q → wpAny (model X.prog X.w) X.A (eval e X.env) (EP X pins σ Q) X.xe s
def PT (X : Cx) (e : Expr) (t : TT) : Prop :=
  ∀ (pins : List (Addr × Obj)) (s : Shared) (σ : St) (H : Hp) (Q : Bool → Hp → Prop), Inv X pins σ H s → t σ H Q → wpAny (model X.prog X.w) X.A (isTrue e X.env (eval e X.env)) (TP X pins σ Q) X.xe s
/-- a test whatever its 'whole' is (and, or) -/
def PW (X : Cx) (e : Expr) (t : TT) : Prop :=
  ∀ (whole : Sem Value) (pins : List (Addr × Obj)) (s : Shared) (σ : St) (H : Hp) (Q : Bool → Hp → Prop), Inv X pins σ H s → t σ H Q → wpAny (model X.prog X.w) X.A (isTrue e X.env whole) (TP X pins σ Q) X.xe s
theorem PW.pt {X : Cx} {e : Expr} {t : TT} (h : PW X e t) : PT X e t := h _
/-- an argument list (no star), from the left -/
def PA (X : Cx) (es : List Expr) (t : TA) : Prop :=
  ∀ (pos : Pos) (pins : List (Addr × Obj)) (s : Shared) (σ : St) (H : Hp) (Q : List V → Hp → Prop), Inv X pins σ H s → t σ H Q → wpAny (model X.prog X.w) X.A (spliced (backTo pos (starEach es X.env))) (AP X pins σ Q) X.xe s
def PS (X : Cx) (st : Stmt) (t : TS) : Prop :=
  ∀ (pins : List (Addr × Obj)) (s : Shared) (σ : St) (H : Hp) (D : Ends), Inv X pins σ H s → t D σ H → wpAny (model X.prog X.w) X.A (exec st X.env) (SP X pins D) X.xe s
def PSs (X : Cx) (st : List Stmt) (t : TS) : Prop :=
  ∀ (pins : List (Addr × Obj)) (s : Shared) (σ : St) (H : Hp) (D : Ends), Inv X pins σ H s → t D σ H → wpAny (model X.prog X.w) X.A (execs st X.env) (SP X pins D) X.xe s
/-- weaken the end -/
theorem thn {α : Type} {t : Sem α} {Q Q' : α → Shared → Prop} {M : Model} {A : Around} {E : Value → Shared → Prop} {s : Shared} (h : wpAny M A t Q E s) (hQ : ∀ a s, Q a s → Q' a s) : wpAny M A t Q' E s := wpAny_mono h hQ fun _ _ x => x
end L2

namespace L2
open PySem PySem.Spec PyProof.Rows
section
variable {X : Cx}

/-! ### names and constants -/
def tVar (i : Nat) : TE := fun σ H Q => ∃ v, σ[i]? = some (some v) ∧ Q v H
def tC (v : V) : TE := fun _ H Q => Q v H
theorem pe_var {i : Nat} {x : Str} {pos : Pos} (hN : X.N[i]? = some x) (hv : Vis X.env.scope x) (hd : (x == ("__debug__" : Str)) = false := by decide) (hcd : (x == ("__classdict__" : Str)) = false := by decide) : PE X (.Name x pos) (tVar i) := by
  intro pins s σ H Q I h
  obtain ⟨v, e, h⟩ := h
  obtain ⟨m, hn, hl⟩ := I.loc
  obtain ⟨u, r, l⟩ := hl i x v hN e hv
  have fin : EP X pins σ Q u s := ⟨v, H, I, r, h⟩
  rcases l with ⟨hk, hm⟩ | ⟨hk, c, hc, hcell⟩
  · exact wpAny_Name (wpAny_loadName_local I.ok.kind hk hn hm fin) hd
  · rcases hk with hk | hk
    · exact wpAny_Name (wpAny_loadName_cell I.ok.kind hk hc hcell fin) hd
    · exact wpAny_Name (wpAny_loadName_free I.ok.kind hk hc hcell fin hcd) hd
theorem pe_int {i j pos} : PE X (.Constant (.int i) j pos) (tC (.int i)) := fun _ _ _ H _ I h => wpAny_Constant_int ⟨.int i, H, I.tok _, ⟨_, rfl⟩, h⟩
theorem pe_bl {b j pos} : PE X (.Constant (.bool b) j pos) (tC (.bl b)) := fun _ _ _ H _ I h => Constant_bool ⟨.bl b, H, I, rfl, h⟩
theorem pe_non {j pos} : PE X (.Constant .none j pos) (tC .non) := fun _ _ _ H _ I h => Constant_none ⟨.non, H, I, rfl, h⟩
theorem pe_str {x j pos} : PE X (.Constant (.str x) j pos) (tC (.str x)) := fun _ _ _ H _ I h => Calls.Constant_str ⟨.str x, H, I.tok _, ⟨_, rfl⟩, h⟩

/-- a global name of the def -/
def Gl (X : Cx) (x : Str) : Prop := X.env.kindOf x = some .globalImplicit
theorem ld_glob {E : Value → Shared → Prop} {pins : List (Addr × Obj)} {s : Shared} {σ : St} {H : Hp} {x : Str} {u : Value} {pos : Pos} {Q : Value → Shared → Prop} (I : Inv X pins σ H s) (hg : Gl X x) (hm : X.mg x = some u) (h : Q u s)
    (hd : (x == ("__debug__" : Str)) = false := by decide) : wpAny (model X.prog X.w) X.A (eval (.Name x pos) X.env) Q E s :=
  Calls.Name_function_global I.ok.kind hg (Calls.loadGlobal_global (by rw [I.ok.glob]; exact I.mod.glob.keeps I.bk) hm h) hd
theorem ld_blt {E : Value → Shared → Prop} {pins : List (Addr × Obj)} {s : Shared} {σ : St} {H : Hp} {x : Str} {u : Value} {pos : Pos} {Q : Value → Shared → Prop} (I : Inv X pins σ H s) (hg : Gl X x) (hm : X.mg x = none) (hv : bootBuiltins x = some u) (h : Q u s)
    (hn : x ≠ "__name__" := by decide) (hd : (x == ("__debug__" : Str)) = false := by decide) : wpAny (model X.prog X.w) X.A (eval (.Name x pos) X.env) Q E s := by
  obtain ⟨mb, h1, h2⟩ := I.mod.blt
  exact Calls.Name_function_global I.ok.kind hg (Calls.loadGlobal_builtin (by rw [I.ok.glob]; exact I.mod.glob.keeps I.bk) hm (by rw [I.ok.blt]; exact h1.keeps I.bk) ((h2 x hn).trans hv) h) hd
theorem pe_bltn {x : Str} {v : V} {u : Value} {pos : Pos} (hg : Gl X x) (hm : X.mg x = none) (hv : bootBuiltins x = some u) (r : RelV v u) (hn : x ≠ "__name__" := by decide) (hd : (x == ("__debug__" : Str)) = false := by decide) : PE X (.Name x pos) (tC v) :=
  fun _ _ _ H _ I h => ld_blt I hg hm hv ⟨v, H, I, r, h⟩ hn hd

/-! ### arithmetic -/
/-- two ints -/
def t2I (ta tb : TE) (k : Int → Int → Hp → Prop) : St → Hp → Prop := fun σ H => ta σ H fun x H1 => tb σ H1 fun y H2 => ∃ i j, x = .int i ∧ y = .int j ∧ k i j H2
def tAdd (ta tb : TE) : TE := fun σ H Q => t2I ta tb (fun i j H2 => Q (.int (i + j)) H2) σ H
def tSub (ta tb : TE) : TE := fun σ H Q => t2I ta tb (fun i j H2 => Q (.int (i - j)) H2) σ H
/-- the left factor below 2^64 -/
def tMul (ta tb : TE) : TE := fun σ H Q => t2I ta tb (fun i j H2 => (-(2 ^ 64) < i ∧ i < 2 ^ 64) ∧ Q (.int (i * j)) H2) σ H
variable {a b : Expr} {ta tb : TE} {pos : Pos}
/-! ### comparisons -/
def PC (X : Cx) (op : CmpOp) (a b : Expr) (t : TE) : Prop :=
  ∀ (pins : List (Addr × Obj)) (s : Shared) (σ : St) (H : Hp) (Q : VK), Inv X pins σ H s → t σ H Q →
    wpAny (model X.prog X.w) X.A (eval a X.env) (fun v s₁ => wpAny (model X.prog X.w) X.A (eval b X.env) (fun u s₂ => wpAny (model X.prog X.w) X.A (compareOp op v u) (EP X pins σ Q) X.xe s₂) X.xe s₁) X.xe s
def tCmp (p : Int → Int → Bool) (ta tb : TE) : TE := fun σ H Q => t2I ta tb (fun i j H2 => Q (.bl (p i j)) H2) σ H
abbrev tLt : TE → TE → TE := tCmp fun i j => decide (i < j)
abbrev tLe : TE → TE → TE := tCmp fun i j => decide (i ≤ j)
abbrev tGt : TE → TE → TE := tCmp fun i j => decide (j < i)
abbrev tGe : TE → TE → TE := tCmp fun i j => decide (j ≤ i)
abbrev tEqI : TE → TE → TE := tCmp fun i j => decide (i = j)
abbrev tNeI : TE → TE → TE := tCmp fun i j => !decide (i = j)
/-- is None -/
def tIsN (ta : TE) : TE := fun σ H Q => ta σ H fun x H1 => Q (.bl (decide (x = .non))) H1
def tNotN (ta : TE) : TE := fun σ H Q => ta σ H fun x H1 => Q (.bl (!decide (x = .non))) H1
/-- a comparison as a value, as a test -/
def tB (t : TE) : TT := fun σ H Q => t σ H fun x H1 => ∃ c, x = .bl c ∧ Q c H1
theorem pt_cmp {op : CmpOp} {t : TE} (h : PC X op a b t) (h1 : behindInMarks op b = false := by first | exact nobehind _ (by decide) (by decide) | rfl) : PT X (.Compare a [op] [b] pos) (tB t) := by
  intro pins s σ H Q I hw
  refine wpAny_isTrue_Compare1 (thn (h pins s σ H _ I hw) fun v s1 h1 => thn h1 fun u s2 h2 => thn h2 fun c s3 ⟨x, H1, I1, r1, q1⟩ => ?_) h1
  obtain ⟨d, rfl, q⟩ := q1
  cases r1
  exact wpAny_truthy_bool ⟨H1, I1, q⟩
/-- an expression whose value is a bool, as a test -/
theorem pt_val {e : Expr} {t : TE} (h : PE X e t) (he : ∀ whole, isTrue e X.env whole = (do let v ← whole; standAt e.pos; holding [v] (truthy v)) := by intro _; rfl) : PT X e (tB t) := by
  intro pins s σ H Q I hw
  refine isTrue_plain (thn (h pins s σ H _ I hw) fun v s1 ⟨x, H1, I1, r1, q1⟩ => ?_) (he _)
  obtain ⟨d, rfl, q⟩ := q1
  cases r1
  exact wpAny_truthy_bool ⟨H1, I1, q⟩

/-! ### and, or, not -/
variable {tA tB' : TT} {rest : List Expr}
def tAnd (t u : TT) : TT := fun σ H Q => t σ H fun c H1 => if c = true then u σ H1 Q else Q false H1
def tOr (t u : TT) : TT := fun σ H Q => t σ H fun c H1 => if c = true then Q true H1 else u σ H1 Q
def tNot (t : TT) : TT := fun σ H Q => t σ H fun c H1 => Q (!c) H1
theorem pw_and1 (ha : PT X a tA) : PW X (.BoolOp .And [a] pos) tA := by
  intro wh pins s σ H Q I h
  refine isTrue_and (thn (ha pins s σ H Q I h) fun c s1 e => ?_)
  cases c with
  | true => exact isTrue_and_nil e
  | false => exact e
theorem pw_or1 (ha : PT X a tA) : PW X (.BoolOp .Or [a] pos) tA := by
  intro wh pins s σ H Q I h
  refine isTrue_or (thn (ha pins s σ H Q I h) fun c s1 e => ?_)
  cases c with
  | false => exact isTrue_or_nil e
  | true => exact e
theorem pw_and (ha : PT X a tA) (hb : PW X (.BoolOp .And (b :: rest) pos) tB') : PW X (.BoolOp .And (a :: b :: rest) pos) (tAnd tA tB') := by
  intro wh pins s σ H Q I h
  refine isTrue_and (thn (ha pins s σ H _ I h) fun c s1 ⟨H1, I1, q1⟩ => ?_)
  cases c with
  | true => exact hb wh pins s1 σ H1 Q I1 q1
  | false => exact ⟨H1, I1, q1⟩
theorem pw_or (ha : PT X a tA) (hb : PW X (.BoolOp .Or (b :: rest) pos) tB') : PW X (.BoolOp .Or (a :: b :: rest) pos) (tOr tA tB') := by
  intro wh pins s σ H Q I h
  refine isTrue_or (thn (ha pins s σ H _ I h) fun c s1 ⟨H1, I1, q1⟩ => ?_)
  cases c with
  | true => exact ⟨H1, I1, q1⟩
  | false => exact hb wh pins s1 σ H1 Q I1 q1
theorem pt_not (ha : PT X a tA) : PT X (.UnaryOp .Not a pos) (tNot tA) := by
  intro pins s σ H Q I h
  exact isTrue_not (ha pins s σ H (fun c H1 => Q (!c) H1) I h)
/-- .. as values (bools) -/
def tAndV (ta tb : TE) : TE := fun σ H Q => ta σ H fun x H1 => ∃ c, x = .bl c ∧ if c = true then tb σ H1 Q else Q (.bl false) H1
def tOrV (ta tb : TE) : TE := fun σ H Q => ta σ H fun x H1 => ∃ c, x = .bl c ∧ if c = true then Q (.bl true) H1 else tb σ H1 Q
def tNotV (ta : TE) : TE := fun σ H Q => ta σ H fun x H1 => ∃ c, x = .bl c ∧ Q (.bl (!c)) H1
theorem pe_one {op} {t : TE} (h : PE X a t) : PE X (.BoolOp op [a] pos) t := fun pins s σ H Q I hw => BoolOp_one (h pins s σ H Q I hw)
theorem pe_and (ha : PE X a ta) (hb : PE X (.BoolOp .And (b :: rest) pos) tb) : PE X (.BoolOp .And (a :: b :: rest) pos) (tAndV ta tb) := by
  intro pins s σ H Q I h
  refine BoolOp_and (thn (ha pins s σ H _ I h) fun v s1 ⟨x, H1, I1, r1, q1⟩ => ?_)
  obtain ⟨c, rfl, q1⟩ := q1
  cases r1
  refine wpAny_truthy_bool ?_
  cases c with
  | true => exact hb pins s1 σ H1 Q I1 q1
  | false => exact ⟨.bl false, H1, I1, rfl, q1⟩
/-- a if t else b -/
def tIf (t : TT) (ta tb : TE) : TE := fun σ H Q => t σ H fun c H1 => if c = true then ta σ H1 Q else tb σ H1 Q
theorem pe_ifExp {c : Expr} (hc : PT X c tA) (ha : PE X a ta) (hb : PE X b tb) : PE X (.IfExp c a b pos) (tIf tA ta tb) := by
  intro pins s σ H Q I h
  refine wpAny_IfExp (thn (hc pins s σ H _ I h) fun d s1 ⟨H1, I1, q1⟩ => ?_)
  cases d with
  | true => exact ha pins s1 σ H1 Q I1 q1
  | false => exact hb pins s1 σ H1 Q I1 q1
end
end L2

namespace L2
open PySem PySem.Spec PyProof.Rows

/-! ### a list, a tuple that is read: tracked, frozen, or an object of the module -/
def SqL (K : PySem.W.Frag) (H : Hp) (a : Addr) (xs : List V) : Prop :=
  Rd H a (.lst xs) ∨
    ∃ (o : Obj) (its : Array Value) (n : Nat), K.lookup a = some o ∧ o.cls = .type "list" ∧ o.dict = none ∧ o.data = .seq its n ∧ its.size ≤ sizeLine ∧ Vals xs its.toList
def SqT (K : PySem.W.Frag) (H : Hp) (a : Addr) (xs : List V) : Prop :=
  Rd H a (.tup xs) ∨
    ∃ (o : Obj) (its : Array Value) (n : Nat), K.lookup a = some o ∧ o.cls = .type "tuple" ∧ o.data = .seq its n ∧ its.size ≤ sizeLine ∧ Vals xs its.toList
def absV : Value → Option V
  | .none => some .non
  | .bool b => some (.bl b)
  | .int i _ => some (.int i)
  | .str x _ => some (.str x)
  | .bytes b _ => some (.byt b)
  | .float b _ => some (.flt b)
  | .ref a => some (.ref a)
  | .type n => some (.ty n)
  | _ => none
theorem RelV.abs {x : V} {u : Value} (r : RelV x u) : absV u = some x := by
  cases x with
  | non => cases r; rfl
  | bl _ => cases r; rfl
  | int _ => obtain ⟨t, rfl⟩ := r; rfl
  | str _ => obtain ⟨t, rfl⟩ := r; rfl
  | byt _ => obtain ⟨t, rfl⟩ := r; rfl
  | flt _ => obtain ⟨t, rfl⟩ := r; rfl
  | ref _ => cases r; rfl
  | ty _ => cases r; rfl
theorem RelV.inj {x y : V} {u : Value} (r : RelV x u) (q : RelV y u) : x = y := Option.some.inj (r.abs.symm.trans q.abs)
theorem Vals.inj : ∀ {xs ys : List V} {us : List Value}, Vals xs us → Vals ys us → xs = ys
  | _, _, _, .nil, .nil => rfl
  | _, _, _, .cons r t, .cons r' t' => by rw [r.inj r', Vals.inj t t']
section
variable {X : Cx} {pins : List (Addr × Obj)} {σ : St} {H : Hp} {s : Shared} {a : Addr} {xs ys : List V}
theorem SqL.of {K : PySem.W.Frag} (h : H a = some (.lst xs)) : SqL K H a xs := .inl (.inl h)
theorem SqT.of {K : PySem.W.Frag} (h : H a = some (.tup xs)) : SqT K H a xs := .inl (.inl h)
theorem Inv.list (I : Inv X pins σ H s) (h : SqL X.K H a xs) : ∃ its : List Value, Vals xs its ∧ PlainL s.heap a its.toArray ∧ xs.length ≤ sizeLine := by
  rcases h with h | ⟨o, its, n, hk, hc, hd, hs, hz, r⟩
  · obtain ⟨z, its, n, r, e⟩ := h.ok I.hok
    exact ⟨its, r, ⟨_, n, e, rfl, rfl, rfl⟩, z⟩
  · refine ⟨its.toList, r, ⟨o, n, I.kIn a o hk, hc, hd, by simpa using hs⟩, ?_⟩
    have e := r.length
    simp only [Array.length_toList] at e
    omega
theorem Inv.tuple (I : Inv X pins σ H s) (h : SqT X.K H a xs) : ∃ its : List Value, Vals xs its ∧ IsTup s.heap a its.toArray ∧ xs.length ≤ sizeLine := by
  rcases h with h | ⟨o, its, n, hk, hc, hs, hz, r⟩
  · obtain ⟨z, its, r, p⟩ := h.ok I.hok
    exact ⟨its, r, p, z⟩
  · refine ⟨its.toList, r, ⟨o, I.kIn a o hk, hc, n, by simpa using hs⟩, ?_⟩
    have e := r.length
    simp only [Array.length_toList] at e
    omega
theorem Inv.list_inj (I : Inv X pins σ H s) (h : SqL X.K H a xs) (h' : SqL X.K H a ys) : xs = ys := by
  obtain ⟨its, r, ⟨o, n, e, _, _, d⟩, _⟩ := I.list h
  obtain ⟨its', r', ⟨o', n', e', _, _, d'⟩, _⟩ := I.list h'
  rw [e] at e'; cases e'
  rw [d] at d'
  injection d' with d1 _
  have : its = its' := by simpa using congrArg Array.toList d1
  subst this
  exact r.inj r'
theorem Inv.tuple_inj (I : Inv X pins σ H s) (h : SqT X.K H a xs) (h' : SqT X.K H a ys) : xs = ys := by
  obtain ⟨its, r, ⟨o, e, _, n, d⟩, _⟩ := I.tuple h
  obtain ⟨its', r', ⟨o', e', _, n', d'⟩, _⟩ := I.tuple h'
  rw [e] at e'; cases e'
  rw [d] at d'
  injection d' with d1 _
  have : its = its' := by simpa using congrArg Array.toList d1
  subst this
  exact r.inj r'
end

/-! ### another wish about exceptions -/
abbrev Cx.wish (X : Cx) (E : Value → Shared → Prop) : Cx := { X with xe := E }
/-- no exception leaves -/
abbrev Cx.nox (X : Cx) : Cx := X.wish fun _ _ => False
theorem Cx.Ok.wish {X : Cx} (ok : X.Ok) (E : Value → Shared → Prop) : (X.wish E).Ok :=
  ⟨ok.mod, ok.kind, ok.glob, ok.blt, ok.above, ok.inj, ok.has, ok.cab, ok.hd, ok.frames, ok.stk, ok.exf, ok.bs, ok.bsz, ok.noex, ok.exfs, ok.funs, ok.frf⟩
theorem Cx.Ok.unwish {X : Cx} {E : Value → Shared → Prop} (ok : (X.wish E).Ok) : X.Ok :=
  ⟨ok.mod, ok.kind, ok.glob, ok.blt, ok.above, ok.inj, ok.has, ok.cab, ok.hd, ok.frames, ok.stk, ok.exf, ok.bs, ok.bsz, ok.noex, ok.exfs, ok.funs, ok.frf⟩
section
variable {X : Cx} {pins : List (Addr × Obj)} {σ : St} {H : Hp} {s : Shared} {E : Value → Shared → Prop}
theorem Inv.wish (I : Inv X pins σ H s) (E : Value → Shared → Prop) : Inv (X.wish E) pins σ H s := ⟨I.ok.wish E, I.os, I.bare, I.base, I.loc, I.cell, I.free, I.freeC, I.pin, I.hok, I.len⟩
theorem Inv.unwish (I : Inv (X.wish E) pins σ H s) : Inv X pins σ H s := ⟨I.ok.unwish, I.os, I.bare, I.base, I.loc, I.cell, I.free, I.freeC, I.pin, I.hok, I.len⟩
theorem SP.unwish {D : Ends} {f : Flow} {s' : Shared} (h : SP (X.wish E) pins D f s') : SP X pins D f s' := by
  cases f with
  | next => obtain ⟨σ', H', I, q⟩ := h; exact ⟨σ', H', I.unwish, q⟩
  | brk => obtain ⟨σ', H', I, q⟩ := h; exact ⟨σ', H', I.unwish, q⟩
  | cont => obtain ⟨σ', H', I, q⟩ := h; exact ⟨σ', H', I.unwish, q⟩
  | ret u => obtain ⟨v, σ', H', I, r, q⟩ := h; exact ⟨v, σ', H', I.unwish, r, q⟩
theorem PSs.nox {st : List Stmt} {t : TS} (h : PSs X.nox st t) : PSs X st t := fun pins s σ H D I hw =>
  wpAny_mono (h pins s σ H D (I.wish _) hw) (fun _ _ q => q.unwish) fun _ _ z => False.elim z
end

/-! ### blocks and small statements -/
section
variable {X : Cx} {st : Stmt} {rest : List Stmt} {t u : TS} {e : Expr} {te : TE} {pos : Pos}
def tNext : TS := fun D σ H => D.nx σ H
def tSeq (t u : TS) : TS := fun D σ H => t { D with nx := u D } σ H
theorem pss_nil : PSs X [] tNext := fun _ _ σ H _ I h => wpAny_execs_nil ⟨σ, H, I, h⟩
theorem pss_cons (h1 : PS X st t) (h2 : PSs X rest u) : PSs X (st :: rest) (tSeq t u) := by
  intro pins s σ H D I h
  refine wpAny_execs_cons (thn (h1 pins s σ H { D with nx := u D } I h) fun f s1 q => ?_)
  cases f with
  | next =>
    obtain ⟨σ', H', I', q⟩ := q
    exact h2 pins s1 σ' H' D I' q
  | ret v => exact q
  | brk => exact q
  | cont => exact q
theorem pss_one (h1 : PS X st t) : PSs X [st] t := by
  intro pins s σ H D I h
  refine wpAny_execs_cons (thn (h1 pins s σ H D I h) fun f s1 q => ?_)
  cases f with
  | next => exact wpAny_execs_nil q
  | ret v => exact q
  | brk => exact q
  | cont => exact q
def tBreak : TS := fun D σ H => D.bk σ H
def tCont : TS := fun D σ H => D.ct σ H
/-- in a def's body nothing is shown -/
theorem Inv.quiet {pins : List (Addr × Obj)} {σ : St} {H : Hp} {s : Shared} (I : Inv X pins σ H s) : interactive X.env = false := by simp [interactive, I.ok.kind]
/-- an expression whose value is dropped -/
def tDrop (te : TE) : TS := fun D σ H => te σ H fun _ H1 => D.nx σ H1
theorem ps_expr (he : PE X e te) (hs : swapsWith e none pos.line X.env = pure false := by rfl) : PS X (.Expr e pos) (tDrop te) := by
  intro pins s σ H D I h
  exact wpAny_Expr_any (thn (he pins s σ H _ I h) fun v s1 ⟨x, H1, I1, r1, q1⟩ => ⟨σ, H1, I1, q1⟩) I.quiet hs
def tRet (te : TE) : TS := fun D σ H => te σ H D.rt
theorem ps_ret (he : PE X e te) : PS X (.Return (some e) pos) (tRet te) := by
  intro pins s σ H D I h
  exact wpAny_Return_some (thn (he pins s σ H _ I h) fun v s1 ⟨x, H1, I1, r1, q1⟩ => ⟨x, σ, H1, I1, r1, q1⟩)
def tRetN : TS := fun D _ H => D.rt .non H
def tIfS (c : TT) (t u : TS) : TS := fun D σ H => c σ H fun b H1 => if b = true then t D σ H1 else u D σ H1
theorem ps_if {c : Expr} {a b : List Stmt} {tc : TT} (hc : PT X c tc) (ha : PSs X a t) (hb : PSs X b u) : PS X (.If c a b pos) (tIfS tc t u) := by
  intro pins s σ H D I h
  refine wpAny_If (thn (hc pins s σ H _ I h) fun d s1 ⟨H1, I1, q1⟩ => ?_)
  cases d with
  | true => exact ha pins s1 σ H1 D I1 q1
  | false => exact hb pins s1 σ H1 D I1 q1
/-- code that the proof never comes to -/
def tNever : TS := fun _ _ _ => False
theorem pss_never {sts : List Stmt} : PSs X sts tNever := fun _ _ _ _ _ _ h => h.elim
end

/-! ### targets -/
abbrev TG := V → St → Hp → (St → Hp → Prop) → Prop
abbrev TGs := List V → St → Hp → (St → Hp → Prop) → Prop
def PG (X : Cx) (target : Expr) (t : TG) : Prop :=
  ∀ (pins : List (Addr × Obj)) (s : Shared) (σ : St) (H : Hp) (v : V) (u : Value) (Q : St → Hp → Prop), Inv X pins σ H s → RelV v u → t v σ H Q →
    wpAny (model X.prog X.w) X.A (assign target X.env u) (fun _ s' => ∃ σ' H', Inv X pins σ' H' s' ∧ Q σ' H') X.xe s
/-- several targets, one after another -/
def PGs (X : Cx) (ts : List Expr) (t : TGs) : Prop :=
  ∀ (pins : List (Addr × Obj)) (s : Shared) (σ : St) (H : Hp) (vs : List V) (us : List Value) (Q : St → Hp → Prop), Inv X pins σ H s → Vals vs us → t vs σ H Q →
    wpAny (model X.prog X.w) X.A (assignInOrder ((assignEach ts X.env).map (·.2)) us) (fun _ s' => ∃ σ' H', Inv X pins σ' H' s' ∧ Q σ' H') X.xe s
/-- o[i] = v, by values -/
abbrev TSet := V → V → V → Hp → (Hp → Prop) → Prop
def PSet (X : Cx) (t : TSet) : Prop :=
  ∀ (pins : List (Addr × Obj)) (s : Shared) (σ : St) (H : Hp) (o i v : V) (ov iv u : Value) (Q : Hp → Prop), Inv X pins σ H s → RelV o ov → RelV i iv → RelV v u → t o i v H Q →
    wpAny (model X.prog X.w) X.A (setItem ov iv u) (fun _ s' => ∃ H', Inv X pins σ H' s' ∧ Q H') X.xe s
/-- a op= b, by values -/
abbrev TIp := V → V → Hp → VK → Prop
def PIp (X : Cx) (op : Operator) (t : TIp) : Prop :=
  ∀ (pins : List (Addr × Obj)) (s : Shared) (σ : St) (H : Hp) (x y : V) (v u : Value) (Q : VK), Inv X pins σ H s → RelV x v → RelV y u → t x y H Q →
    wpAny (model X.prog X.w) X.A (inplaceOp op v u) (EP X pins σ Q) X.xe s
section
variable {X : Cx} {pos : Pos}
def gName (i : Nat) : TG := fun v σ H Q => Q (σ.set i (some v)) H
theorem pg_name {i : Nat} {x : Str} (hN : X.N.Nodup) (hi : X.N[i]? = some x) (hx : Loc X.env.scope x) (hf : X.fn x = true ∨ X.env.scope.names.lookup x = some .local := by first | exact .inl rfl | exact .inr rfl | assumption) : PG X (.Name x pos) (gName i) := by
  intro pins s σ H v u Q I r h
  exact wpAny_assign_Name (store_ok I hN hi hx r (fun s' I' => ⟨_, H, I', h⟩) hf)
def gNil : TGs := fun vs σ H Q => vs = [] ∧ Q σ H
def gCons (t : TG) (u : TGs) : TGs := fun vs σ H Q => ∃ v r, vs = v :: r ∧ t v σ H fun σ' H' => u r σ' H' Q
theorem pgs_nil : PGs X [] gNil := by
  intro pins s σ H vs us Q I r h
  obtain ⟨e, h⟩ := h
  subst e
  cases r
  exact assignInOrder_nil ⟨σ, H, I, h⟩
theorem pgs_cons {e : Expr} {es : List Expr} {t : TG} {u : TGs} (h1 : PG X e t) (h2 : PGs X es u)
    (hs : (assignEach (e :: es) X.env).map (·.2) = assign e X.env :: (assignEach es X.env).map (·.2) := by rfl) : PGs X (e :: es) (gCons t u) := by
  intro pins s σ H vs us Q I r h
  obtain ⟨v, vr, e1, h⟩ := h
  subst e1
  cases r with
  | cons r rr =>
    rw [hs]
    refine assignInOrder_cons (thn (h1 pins s σ H _ _ _ I r h) fun _ s1 ⟨σ1, H1, I1, q1⟩ => ?_)
    exact h2 pins s1 σ1 H1 _ _ Q I1 rr q1
/-- (a, b, ..) = a tuple of that length -/
def gTup (K : PySem.W.Frag) (n : Nat) (t : TGs) : TG := fun v σ H Q => ∃ a xs, v = .ref a ∧ SqT K H a xs ∧ xs.length = n ∧ t xs σ H Q
theorem pg_tup {es : List Expr} {k : Nat} {t : TGs} {n : Nat} (hc : X.calm = true) (h : PGs X es t)
    (hn : (assignEach es X.env).length = n := by rfl) (hst : (assignEach es X.env).findIdx? (·.1) = none := by rfl) : PG X (.Tuple es k pos) (gTup X.K n t) := by
  intro pins s σ H v u Q I r hw
  obtain ⟨a, xs, e1, hq, hl, hw⟩ := hw
  subst e1
  cases r
  obtain ⟨its, rv, ht, hz⟩ := I.tuple hq
  refine assign_Tuple_tuple (I.ok.hd hc) ht (by simp [hn, ← hl, rv.length]) hst fun h' hx => ?_
  have I1 : Inv X pins σ H { s with heap := h' } := I.kept (t' := s.toks) fun b o e => hx b o (Nat.ne_of_lt (Heap.lt_size e)) e
  exact h pins _ σ H xs _ Q I1 (by simpa using rv) hw
/-- o[i] = .. -/
def gSub (to ti : TE) (t : TSet) : TG := fun v σ H Q => to σ H fun o H1 => ti σ H1 fun i H2 => t o i v H2 fun H3 => Q σ H3
theorem pg_sub {o i : Expr} {to ti : TE} {t : TSet} (ho : PE X o to) (hi : PE X i ti) (hs : PSet X t)
    (ha : ∀ v, assign (.Subscript o i pos) X.env v = (do
      let ov ← holding [v] (eval o X.env)
      let iv ← holding [v, ov] (eval i X.env)
      standAt pos
      holding [v, ov, iv] (setItem ov iv v)
      release [v, ov, iv] []) := by intro _; rfl) : PG X (.Subscript o i pos) (gSub to ti t) := by
  intro pins s σ H v u Q I r h
  rw [ha]
  refine wpAny_bind (wpAny_holding (thn (ho pins s σ H _ I h) fun ov s1 ⟨x, H1, I1, r1, q1⟩ => ?_))
  refine wpAny_bind (wpAny_holding (thn (hi pins s1 σ H1 _ I1 q1) fun iv s2 ⟨y, H2, I2, r2, q2⟩ => ?_))
  refine wpAny_bind (wpAny_standAt (wpAny_bind (wpAny_holding (thn (hs pins s2 σ H2 x y v ov iv u _ I2 r1 r2 r q2) fun _ s3 ⟨H3, I3, q3⟩ => ?_))))
  exact wpAny_release ⟨σ, H3, I3, q3⟩
/-- target = value -/
def tAsg (te : TE) (g : TG) : TS := fun D σ H => te σ H fun x H1 => g x σ H1 D.nx
theorem ps_asg {tg e : Expr} {te : TE} {g : TG} (he : PE X e te) (hg : PG X tg g) (hs : swapsWithSole [tg] e pos.line X.env = pure false := by rfl) (hw : swappedStores [tg] e X.env = pure none := by rfl)
    (h1 : (assignEach [tg] X.env).map (·.2) = [assign tg X.env] := by rfl) : PS X (.Assign [tg] e pos) (tAsg te g) := by
  intro pins s σ H D I h
  refine wpAny_Assign_stores (thn (he pins s σ H _ I h) fun v s1 ⟨x, H1, I1, r1, q1⟩ => ?_) hs hw
  rw [h1]
  exact thn (hg pins s1 σ H1 x v _ I1 r1 q1) fun _ s2 q => q
/-- name = value -/
theorem ps_set {i : Nat} {x : Str} {e : Expr} {te : TE} {pos' : Pos} (hN : X.N.Nodup) (hi : X.N[i]? = some x) (hx : Loc X.env.scope x) (he : PE X e te) (hs : swapsWith e (some (.Name x pos')) pos.line X.env = pure false := by rfl) (hf : X.fn x = true ∨ X.env.scope.names.lookup x = some .local := by first | exact .inl rfl | exact .inr rfl | assumption) :
    PS X (.Assign [.Name x pos'] e pos) (tAsg te (gName i)) := by
  intro pins s σ H D I h
  refine wpAny_Assign_Name (thn (he pins s σ H _ I h) fun v s1 ⟨y, H1, I1, r1, q1⟩ => ?_) hs
  exact store_ok I1 hN hi hx r1 (fun s2 I2 => ⟨_, H1, I2, q1⟩) hf
/-- a, b = x, y with plain local names: stored from the right; the pair itself is not tracked (the opening rows as in PyProof/Rows/TupAssign.lean:23) -/
def tPar (i j : Nat) (ta : TA) : TS := fun D σ H => ta σ H fun vs H1 => ∃ v w, vs = [v, w] ∧ D.nx ((σ.set i (some v)).set j (some w)) H1
/-- name op= e -/
def tAug (i : Nat) (te : TE) (ti : TIp) : TS := fun D σ H => ∃ x, σ[i]? = some (some x) ∧ te σ H fun y H1 => ti x y H1 fun z H2 => D.nx (σ.set i (some z)) H2
/-- o[i] op= e -/
def tAugS (to ti te : TE) (tget : V → V → Hp → VK → Prop) (tip : TIp) (tset : TSet) : TS := fun D σ H => to σ H fun o H1 => ti σ H1 fun i H2 => tget o i H2 fun x H3 => te σ H3 fun y H4 => tip x y H4 fun z H5 => tset o i z H5 fun H6 => D.nx σ H6
/-- o[i], by values -/
def PGet (X : Cx) (t : V → V → Hp → VK → Prop) : Prop :=
  ∀ (pins : List (Addr × Obj)) (s : Shared) (σ : St) (H : Hp) (o i : V) (ov iv : Value) (Q : VK), Inv X pins σ H s → RelV o ov → RelV i iv → t o i H Q →
    wpAny (model X.prog X.w) X.A (getItem ov iv) (EP X pins σ Q) X.xe s
/-- ints -/
def ipI (f : Int → Int → Int) : TIp := fun x y H Q => ∃ i j, x = .int i ∧ y = .int j ∧ Q (.int (f i j)) H
end

/-! ### while -/
section
variable {X : Cx} {pos : Pos}
/-- the invariant W with its measure -/
def tWhile (c : TT) (tb : TS) : TS := fun D σ H => ∃ W : Nat → St → Hp → Prop, (∃ m, W m σ H) ∧ ∀ m σ H, W m σ H →
  c σ H fun b H1 => if b = true then ∃ N : St → Hp → Prop, (∀ σ' H', N σ' H' → ∃ m', m' < m ∧ W m' σ' H') ∧ tb { D with nx := N, ct := N, bk := D.nx } σ H1 else D.nx σ H1
end

/-! ### what a loop or a comprehension walks -/
/-- at turn i: it yields x (the heap may grow), or it stops -/
structure It where
  go : Nat → Hp → Prop
  yld : Nat → Hp → V → Hp → Prop
  stop : Nat → Hp → Prop
/-- the iterator's own objects may turn: they are not the frame's, not pinned, younger than the entry (or a comprehension's own) -/
def FpOk (X : Cx) (pins : List (Addr × Obj)) (H : Hp) (b : Addr) : Prop :=
  H b = none ∧ b ≠ X.env.locals ∧ b ∉ X.fs ∧ (b ∈ X.ex ∨ X.s₀.heap.objs.size ≤ b) ∧ (∀ x c, X.env.cells.lookup x = some c → c ≠ b) ∧ ∀ p ∈ X.pn ++ pins, p.1 ≠ b
theorem Inv.fpOk {X : Cx} {pins : List (Addr × Obj)} {σ : St} {H H' : Hp} {s : Shared} {b : Addr} (I : Inv X pins σ H s) (hb : s.heap.objs.size ≤ b) (hn : H' b = none) : FpOk X pins H' b := by
  refine ⟨hn, Nat.ne_of_gt (Nat.lt_of_lt_of_le I.lt hb), I.nofs hb, .inr (Nat.le_trans I.sz hb), fun x c e z => ?_, fun p hp z => ?_⟩
  · obtain ⟨v, q⟩ := I.cell x c e
    exact absurd (Nat.lt_of_lt_of_le q.lt (by rw [z]; exact hb)) (Nat.lt_irrefl _)
  · exact absurd (Nat.lt_of_lt_of_le (Heap.lt_size (I.pin p hp).1) (by rw [z]; exact hb)) (Nat.lt_irrefl _)
structure Turn (P : Program) (w : World) (K : PySem.W.Frag) (tg : Expr) (J : It) (fp : List Addr) (it : Addr) (tn : Nat → Heap → Prop) : Prop where
  mem : it ∈ fp
  obj : ∀ i h, tn i h → ∀ b ∈ fp, ∃ o, h.get? b = some o ∧ ∀ v, o.data ≠ .cell v
  keep : ∀ i h h', tn i h → (∀ b ∈ fp, ∀ o, h.get? b = some o → h'.get? b = some o) → tn i h'
  item : ∀ (X : Cx), X.prog = P → X.w = w → X.K = K → X.calm = true → ∀ (i : Nat) (pins : List (Addr × Obj)) (s : Shared) (σ : St) (H : Hp) (E : Value → Shared → Prop), Inv X pins σ H s → (∀ b ∈ fp, FpOk X pins H b) → tn i s.heap → J.go i H →
    wpAny (model P w) X.A (pyNext (.ref it)) (fun r s1 => ∃ u, r = some u ∧
      wpAny (model P w) X.A (letOwnedTupleGo tg (.ref it) u) (fun _ s2 => ∃ x H', Inv X pins σ H' s2 ∧ RelV x u ∧ J.yld i H x H' ∧ tn (i + 1) s2.heap ∧ ∀ b ∈ fp, H' b = none) E s1) E s
  done : ∀ (X : Cx), X.prog = P → X.w = w → X.K = K → X.calm = true → ∀ (i : Nat) (pins : List (Addr × Obj)) (s : Shared) (σ : St) (H : Hp) (E : Value → Shared → Prop), Inv X pins σ H s → (∀ b ∈ fp, FpOk X pins H b) → tn i s.heap → J.stop i H →
    wpAny (model P w) X.A (pyNext (.ref it)) (fun r s1 => r = none ∧ Inv X pins σ H s1) E s
  self : ∀ (A : Around) (i : Nat) (s : Shared) (Q : Value → Shared → Prop) (E : Value → Shared → Prop), tn i s.heap → Q (.ref it) s → wpAny (model P w) A (pyIter (.ref it)) Q E s
abbrev TI := St → Hp → (It → Hp → Prop) → Prop
/-- an iterator has come -/
def PIE (X : Cx) (pins : List (Addr × Obj)) (σ : St) (tg : Expr) (R : It → Hp → Prop) (itv : Value) (s2 : Shared) : Prop :=
  ∃ (it : Addr) (fp : List Addr) (tn : Nat → Heap → Prop) (J : It) (H' : Hp), itv = .ref it ∧ Inv X pins σ H' s2 ∧ Turn X.prog X.w X.K tg J fp it tn ∧ tn 0 s2.heap ∧ (∀ b ∈ fp, FpOk X pins H' b) ∧ R J H'
def PI (X : Cx) (tg iter : Expr) (wi : TI) : Prop :=
  ∀ (pins : List (Addr × Obj)) (s : Shared) (σ : St) (H : Hp) (R : It → Hp → Prop), Inv X pins σ H s → wi σ H R →
    wpAny (model X.prog X.w) X.A (eval iter X.env) (fun v s1 => wpAny (model X.prog X.w) X.A (pyIter v) (PIE X pins σ tg R) X.xe s1) X.xe s

/-- the step ahead of the store is nothing for an iterator that keeps no tuple -/
theorem go_of {M : Model} {A : Around} {E : Value → Shared → Prop} {s : Shared} {tg : Expr} {it : Addr} {u : Value} {o : Obj} {n : String} {vs : Array Value} {Q : Unit → Shared → Prop} (ho : s.heap.get? it = some o) (hc : o.cls = .type n) (hd : o.data = .fields vs)
    (hn : ["enumerate", "zip", "dict_itemiterator", "dict_reverseitemiterator", "odict_iterator", "itertools.zip_longest", "itertools.pairwise"].contains n = false) (hQ : Q () s) : wpAny M A (letOwnedTupleGo tg (.ref it) u) Q E s := by
  unfold letOwnedTupleGo
  cases tg <;> first
    | exact wpAny_pure hQ
    | (cases u <;> first
        | exact wpAny_pure hQ
        | (refine wpAny_bind (wpAny_load ho ?_)
           rw [hc, hd]
           show wpAny M A (if (["enumerate", "zip", "dict_itemiterator", "dict_reverseitemiterator", "odict_iterator", "itertools.zip_longest", "itertools.pairwise"].contains n && vs[0]? == some (rawInt _)) = true then _ else _) Q E s
           rw [if_neg (by intro h; rw [hn, Bool.false_and] at h; cases h)]
           exact wpAny_pure hQ))

/-- the list at a, as it stands at each turn (a loop may append to it) -/
def Itl (K : PySem.W.Frag) (a : Addr) : It :=
  ⟨fun i H => ∃ xs x, SqL K H a xs ∧ xs[i]? = some x, fun i H x H' => H' = H ∧ ∀ xs, SqL K H a xs → xs[i]? = some x, fun i H => ∃ xs, SqL K H a xs ∧ xs.length ≤ i⟩
def Itt (K : PySem.W.Frag) (a : Addr) : It :=
  ⟨fun i H => ∃ xs x, SqT K H a xs ∧ xs[i]? = some x, fun i H x H' => H' = H ∧ ∀ xs, SqT K H a xs → xs[i]? = some x, fun i H => ∃ xs, SqT K H a xs ∧ xs.length ≤ i⟩
/-- lo, lo + 1, .. (n of them) -/
def Itr (lo : Int) (n : Nat) : It := ⟨fun i _ => i < n, fun i H x H' => H' = H ∧ x = .int (lo + i), fun i _ => n ≤ i⟩
theorem turn_list {P : Program} {w : World} {K : PySem.W.Frag} {tg : Expr} (a it : Addr) : Turn P w K tg (Itl K a) [it] it (fun i h => h.IsListIter it a i) where
  mem := by simp
  obj := fun i h st b hb => by
    have e : b = it := by simpa using hb
    subst e
    obtain ⟨o, e, c, d⟩ := st
    exact ⟨o, e, fun v z => by rw [d] at z; cases z⟩
  keep := fun i h h' st k => st.at fun o e => k it (by simp) o e
  item := by
    intro X hP hw hK hc i pins s σ H E I hf st hg
    subst hP hw hK
    obtain ⟨xs, x, hq, hx⟩ := hg
    obtain ⟨its, rv, p, hz⟩ := I.list hq
    obtain ⟨u, hu, ru⟩ := rv.get hx
    obtain ⟨f0, f1, f2, f3, f4, f5⟩ := hf it (by simp)
    refine wpAny_pyNext_list_item st p.isList (x := u) (by simpa using hu) fun h' st' sb => ?_
    have I1 : Inv X pins σ H { s with heap := h' } := I.turned (t' := s.toks) (fun b o hb e => (sb.2 b hb).trans e) f0 f1 f3 f4 f5
    obtain ⟨o, e, c, d⟩ := id st'
    exact ⟨u, rfl, go_of (s := { s with heap := h' }) e c d (by decide) ⟨x, H, I1, ru, ⟨rfl, fun ys hy => by rw [I.list_inj hy hq]; exact hx⟩, st', fun b hb => (hf b hb).1⟩⟩
  done := by
    intro X hP hw hK hc i pins s σ H E I hf st hg
    subst hP hw hK
    obtain ⟨xs, hq, hx⟩ := hg
    obtain ⟨its, rv, p, hz⟩ := I.list hq
    obtain ⟨f0, f1, f2, f3, f4, f5⟩ := hf it (by simp)
    have hl := rv.length
    exact wpAny_pyNext_list_end (I.ok.hd hc) st p.isList (by simp; omega) fun h' eb => ⟨rfl, I.turned (t' := s.toks) (fun b o hb e => eb b o hb e) f0 f1 f3 f4 f5⟩
  self := fun _ _ _ _ _ st h => wpAny_pyIter_listiter st h
theorem turn_tuple {P : Program} {w : World} {K : PySem.W.Frag} {tg : Expr} (a it : Addr) : Turn P w K tg (Itt K a) [it] it (fun i h => h.IsTupleIter it a i) where
  mem := by simp
  obj := fun i h st b hb => by
    have e : b = it := by simpa using hb
    subst e
    obtain ⟨o, e, c, d⟩ := st
    exact ⟨o, e, fun v z => by rw [d] at z; cases z⟩
  keep := fun i h h' st k => st.at fun o e => k it (by simp) o e
  item := by
    intro X hP hw hK hc i pins s σ H E I hf st hg
    subst hP hw hK
    obtain ⟨xs, x, hq, hx⟩ := hg
    obtain ⟨its, rv, p, hz⟩ := I.tuple hq
    obtain ⟨u, hu, ru⟩ := rv.get hx
    obtain ⟨f0, f1, f2, f3, f4, f5⟩ := hf it (by simp)
    refine wpAny_pyNext_tuple_item st (show s.heap.IsTuple a its.toArray from p) (x := u) (by simpa using hu) fun h' st' sb => ?_
    have I1 : Inv X pins σ H { s with heap := h' } := I.turned (t' := s.toks) (fun b o hb e => (sb.2 b hb).trans e) f0 f1 f3 f4 f5
    obtain ⟨o, e, c, d⟩ := id st'
    exact ⟨u, rfl, go_of (s := { s with heap := h' }) e c d (by decide) ⟨x, H, I1, ru, ⟨rfl, fun ys hy => by rw [I.tuple_inj hy hq]; exact hx⟩, st', fun b hb => (hf b hb).1⟩⟩
  done := by
    intro X hP hw hK hc i pins s σ H E I hf st hg
    subst hP hw hK
    obtain ⟨xs, hq, hx⟩ := hg
    obtain ⟨its, rv, p, hz⟩ := I.tuple hq
    obtain ⟨f0, f1, f2, f3, f4, f5⟩ := hf it (by simp)
    have hl := rv.length
    exact wpAny_pyNext_tuple_end (I.ok.hd hc) st (show s.heap.IsTuple a its.toArray from p) (by simp; omega) fun h' eb => ⟨rfl, I.turned (t' := s.toks) (fun b o hb e => eb b o hb e) f0 f1 f3 f4 f5⟩
  self := fun _ _ _ _ _ st h => wpAny_pyIter_tupleiter st h
theorem turn_range {P : Program} {w : World} {K : PySem.W.Frag} {tg : Expr} (it : Addr) (lo : Int) (n : Nat) : Turn P w K tg (Itr lo n) [it] it (fun i h => IsRangeIter h it (lo + (i : Nat) * 1) ((n : Int) - (i : Nat)) 1) where
  mem := by simp
  obj := fun i h st b hb => by
    have e : b = it := by simpa using hb
    subst e
    exact ⟨_, st, fun v z => by
      have z' : Data.fields _ = Data.cell v := z
      cases z'⟩
  keep := fun i h h' st k => k it (by simp) _ st
  item := by
    intro X hP hw hK hc i pins s σ H E I hf st hg
    subst hP hw hK
    obtain ⟨f0, f1, f2, f3, f4, f5⟩ := hf it (by simp)
    have W := Walks.range (prog := X.prog) (w := X.w) (I.ok.hd hc) it lo 1 n
    refine W.item i s _ _ hg st fun v h' tk hv st' kk => ?_
    obtain ⟨t, rfl⟩ := hv
    have I1 : Inv X pins σ H { s with heap := h', toks := tk } := I.turned (fun b o hb e => kk b o (by simpa using hb) e) f0 f1 f3 f4 f5
    refine ⟨_, rfl, go_of (s := { s with heap := h', toks := tk }) (n := "range_iterator") st' rfl rfl (by decide) ⟨.int (lo + i), H, I1, ⟨t, ?_⟩, ⟨rfl, rfl⟩, st', fun b hb => (hf b hb).1⟩⟩
    rw [Int.mul_one]
  done := by
    intro X hP hw hK hc i pins s σ H E I hf st hg
    subst hP hw hK
    obtain ⟨f0, f1, f2, f3, f4, f5⟩ := hf it (by simp)
    exact wpAny_pyNext_range_end (I.ok.hd hc) st (by have : n ≤ i := hg; omega) fun h' eb => ⟨rfl, I.turned (t' := s.toks) (fun b o hb e => eb b o hb e) f0 f1 f3 f4 f5⟩
  self := fun _ _ _ _ _ st h => wpAny_pyIter_rangeiter st h
end L2

namespace L2
open PySem PySem.Spec PyProof.Rows
section
variable {X : Cx} {tg : Expr}
def iList (K : PySem.W.Frag) (tl : TE) : TI := fun σ H R => tl σ H fun x H1 => ∃ a, x = .ref a ∧ (∃ xs, SqL K H1 a xs) ∧ R (Itl K a) H1
def iTup (K : PySem.W.Frag) (tl : TE) : TI := fun σ H R => tl σ H fun x H1 => ∃ a, x = .ref a ∧ (∃ xs, SqT K H1 a xs) ∧ R (Itt K a) H1
theorem pi_list {l : Expr} {tl : TE} (hl : PE X l tl) : PI X tg l (iList X.K tl) := by
  intro pins s σ H R I h
  refine thn (hl pins s σ H _ I h) fun v s1 ⟨x, H1, I1, r1, q1⟩ => ?_
  obtain ⟨a, e, ⟨xs, hq⟩, q⟩ := q1
  subst e
  cases r1
  obtain ⟨its, rv, p, hz⟩ := I1.list hq
  refine wpAny_pyIter_list p.isList ?_
  refine ⟨s1.heap.objs.size, [s1.heap.objs.size], _, _, H1, rfl, I1.kept (t' := s1.toks) fun b o e => Heap.get?_push_of_some _ e, turn_list a _, ⟨_, Heap.get?_push_size _ rfl, rfl, rfl⟩, fun b hb => ?_, q⟩
  have e : b = s1.heap.objs.size := by simpa using hb
  subst e
  exact I1.fpOk (Nat.le_refl _) (I1.hok.fresh (Nat.le_refl _))
theorem pi_tup {l : Expr} {tl : TE} (hl : PE X l tl) : PI X tg l (iTup X.K tl) := by
  intro pins s σ H R I h
  refine thn (hl pins s σ H _ I h) fun v s1 ⟨x, H1, I1, r1, q1⟩ => ?_
  obtain ⟨a, e, ⟨xs, hq⟩, q⟩ := q1
  subst e
  cases r1
  obtain ⟨its, rv, p, hz⟩ := I1.tuple hq
  refine wpAny_pyIter_tuple (show s1.heap.IsTuple a its.toArray from p) ?_
  refine ⟨s1.heap.objs.size, [s1.heap.objs.size], _, _, H1, rfl, I1.kept (t' := s1.toks) fun b o e => Heap.get?_push_of_some _ e, turn_tuple a _, ⟨_, Heap.get?_push_size _ rfl, rfl, rfl⟩, fun b hb => ?_, q⟩
  have e : b = s1.heap.objs.size := by simpa using hb
  subst e
  exact I1.fpOk (Nat.le_refl _) (I1.hok.fresh (Nat.le_refl _))
/-- a range object just made, walked -/
theorem range_it {pins : List (Addr × Obj)} {σ : St} {H : Hp} {s : Shared} {R : It → Hp → Prop} {E : Value → Shared → Prop} {lo hi : Int} {t u v : Tok} {tk : Nat} (I : Inv X pins σ H s) (h1 : -(2 ^ 62) ≤ lo) (h2 : lo < 2 ^ 62) (h3 : -(2 ^ 62) ≤ hi) (h4 : hi < 2 ^ 62)
    (q : R (Itr lo (hi - lo).toNat) H) : wpAny (model X.prog X.w) X.A (pyIter (.ref s.heap.objs.size)) (PIE X pins σ tg R) E { s with heap := s.heap.push { cls := .type "range", data := .fields #[.int lo t, .int hi u, .int 1 v] }, toks := tk } := by
  refine wpAny_pyIter_range (IsRange.new ..) (small_one h1 h2 h3 h4) ?_
  have I1 : Inv X pins σ H { s with heap := s.heap.push { cls := .type "range", data := .fields #[.int lo t, .int hi u, .int 1 v] }, toks := tk } := I.kept fun b o e => Heap.get?_push_of_some _ e
  refine ⟨(s.heap.push { cls := .type "range", data := .fields #[.int lo t, .int hi u, .int 1 v] }).objs.size, [(s.heap.push { cls := .type "range", data := .fields #[.int lo t, .int hi u, .int 1 v] }).objs.size], _, _, H, rfl,
    I1.kept (t' := tk) fun b o e => Heap.get?_push_of_some _ e, turn_range _ lo (hi - lo).toNat, ?_, fun b hb => ?_, q⟩
  · have e1 : lo + ((0 : Nat) : Int) * 1 = lo := by simp
    have e2 : (((hi - lo).toNat : Nat) : Int) - ((0 : Nat) : Int) = Builtin.Range.rangeSize lo hi 1 := by rw [rangeSize_one]; split <;> omega
    show IsRangeIter _ _ (lo + ((0 : Nat) : Int) * 1) ((((hi - lo).toNat : Nat) : Int) - ((0 : Nat) : Int)) 1
    rw [e1, e2]
    exact Heap.get?_push_size _ rfl
  · have e : b = (s.heap.push { cls := .type "range", data := .fields #[.int lo t, .int hi u, .int 1 v] }).objs.size := by simpa using hb
    subst e
    exact I1.fpOk (Nat.le_refl _) (I1.hok.fresh (Nat.le_refl _))
def iRng1 (ta : TA) : TI := fun σ H R => ta σ H fun vs H1 => ∃ j : Int, vs = [.int j] ∧ -(2 ^ 62) ≤ j ∧ j < 2 ^ 62 ∧ R (Itr 0 j.toNat) H1
def iRng2 (ta : TA) : TI := fun σ H R => ta σ H fun vs H1 => ∃ i j : Int, vs = [.int i, .int j] ∧ (-(2 ^ 62) ≤ i ∧ i < 2 ^ 62 ∧ -(2 ^ 62) ≤ j ∧ j < 2 ^ 62) ∧ R (Itr i (j - i).toNat) H1
theorem pi_range1 {a : Expr} {ta : TA} {p pos : Pos} (hg : Gl X "range") (hm : X.mg "range" = none) (ha : PA X [a] ta) (hs : starEach [a] X.env = [(false, eval a X.env)] := by rfl) : PI X tg (.Call (.Name "range" p) [a] [] pos) (iRng1 ta) := by
  intro pins s σ H R I h
  refine Call_ (ld_blt I hg hm boot_range (PyProof.Rows.callWith_type1 (thn (ha pos pins s σ H _ I h) fun us s1 ⟨vs, H1, I1, r1, q1⟩ => ?_) hs rfl))
  obtain ⟨j, e, q1, q2, q⟩ := q1
  subst e
  cases r1 with
  | cons r rr =>
    cases rr
    obtain ⟨t, rfl⟩ := r
    exact call_range_1 (range_it I1 (by omega) (by omega) q1 q2 (by simpa using q))
/-! ### for -/
/-- W: the invariant by the turn and a measure; N: what the body is to reach -/
def tFor (wi : TI) (g : TG) (tb : TS) : TS := fun D σ H => wi σ H fun J H1 => ∃ W : Nat → Nat → St → Hp → Prop, (∃ m, W 0 m σ H1) ∧ ∀ i m σ H, W i m σ H →
  (J.stop i H ∧ D.nx σ H) ∨ (J.go i H ∧ ∃ N : St → Hp → Prop, (∀ σ' H', N σ' H' → ∃ m', m' < m ∧ W (i + 1) m' σ' H') ∧ ∀ x H', J.yld i H x H' → g x σ H' fun σ2 H2 => tb { D with nx := N, ct := N, bk := D.nx } σ2 H2)
/-- the records at fp as they stand -/
def pinsAt (fp : List Addr) (h : Heap) : List (Addr × Obj) := fp.filterMap fun b => (h.get? b).map fun o => (b, o)
theorem mem_pinsAt {fp : List Addr} {h : Heap} {b : Addr} {o : Obj} (hb : b ∈ fp) (e : h.get? b = some o) : (b, o) ∈ pinsAt fp h := List.mem_filterMap.mpr ⟨b, hb, by rw [e]; rfl⟩
theorem of_pinsAt {fp : List Addr} {h : Heap} {p : Addr × Obj} (hp : p ∈ pinsAt fp h) : p.1 ∈ fp ∧ h.get? p.1 = some p.2 := by
  obtain ⟨b, hb, e⟩ := List.mem_filterMap.mp hp
  cases q : h.get? b with
  | none => rw [q] at e; cases e
  | some o =>
    rw [q] at e
    have e' : (b, o) = p := Option.some.inj e
    subst e'
    exact ⟨hb, q⟩
theorem Inv.pinned {pins : List (Addr × Obj)} {σ : St} {H : Hp} {s : Shared} {fp : List Addr} (I : Inv X pins σ H s) (hf : ∀ b ∈ fp, FpOk X pins H b) (ho : ∀ b ∈ fp, ∃ o, s.heap.get? b = some o ∧ ∀ v, o.data ≠ .cell v) : Inv X (pins ++ pinsAt fp s.heap) σ H s :=
  I.pins_of fun p hp => (List.mem_append.mp hp).elim (fun z => I.pin p (List.mem_append_right _ z)) fun z => by
    obtain ⟨hb, e⟩ := of_pinsAt z
    obtain ⟨f0, f1, f2, _⟩ := hf p.1 hb
    obtain ⟨o, e', d⟩ := ho p.1 hb
    rw [e] at e'; cases e'
    exact ⟨e, f0, f1, f2, d⟩
theorem Inv.unpinned {pins pl : List (Addr × Obj)} {σ : St} {H : Hp} {s : Shared} (I : Inv X (pins ++ pl) σ H s) : Inv X pins σ H s := I.pins_of fun p hp => I.pin p (List.mem_append_right _ (List.mem_append_left _ hp))
theorem ps_for {iter : Expr} {body : List Stmt} {wi : TI} {g : TG} {tb : TS} {pos : Pos} (hp : PassesOwn (model X.prog X.w) X.A X.env X.xe) (hc : X.calm = true) (hi : PI X tg iter wi) (hg : PG X tg g) (hb : PSs X body tb)
    (hs : ∀ x, foldedSetIterable iter X.env x = pure x := by intro _; rfl) : PS X (.For tg iter body [] pos) (tFor wi g tb) := by
  intro pins s σ H D I h
  refine wpAny_For (thn (hi pins s σ H _ I h) fun v s1 h1 => thn h1 fun itv s2 h2 => ?_) hs
  obtain ⟨it, fp, tn, J, H2, e, I2, T, st2, f2, W, ⟨m0, w0⟩, turn⟩ := h2
  subst e
  -- what stays true of the iterator's objects through the loop
  have stat : ∀ {H' : Hp}, (∀ b ∈ fp, H' b = none) → ∀ b ∈ fp, FpOk X pins H' b := fun hn b hb => ⟨hn b hb, (f2 b hb).2⟩
  refine codeAny_forLoop_any (fun n s' => ∃ i σ' H', Inv X pins σ' H' s' ∧ tn i s'.heap ∧ (∀ b ∈ fp, H' b = none) ∧ W i n σ' H') ?_ m0 ⟨0, σ, H2, I2, st2, fun b hb => (f2 b hb).1, w0⟩
  rintro n s3 ⟨i, σ3, H3, I3, st3, fr3, w3⟩
  rcases turn i n σ3 H3 w3 with ⟨stop, qn⟩ | ⟨go, N, hN, step⟩
  · refine wpAny_passesOwn hp (thn (T.done X rfl rfl rfl hc i pins s3 σ3 H3 X.xe I3 (stat fr3) st3 stop) fun r s4 ⟨hr, I4⟩ => ?_)
    subst hr
    exact wpAny_execs_nil ⟨σ3, H3, I4, qn⟩
  · refine wpAny_passesOwn hp (thn (T.item X rfl rfl rfl hc i pins s3 σ3 H3 X.xe I3 (stat fr3) st3 go) fun r s4 ⟨u, hr, h4⟩ => ?_)
    subst hr
    refine wpAny_passesOwn hp (thn h4 fun _ s5 ⟨x, H5, I5, r5, y5, st5, fr5⟩ => ?_)
    have I5' := I5.pinned (stat fr5) (T.obj _ _ st5)
    refine wpAny_passesOwn hp (thn (hg _ s5 σ3 H5 x u _ I5' r5 (step x H5 y5)) fun _ s6 ⟨σ6, H6, I6, q6⟩ => ?_)
    refine wpAny_passesOwn hp (thn (hb _ s6 σ6 H6 _ I6 q6) fun f s7 q7 => ?_)
    have again : ∀ {σ7 : St} {H7 : Hp}, Inv X (pins ++ pinsAt fp s5.heap) σ7 H7 s7 → N σ7 H7 → ∃ m, m < n ∧ ∃ i σ' H', Inv X pins σ' H' s7 ∧ tn i s7.heap ∧ (∀ b ∈ fp, H' b = none) ∧ W i m σ' H' := fun {σ7 H7} I7 n7 => by
      obtain ⟨m', hm, w7⟩ := hN σ7 H7 n7
      refine ⟨m', hm, i + 1, σ7, H7, I7.unpinned, T.keep _ _ _ st5 fun b hb o e => (I7.pin (b, o) (List.mem_append_right _ (List.mem_append_right _ (mem_pinsAt hb e)))).1, fun b hb => ?_, w7⟩
      obtain ⟨o, e, d⟩ := T.obj _ _ st5 b hb
      exact (I7.pin (b, o) (List.mem_append_right _ (List.mem_append_right _ (mem_pinsAt hb e)))).2.1
    cases f with
    | next => obtain ⟨σ7, H7, I7, n7⟩ := q7; exact again I7 n7
    | cont => obtain ⟨σ7, H7, I7, n7⟩ := q7; exact again I7 n7
    | brk => obtain ⟨σ7, H7, I7, q7⟩ := q7; exact ⟨σ7, H7, I7.unpinned, q7⟩
    | ret v => obtain ⟨x7, σ7, H7, I7, r7, q7⟩ := q7; exact ⟨x7, σ7, H7, I7.unpinned, r7, q7⟩
end

/-! ### the forms one uses -/
theorem for_tup {K : PySem.W.Frag} {a : Addr} {xs : List V} {g : TG} {tb : TS} {D : Ends} {σ : St} {H : Hp} (Pv : Nat → St → Hp → Prop) (h0 : Pv 0 σ H) (hl : ∀ i σ H, i ≤ xs.length → Pv i σ H → SqT K H a xs)
    (hs : ∀ i x σ H, xs[i]? = some x → Pv i σ H → g x σ H fun σ2 H2 => tb { D with nx := Pv (i + 1), ct := Pv (i + 1), bk := D.nx } σ2 H2) (hd : ∀ σ H, Pv xs.length σ H → D.nx σ H) :
    ∃ W : Nat → Nat → St → Hp → Prop, (∃ m, W 0 m σ H) ∧ ∀ i m σ H, W i m σ H →
      ((Itt K a).stop i H ∧ D.nx σ H) ∨ ((Itt K a).go i H ∧ ∃ N : St → Hp → Prop, (∀ σ' H', N σ' H' → ∃ m', m' < m ∧ W (i + 1) m' σ' H') ∧ ∀ x H', (Itt K a).yld i H x H' → g x σ H' fun σ2 H2 => tb { D with nx := N, ct := N, bk := D.nx } σ2 H2) := by
  refine ⟨fun i m σ H => m = xs.length - i ∧ i ≤ xs.length ∧ Pv i σ H, ⟨xs.length, by simp, Nat.zero_le _, h0⟩, ?_⟩
  rintro i m σ H ⟨rfl, hi, p⟩
  have q := hl i σ H hi p
  by_cases hlt : i < xs.length
  · refine .inr ⟨⟨xs, xs[i], q, by simp [hlt]⟩, Pv (i + 1), fun σ' H' p' => ⟨xs.length - (i + 1), by omega, rfl, hlt, p'⟩, fun x H' y => ?_⟩
    obtain ⟨e, y⟩ := y
    subst e
    exact hs i x σ _ (y xs q) p
  · have e : i = xs.length := by omega
    subst e
    exact .inl ⟨⟨xs, q, Nat.le_refl _⟩, hd σ H p⟩
end L2

namespace L2
open PySem PySem.Spec PyProof.Rows

abbrev R2 := V → V → Hp → VK → Prop
/-- a two-place operation on values: f is binaryOp op, inplaceOp op or compareOp op -/
def OpR (X : Cx) (f : Value → Value → Sem Value) (r : R2) : Prop :=
  ∀ (pins : List (Addr × Obj)) (s : Shared) (σ : St) (H : Hp) (x y : V) (v u : Value) (Q : VK), Inv X pins σ H s → RelV x v → RelV y u → r x y H Q →
    wpAny (model X.prog X.w) X.A (f v u) (EP X pins σ Q) X.xe s
/-- a one-place operation -/
def UnR (X : Cx) (f : Value → Sem Value) (r : V → Hp → VK → Prop) : Prop :=
  ∀ (pins : List (Addr × Obj)) (s : Shared) (σ : St) (H : Hp) (x : V) (v : Value) (Q : VK), Inv X pins σ H s → RelV x v → r x H Q →
    wpAny (model X.prog X.w) X.A (f v) (EP X pins σ Q) X.xe s
/-- a call of a value that is known (a builtin, a type) with values -/
def CallR (X : Cx) (f : Value) (r : List V → Hp → VK → Prop) : Prop :=
  ∀ (pins : List (Addr × Obj)) (s : Shared) (σ : St) (H : Hp) (xs : List V) (us : List Value) (Q : VK), Inv X pins σ H s → Vals xs us → r xs H Q →
    wpAny (model X.prog X.w) X.A (call f us) (EP X pins σ Q) X.xe s
/-- a value's truth -/
def TruR (X : Cx) (r : V → Hp → (Bool → Hp → Prop) → Prop) : Prop :=
  ∀ (pins : List (Addr × Obj)) (s : Shared) (σ : St) (H : Hp) (x : V) (v : Value) (Q : Bool → Hp → Prop), Inv X pins σ H s → RelV x v → r x H Q →
    wpAny (model X.prog X.w) X.A (truthy v) (TP X pins σ Q) X.xe s

def tOp (r : R2) (ta tb : TE) : TE := fun σ H Q => ta σ H fun x H1 => tb σ H1 fun y H2 => r x y H2 Q
def tUn (r : V → Hp → VK → Prop) (ta : TE) : TE := fun σ H Q => ta σ H fun x H1 => r x H1 Q
/-- ints in, under C, and a value out -/
def rI (C : Int → Int → Prop) (g : Int → Int → V) : R2 := fun x y H Q => ∃ i j, x = .int i ∧ y = .int j ∧ C i j ∧ Q (g i j) H
def rI0 (g : Int → Int → V) : R2 := fun x y H Q => ∃ i j, x = .int i ∧ y = .int j ∧ Q (g i j) H
def rU (g : Int → V) : V → Hp → VK → Prop := fun x H Q => ∃ i, x = .int i ∧ Q (g i) H

section
variable {X : Cx} {a b c : Expr} {ta tb tc : TE} {pos : Pos}

theorem binT (ha : PE X a ta) (hb : PE X b tb) {pins : List (Addr × Obj)} {s : Shared} {σ : St} {H : Hp} {R : V → V → Hp → Prop} (I : Inv X pins σ H s)
    (h : ta σ H fun x H1 => tb σ H1 fun y H2 => R x y H2) {Q : Value → Shared → Prop} {f : Value → Value → Sem Value}
    (hf : ∀ v u s2 x y H2, Inv X pins σ H2 s2 → RelV x v → RelV y u → R x y H2 → wpAny (model X.prog X.w) X.A (f v u) Q X.xe s2) :
    wpAny (model X.prog X.w) X.A (eval a X.env) (fun v s₁ => wpAny (model X.prog X.w) X.A (eval b X.env) (fun u s₂ => wpAny (model X.prog X.w) X.A (f v u) Q X.xe s₂) X.xe s₁) X.xe s := by
  refine thn (ha pins s σ H _ I h) fun v s1 ⟨x, H1, I1, r1, q1⟩ => ?_
  refine thn (hb pins s1 σ H1 _ I1 q1) fun u s2 ⟨y, H2, I2, r2, q2⟩ => ?_
  exact hf v u s2 x y H2 I2 r1 r2 q2

theorem pe_op {op : Operator} {r : R2} (ho : OpR X (binaryOp op) r) (ha : PE X a ta) (hb : PE X b tb) : PE X (.BinOp a op b pos) (tOp r ta tb) := by
  intro pins s σ H Q I h
  exact wpAny_BinOp (binT ha hb I h fun v u s2 x y H2 I2 rx ry q => ho pins s2 σ H2 x y v u Q I2 rx ry q)
/-! ### ints -/
theorem opI {f : Value → Value → Sem Value} {C : Int → Int → Prop} {g : Int → Int → Int}
    (rule : ∀ (i j : Int) (t u : Tok) (s : Shared) (Q : Value → Shared → Prop) (E : Value → Shared → Prop), C i j → Q (.int (g i j) s.toks) { s with toks := s.toks + 1 } → wpAny (model X.prog X.w) X.A (f (.int i t) (.int j u)) Q E s) :
    OpR X f (rI C fun i j => .int (g i j)) := by
  intro pins s σ H x y v u Q I rx ry h
  obtain ⟨i, j, rfl, rfl, hc, q⟩ := h
  obtain ⟨t, rfl⟩ := rx
  obtain ⟨t', rfl⟩ := ry
  exact rule i j t t' s _ _ hc ⟨.int (g i j), H, I.tok _, ⟨_, rfl⟩, q⟩
theorem opI0 {f : Value → Value → Sem Value} {g : Int → Int → Int}
    (rule : ∀ (i j : Int) (t u : Tok) (s : Shared) (Q : Value → Shared → Prop) (E : Value → Shared → Prop), Q (.int (g i j) s.toks) { s with toks := s.toks + 1 } → wpAny (model X.prog X.w) X.A (f (.int i t) (.int j u)) Q E s) :
    OpR X f (rI0 fun i j => .int (g i j)) := by
  intro pins s σ H x y v u Q I rx ry h
  obtain ⟨i, j, rfl, rfl, q⟩ := h
  obtain ⟨t, rfl⟩ := rx
  obtain ⟨t', rfl⟩ := ry
  exact rule i j t t' s _ _ ⟨.int (g i j), H, I.tok _, ⟨_, rfl⟩, q⟩
theorem opB0 {f : Value → Value → Sem Value} {g : Int → Int → Bool}
    (rule : ∀ (i j : Int) (t u : Tok) (s : Shared) (Q : Value → Shared → Prop) (E : Value → Shared → Prop), Q (.bool (g i j)) s → wpAny (model X.prog X.w) X.A (f (.int i t) (.int j u)) Q E s) :
    OpR X f (rI0 fun i j => .bl (g i j)) := by
  intro pins s σ H x y v u Q I rx ry h
  obtain ⟨i, j, rfl, rfl, q⟩ := h
  obtain ⟨t, rfl⟩ := rx
  obtain ⟨t', rfl⟩ := ry
  exact rule i j t t' s _ _ ⟨.bl (g i j), H, I, rfl, q⟩

def CDiv (i j : Int) : Prop := 0 < j ∧ j < 1073741824
def CDivN (i j : Int) : Prop := j ≠ 0 ∧ j.natAbs < 1073741824
def CPow (i j : Int) : Prop := 0 ≤ j ∧ j ≤ 1000000 ∧ i.natAbs < 2 ^ 64
def CMul (i j : Int) : Prop := (-(2 ^ 64) < i ∧ i < 2 ^ 64) ∨ (-(2 ^ 64) < j ∧ j < 2 ^ 64)
theorem CMul.ok {i j : Int} (h : CMul i j) : IntMulOk i j := by
  rcases h with ⟨h1, h2⟩ | ⟨h1, h2⟩
  · exact .of_left (intBits_le_64 h1 h2)
  · exact .of_right (intBits_le_64 h1 h2)
theorem op_add : OpR X (binaryOp .Add) (rI0 fun i j => .int (i + j)) := opI0 fun _ _ _ _ _ _ _ q => add_int q
theorem op_sub : OpR X (binaryOp .Sub) (rI0 fun i j => .int (i - j)) := opI0 fun _ _ _ _ _ _ _ q => sub_int q
theorem op_mul : OpR X (binaryOp .Mult) (rI CMul fun i j => .int (i * j)) := opI fun _ _ _ _ _ _ _ hc q => mul_int q hc.ok
/-- // by a positive divisor -/
theorem op_fdiv : OpR X (binaryOp .FloorDiv) (rI CDiv fun i j => .int (i / j)) := opI fun i j _ _ _ _ _ hc q => by
  have h1 : (0 : Int) < j := hc.1
  have h2 : j < 1073741824 := hc.2
  exact floordiv_int (by omega) (by rw [Int.fdiv_eq_ediv_of_nonneg i (by omega)]; exact q) (.inl (PyProof.noPylong_small (by omega)))
/-- % by a positive divisor of any size -/
theorem op_mod : OpR X (binaryOp .Mod) (rI (fun _ j => 0 < j) fun i j => .int (i % j)) := opI fun i j _ _ _ _ _ hc q => by
  have h1 : (0 : Int) < j := hc
  exact mod_int' (by omega) (by rw [Int.fmod_eq_emod_of_nonneg i (by omega)]; exact q)
theorem op_pow : OpR X (binaryOp .Pow) (rI CPow fun i j => .int (i ^ j.toNat)) := opI fun _ _ _ _ _ _ _ hc q => pow_int_small hc.1 hc.2.1 hc.2.2 q
/-! ### bools among ints: n += (a < b) -/
end

/-! ### comparisons -/
/-- the scalars that == tells apart as data does -/
def scal : V → V → Bool
  | .non, .non => true | .non, .int _ => true | .int _, .non => true | .non, .bl _ => true | .bl _, .non => true | .non, .str _ => true | .str _, .non => true
  | .int _, .int _ => true | .bl _, .bl _ => true | .str _, .str _ => true | .byt _, .byt _ => true
  | .int _, .str _ => true | .str _, .int _ => true | .bl _, .str _ => true | .str _, .bl _ => true
  | _, _ => false
def rEq : R2 := fun x y H Q => scal x y = true ∧ Q (.bl (decide (x = y))) H
def rNe : R2 := fun x y H Q => scal x y = true ∧ Q (.bl (!decide (x = y))) H

theorem dec_int {i j : Int} : decide (V.int i = V.int j) = (i == j) := by
  rw [Bool.eq_iff_iff]
  simp
theorem dec_bl {i j : Bool} : decide (V.bl i = V.bl j) = (i == j) := by
  rw [Bool.eq_iff_iff]
  simp
theorem dec_str {i j : Str} : decide (V.str i = V.str j) = (i == j) := by
  rw [Bool.eq_iff_iff]
  simp
theorem dec_byt {i j : Array UInt8} : decide (V.byt i = V.byt j) = (i.toList == j.toList) := by
  rw [Bool.eq_iff_iff]
  cases i
  cases j
  simp

section
variable {X : Cx} {a b c : Expr} {ta tb tc : TE} {pos : Pos}
theorem fin_bl {pins : List (Addr × Obj)} {σ : St} {H : Hp} {s : Shared} {Q : VK} {k k' : Bool} (I : Inv X pins σ H s) (q : Q (.bl k) H) (e : k = k') : EP X pins σ Q (.bool k') s := by
  subst e
  exact ⟨.bl k, H, I, rfl, q⟩
theorem op_eq : OpR X (compareOp .Eq) rEq := by
  intro pins s σ H x y v u Q I rx ry h
  obtain ⟨hs, q⟩ := h
  cases x with
  | non =>
    cases rx
    cases y with
    | non => cases ry; exact PySem.EqNone.eq_none_none (fin_bl I q (by simp))
    | bl j => cases ry; exact PySem.EqNone.eq_none_bool (fin_bl I q (by simp))
    | int j => obtain ⟨t', rfl⟩ := ry; exact PySem.EqNone.eq_none_int (fin_bl I q (by simp))
    | str j => obtain ⟨t', rfl⟩ := ry; exact PySem.EqNone.eq_none_str (fin_bl I q (by simp))
    | _ => exact absurd (show false = true from hs) Bool.false_ne_true
  | bl i =>
    cases rx
    cases y with
    | non => cases ry; exact PySem.EqNone.eq_bool_none (fin_bl I q (by simp))
    | bl j => cases ry; exact eq_bool (fin_bl I q dec_bl)
    | str j => obtain ⟨t', rfl⟩ := ry; exact PySem.EqMixed.eq_bool_str (fin_bl I q (by simp))
    | _ => exact absurd (show false = true from hs) Bool.false_ne_true
  | int i =>
    obtain ⟨t, rfl⟩ := rx
    cases y with
    | non => cases ry; exact PySem.EqNone.eq_int_none (fin_bl I q (by simp))
    | int j => obtain ⟨t', rfl⟩ := ry; exact eq_int (fin_bl I q dec_int)
    | str j => obtain ⟨t', rfl⟩ := ry; exact PySem.EqMixed.eq_int_str (fin_bl I q (by simp))
    | _ => exact absurd (show false = true from hs) Bool.false_ne_true
  | str i =>
    obtain ⟨t, rfl⟩ := rx
    cases y with
    | non => cases ry; exact PySem.EqNone.eq_str_none (fin_bl I q (by simp))
    | bl j => cases ry; exact PySem.EqMixed.eq_str_bool (fin_bl I q (by simp))
    | int j => obtain ⟨t', rfl⟩ := ry; exact PySem.EqMixed.eq_str_int (fin_bl I q (by simp))
    | str j => obtain ⟨t', rfl⟩ := ry; exact eq_str (fin_bl I q dec_str)
    | _ => exact absurd (show false = true from hs) Bool.false_ne_true
  | byt i =>
    obtain ⟨t, rfl⟩ := rx
    cases y with
    | byt j => obtain ⟨t', rfl⟩ := ry; exact PySem.W.eq_bytes (fin_bl I q dec_byt)
    | _ => exact absurd (show false = true from hs) Bool.false_ne_true
  | _ => cases y <;> exact absurd (show false = true from hs) Bool.false_ne_true
theorem op_ne : OpR X (compareOp .NotEq) rNe := by
  intro pins s σ H x y v u Q I rx ry h
  obtain ⟨hs, q⟩ := h
  cases x with
  | non =>
    cases rx
    cases y with
    | non => cases ry; exact PySem.EqNone.ne_none_none (fin_bl I q (by simp))
    | bl j => cases ry; exact PySem.EqNone.ne_none_bool (fin_bl I q (by simp))
    | int j => obtain ⟨t', rfl⟩ := ry; exact PySem.EqNone.ne_none_int (fin_bl I q (by simp))
    | str j => obtain ⟨t', rfl⟩ := ry; exact PySem.EqNone.ne_none_str (fin_bl I q (by simp))
    | _ => exact absurd (show false = true from hs) Bool.false_ne_true
  | bl i =>
    cases rx
    cases y with
    | non => cases ry; exact PySem.EqNone.ne_bool_none (fin_bl I q (by simp))
    | bl j => cases ry; exact ne_bool (fin_bl I q (congrArg not dec_bl))
    | str j => obtain ⟨t', rfl⟩ := ry; exact PySem.EqMixed.ne_bool_str (fin_bl I q (by simp))
    | _ => exact absurd (show false = true from hs) Bool.false_ne_true
  | int i =>
    obtain ⟨t, rfl⟩ := rx
    cases y with
    | non => cases ry; exact PySem.EqNone.ne_int_none (fin_bl I q (by simp))
    | int j => obtain ⟨t', rfl⟩ := ry; exact ne_int (fin_bl I q (congrArg not dec_int))
    | str j => obtain ⟨t', rfl⟩ := ry; exact PySem.EqMixed.ne_int_str (fin_bl I q (by simp))
    | _ => exact absurd (show false = true from hs) Bool.false_ne_true
  | str i =>
    obtain ⟨t, rfl⟩ := rx
    cases y with
    | non => cases ry; exact PySem.EqNone.ne_str_none (fin_bl I q (by simp))
    | bl j => cases ry; exact PySem.EqMixed.ne_str_bool (fin_bl I q (by simp))
    | int j => obtain ⟨t', rfl⟩ := ry; exact PySem.EqMixed.ne_str_int (fin_bl I q (by simp))
    | str j => obtain ⟨t', rfl⟩ := ry; exact ne_str (fin_bl I q (congrArg not dec_str))
    | _ => exact absurd (show false = true from hs) Bool.false_ne_true
  | byt i =>
    obtain ⟨t, rfl⟩ := rx
    cases y with
    | byt j => obtain ⟨t', rfl⟩ := ry; exact PySem.W.ne_bytes (fin_bl I q (congrArg not dec_byt))
    | _ => exact absurd (show false = true from hs) Bool.false_ne_true
  | _ => cases y <;> exact absurd (show false = true from hs) Bool.false_ne_true

theorem op_lt : OpR X (compareOp .Lt) (rI0 fun i j => .bl (decide (i < j))) := opB0 fun _ _ _ _ _ _ _ q => lt_int q
/-- is None, is not None: the right side a value none -/
theorem op_isN : OpR X (compareOp .Is) (fun x y H Q => y = .non ∧ Q (.bl (decide (x = .non))) H) := by
  intro pins s σ H x y v u Q I rx ry h
  obtain ⟨rfl, q⟩ := h
  cases ry
  refine is_none_gen (fin_bl I q ?_)
  cases x <;> first
    | (cases rx; rfl)
    | (obtain ⟨t, rfl⟩ := rx; rfl)
/-- is, is not of two objects that are tracked lists or instances -/
def isObj : HO → Bool
  | .lst _ => true
  | .ins _ _ _ => true
  | _ => false
theorem nomark (b : Expr) {op : CmpOp} (h : op ≠ .In := by decide) (h2 : op ≠ .NotIn := by decide) : behindInMarks op b = false := by
  have e1 : (op == CmpOp.In) = false := by cases op <;> first | rfl | exact absurd rfl h
  have e2 : (op == CmpOp.NotIn) = false := by cases op <;> first | rfl | exact absurd rfl h2
  cases b <;> simp [behindInMarks, e1, e2]
/-- a comparison as a value; hm: nomark b, or (for in, not in) by with_unfolding_all rfl -/
theorem pe_cmpR {op : CmpOp} {r : R2} (ho : OpR X (compareOp op) r) (ha : PE X a ta) (hb : PE X b tb) (hm : behindInMarks op b = false) : PE X (.Compare a [op] [b] pos) (tOp r ta tb) := by
  intro pins s σ H Q I h
  exact wpAny_Compare1 (binT ha hb I h fun v u s2 x y H2 I2 rx ry q => ho pins s2 σ H2 x y v u Q I2 rx ry q) hm
/-- a reading of a value as a test -/
def tTest (t : TE) : TT := fun σ H Q => t σ H fun x H' => ∃ k, x = .bl k ∧ Q k H'
theorem pt_cmpR {op : CmpOp} {r : R2} (ho : OpR X (compareOp op) r) (ha : PE X a ta) (hb : PE X b tb) (hm : behindInMarks op b = false) : PT X (.Compare a [op] [b] pos) (tTest (tOp r ta tb)) := by
  intro pins s σ H Q I h
  refine wpAny_isTrue_Compare1 (thn (ha pins s σ H _ I h) fun v s1 ⟨x, H1, I1, r1, q1⟩ => thn (hb pins s1 σ H1 _ I1 q1) fun u s2 ⟨y, H2, I2, r2, q2⟩ =>
    thn (ho pins s2 σ H2 x y v u _ I2 r1 r2 q2) fun c s3 ⟨z, H3, I3, r3, k, e, q3⟩ => ?_) hm
  subst e
  cases r3
  exact wpAny_truthy_bool ⟨H3, I3, q3⟩
/-- a op1 b op2 c -/
def tChain (r r' : R2) (ta tb tc : TE) : TE := fun σ H Q => ta σ H fun x H1 => tb σ H1 fun y H2 => r x y H2 fun z H3 => ∃ k, z = .bl k ∧
  (if k = true then tc σ H3 fun w' H4 => r' y w' H4 Q else Q (.bl false) H3)
/-! ### truth -/
/-- a value's truth by the abstract heap -/
def TruV (K : PySem.W.Frag) (x : V) (H : Hp) (k : Bool) : Prop :=
  match x with
  | .non => k = false
  | .bl b => k = b
  | .int i => k = (i != 0)
  | .str y => y.length ≤ sizeLine ∧ k = ((y.length : Int) != 0)
  | .byt y => y.size ≤ sizeLine ∧ k = ((y.size : Int) != 0)
  | .ref p => (∃ xs, SqL K H p xs ∧ k = !xs.isEmpty) ∨ (∃ xs, SqT K H p xs ∧ k = !xs.isEmpty) ∨ ∃ kvs, H p = some (.dK kvs) ∧ k = !kvs.isEmpty
  | _ => False
theorem line63 : (sizeLine : Nat) < 2 ^ 63 := by rw [sizeLine_eq]; decide
/-! ### strs and bytes -/
def PlainIxT (b : Expr) : Prop := ∀ o i, subscripted b false o i = operate [o, i] (getItem o i)
/-! ### scalar builtins, by CallR -/
theorem vals1 {x : V} {us : List Value} (r : Vals [x] us) : ∃ u, us = [u] ∧ RelV x u := by
  cases r with
  | cons r1 r2 => cases r2; exact ⟨_, rfl, r1⟩
theorem vals2 {x y : V} {us : List Value} (r : Vals [x, y] us) : ∃ u w', us = [u, w'] ∧ RelV x u ∧ RelV y w' := by
  cases r with
  | cons r1 r2 =>
    cases r2 with
    | cons r3 r4 => cases r4; exact ⟨_, _, rfl, r1, r3⟩
/-- len of a str, a bytes, a list, a tuple -/
def LenV (K : PySem.W.Frag) (x : V) (H : Hp) (n : Nat) : Prop :=
  match x with
  | .str y => y.length ≤ sizeLine ∧ n = y.length
  | .byt y => y.size ≤ sizeLine ∧ n = y.size
  | .ref p => (∃ xs, SqL K H p xs ∧ n = xs.length) ∨ ∃ xs, SqT K H p xs ∧ n = xs.length
  | _ => False
end
end L2

namespace L2
open PySem PySem.Spec PyProof.Rows

/-! ### an instance, its attributes a map -/
structure ObjM (h : Heap) (x dx C : Addr) (mA : Str → Option Value) : Prop where
  obj : h.get? x = some (PySem.W.instObj C dx)
  ns : h.Ns1 dx mA
  ne : dx ≠ x

theorem lookIn_ns {h : Heap} {dx : Addr} {mA : Str → Option Value} (n : h.Ns1 dx mA) : ∃ od, h.get? dx = some od ∧ ∀ name, PySem.W.lookIn name od = some (mA name) := by
  obtain ⟨o, es, ep, ho, hd, hk, _, hm⟩ := n
  refine ⟨o, ho, fun name => ?_⟩
  have e := hm name
  unfold nsFind findBy at e
  rw [← Array.find?_toList] at e
  unfold PySem.W.lookIn
  rw [hd]
  dsimp only
  split
  · rename_i y q
    rw [q] at e
    exact congrArg some e
  · rename_i q
    rw [q] at e
    have a : es.toList.any (·.refKey) = false := by
      rw [List.any_eq_false]
      intro y hy
      obtain ⟨z, t, hkey⟩ := hk y (Array.mem_toList_iff.mp hy)
      simp [DictEntry.refKey, hkey]
    have a' : ¬ es.toList.any (·.refKey) = true := by rw [a]; exact Bool.false_ne_true
    rw [if_neg a']
    exact congrArg some e

theorem ObjM.look {h : Heap} {x dx C : Addr} {mA : Str → Option Value} (I : ObjM h x dx C mA) : ∃ od, PySem.W.InstAt h x (PySem.W.instObj C dx) C (some od) ∧ ∀ name, PySem.W.lookIn name od = some (mA name) :=
  let ⟨od, ho, hl⟩ := lookIn_ns I.ns
  ⟨od, ⟨I.obj, rfl, rfl, ho⟩, hl⟩

section
variable {prog : Program} {w : World} {A : Around} {E : Value → Shared → Prop} {s : Shared} {K : PySem.W.Frag} {x dx C f : Addr} {mA : Str → Option Value} {name : Str} {v : Value}

theorem get_map {expr : Bool} {Q : Value → Shared → Prop} (X : K.In s.heap) (I : ObjM s.heap x dx C mA) (hg : PySem.W.plainGet K C name = true) (hh : PySem.W.hasDictIn K C = true)
    (ha : PySem.W.findIn K (.ref C) name = some none) (hv : mA name = some v) (hv' : PySem.W.handedIn v = true) (h : Q v { s with toks := s.toks + 1 }) :
    wpAny (model prog w) A (getAttr (.ref x) name expr) Q E s := by
  obtain ⟨od, J, hl⟩ := I.look
  exact PySem.W.get_value X J (PySem.W.plainGet_of hg).1 (PySem.W.findObj_own hh ha rfl (by rw [hl, hv])) hv' h

theorem get_meth {pl : Sem Bool} {Q : Value × List Value → Shared → Prop} (X : K.In s.heap) (I : ObjM s.heap x dx C mA) (hg : PySem.W.plainGet K C name = true)
    (hf : PySem.W.findIn K (.ref C) name = some (some (.ref f))) (ht : PySem.W.isFn K (.ref f) = true) (hv : mA name = none) (h : Q (.ref f, [.ref x]) s) :
    wpAny (model prog w) A (getMethod (.ref x) name pl) Q E s := by
  obtain ⟨od, J, hl⟩ := I.look
  exact PySem.W.method_fn X J (PySem.W.plainGet_of hg).1 (PySem.W.plainGet_of hg).2 hf (beq_iff_eq.mp ht) (by show (PySem.W.lookIn name od).map (·.isSome) = some false; rw [hl, hv]; rfl) h

theorem set_map {ns : List Str} {Q : Unit → Shared → Prop} (X : K.In s.heap) (I : ObjM s.heap x dx C mA)
    (hs : PySem.W.findIn K (.ref C) "__setattr__" = some (some (.builtin "object.__setattr__"))) (hp : PySem.W.plainOver K C = true) (ht : PySem.W.takerIn K C name = some none) (hh : PySem.W.hasDictIn K C = true)
    (hw : PySem.Within mA ns) (hsz : ns.length ≤ sizeLine)
    (h : ∀ h', ObjM h' x dx C (fun y => if y = name then some v else mA y) → Heap.SameBut dx s.heap h' → Q () { s with heap := h', toks := s.toks + 2 }) :
    wpAny (model prog w) A (setAttr (.ref x) name v) Q E s := by
  obtain ⟨od, J, hl⟩ := I.look
  refine PySem.W.set_plain X J hs (PySem.W.osa_open (s := { s with toks := s.toks + 1 }) (r := none) X J hp ht fun b => ?_)
  obtain ⟨cd, hc, hd'⟩ := PySem.W.any_some hh
  have hx : s.heap.get? x = some ⟨.ref C, some dx, .plain, #[]⟩ := I.obj
  refine wpAny_bind (wpAny_pure (wpAny_bind (wpAny_bind (wpAny_loadPart hx (wpAny_bind (PySem.W.Looks.here (s := { s with toks := s.toks + 1 }) (PySem.W.looks_clsIn X hc) ?_))))))
  rw [hd']
  refine wpAny_pure (a := some dx) (wpAny_bind (wpAny_pure (wpAny_bind ?_)))
  refine wpAny_nsSet1 (s := { s with toks := s.toks + 1 }) I.ns fun h' hn2 hs2 => ?_
  obtain ⟨oD, esD, epD, hoD, hdD, hcD⟩ := hn2.count (PySem.Within.cons name v hw)
  refine wpAny_bind (wpAny_lookBehind hoD (by rw [hdD]; exact pastItsLine_dict (Nat.le_trans hcD (by rw [List.length_cons]; omega))) ?_)
  exact wpAny_pure (h _ ⟨(hs2.2 _ (Ne.symm I.ne)).trans I.obj, hn2, I.ne⟩ hs2)

/-- C(..): the dict at the heap's end, the instance behind it; then its __init__ -/
theorem make_map {R : Result → Shared → Prop} {vs : List Value} {kw : List (Str × Value)} (X : K.In s.heap) (hm : PySem.W.makesIn K C = true)
    (hi : PySem.W.findIn K (.ref C) "__init__" = some (some (.ref f))) (hf : PySem.W.typeIn K (.ref f) = some (.type "function"))
    (h : codeAny (model prog w) (A.under (.builtin "type.__call__" ⟨.ref C :: vs, kw⟩)) (.call (.ref f) ⟨.ref (s.heap.objs.size + 1) :: vs, kw⟩) (PySem.W.InitBack (s.heap.objs.size + 1) R)
      { s with heap := (s.heap.push PySem.W.emptyDict).push (PySem.W.instObj C s.heap.objs.size) }) :
    codeAny (model prog w) A (.call (.ref C) ⟨vs, kw⟩) R s := by
  obtain ⟨hh, g, d, t, os⟩ := s
  exact PySem.W.make_core (PySem.W.makes_of X hm) (PySem.W.looks_findIn X hi) (fun self => PySem.W.bind_fn X self hf) (.inl rfl) h
end

/-! ### the attributes as a list of pairs -/
def putF (f : Str) (v : V) : List (Str × V) → List (Str × V)
  | [] => [(f, v)]
  | (g, x) :: r => if g = f then (g, v) :: r else (g, x) :: putF f v r
theorem lookup_putF (f g : Str) (v : V) : ∀ fs : List (Str × V), (putF f v fs).lookup g = if g = f then some v else fs.lookup g
  | [] => by
    show List.lookup g [(f, v)] = _
    by_cases h : g = f
    · have hb : (g == f) = true := beq_iff_eq.mpr h
      simp only [List.lookup, hb, if_pos h]
    · have hb : (g == f) = false := beq_eq_false_iff_ne.mpr h
      simp only [List.lookup, hb, if_neg h]
  | (k, x) :: r => by
    have ih := lookup_putF f g v r
    rw [show putF f v ((k, x) :: r) = (if k = f then (k, v) :: r else (k, x) :: putF f v r) from rfl]
    by_cases hk : k = f
    · rw [if_pos hk]
      by_cases h : g = k
      · have hb : (g == k) = true := beq_iff_eq.mpr h
        simp only [List.lookup, hb, if_pos (h.trans hk)]
      · have hb : (g == k) = false := beq_eq_false_iff_ne.mpr h
        simp only [List.lookup, hb, if_neg (fun e : g = f => h (e.trans hk.symm))]
    · rw [if_neg hk]
      by_cases h : g = k
      · have hb : (g == k) = true := beq_iff_eq.mpr h
        simp only [List.lookup, hb, if_neg (fun e : g = f => hk (h.symm.trans e))]
      · have hb : (g == k) = false := beq_eq_false_iff_ne.mpr h
        simp only [List.lookup, hb]
        exact ih
theorem keys_putF (f : Str) (v : V) : ∀ fs : List (Str × V), f ∈ (putF f v fs).map (·.1) ∧ ∀ g, g ∈ fs.map (·.1) → g ∈ (putF f v fs).map (·.1)
  | [] => ⟨by simp [putF], fun g h => by simp at h⟩
  | (k, x) :: r => by
    obtain ⟨i1, i2⟩ := keys_putF f v r
    rw [show putF f v ((k, x) :: r) = (if k = f then (k, v) :: r else (k, x) :: putF f v r) from rfl]
    by_cases hk : k = f
    · rw [if_pos hk]
      subst hk
      exact ⟨by simp, fun g h => by simpa using h⟩
    · rw [if_neg hk]
      refine ⟨?_, fun g h => ?_⟩
      · rw [List.map_cons]
        exact List.mem_cons_of_mem _ i1
      · rw [List.map_cons] at h ⊢
        rcases List.mem_cons.mp h with e | e
        · exact List.mem_cons.mpr (.inl e)
        · exact List.mem_cons_of_mem _ (i2 g e)
theorem length_putF (f : Str) (v : V) : ∀ fs : List (Str × V), (putF f v fs).length ≤ fs.length + 1
  | [] => by simp [putF]
  | (k, x) :: r => by
    have ih := length_putF f v r
    rw [show putF f v ((k, x) :: r) = (if k = f then (k, v) :: r else (k, x) :: putF f v r) from rfl]
    by_cases hk : k = f
    · rw [if_pos hk, List.length_cons, List.length_cons]; omega
    · rw [if_neg hk, List.length_cons, List.length_cons]; omega

theorem RelO.some_of {v : V} {o : Option Value} (r : RelO (some v) o) : ∃ u, o = some u ∧ RelV v u := by
  cases o with
  | none => exact (show False from r).elim
  | some u => exact ⟨u, rfl, r⟩
theorem RelO.none_of {o : Option Value} (r : RelO none o) : o = none := by
  cases o with
  | none => rfl
  | some u => exact (show False from r).elim
theorem handed_of {v : V} {u : Value} (r : RelV v u) : PySem.W.handedIn u = true := by
  cases v with
  | non => cases (show u = Value.none from r); rfl
  | bl b => cases (show u = Value.bool b from r); rfl
  | int i => obtain ⟨t, e⟩ := (show ∃ t, u = Value.int i t from r); cases e; rfl
  | str x => obtain ⟨t, e⟩ := (show ∃ t, u = Value.str x t from r); cases e; rfl
  | byt b => obtain ⟨t, e⟩ := (show ∃ t, u = Value.bytes b t from r); cases e; rfl
  | flt b => obtain ⟨t, e⟩ := (show ∃ t, u = Value.float b t from r); cases e; rfl
  | ref a => cases (show u = Value.ref a from r); rfl
  | ty n => cases (show u = Value.type n from r); rfl

section
variable {P : Program} {w : World} {H H' : Hp} {h h' : Heap} {a C dx : Addr} {fs fs' : List (Str × V)}
theorem ins_get (hok : HOk P w H h) (e : H a = some (.ins C dx fs)) : ∃ mA, ObjM h a dx C mA ∧ (∀ f, RelO (fs.lookup f) (mA f)) ∧ PySem.Within mA (fs.map (·.1)) ∧ fs.length ≤ 1000 ∧ H dx = some (.own a) := by
  obtain ⟨d, z, ne, ob, mA, n, r, q⟩ := (show ObjOk P w H h a (.ins C dx fs) from hok a _ e)
  exact ⟨mA, ⟨ob, n, ne⟩, r, q, z, d⟩
end

/-! ### what of the text a class must have -/
structure Cls (K : PySem.W.Frag) (C : Addr) : Prop where
  pg : PySem.W.plainGet K C Str.empty = true
  hd : PySem.W.hasDictIn K C = true
  po : PySem.W.plainOver K C = true
  sa : PySem.W.findIn K (.ref C) "__setattr__" = some (some (.builtin "object.__setattr__"))
theorem Cls.get {K : PySem.W.Frag} {C : Addr} (c : Cls K C) (f : Str) : PySem.W.plainGet K C f = true := c.pg
/-- no class of it has the name -/
def NoAttr (K : PySem.W.Frag) (C : Addr) (f : Str) : Prop := PySem.W.findIn K (.ref C) f = some none
theorem NoAttr.taker {K : PySem.W.Frag} {C : Addr} {f : Str} (n : NoAttr K C f) : PySem.W.takerIn K C f = some none := by
  unfold PySem.W.takerIn
  rw [show PySem.W.findIn K (.ref C) f = some none from n]
  rfl
/-- a constant of the class -/
structure Con (K : PySem.W.Frag) (C : Addr) (f : Str) (v : V) (u : Value) : Prop where
  at_ : PySem.W.findIn K (.ref C) f = some (some u)
  rel : RelV v u
  get : PySem.W.specialIn K u "__get__" = some none
  cp : PySem.W.copiedNames.contains f = false
/-- a method: a plain def of the class or of one above it -/
structure Meth (K : PySem.W.Frag) (C : Addr) (m : Str) (f : Addr) : Prop where
  at_ : PySem.W.findIn K (.ref C) m = some (some (.ref f))
  fn : PySem.W.isFn K (.ref f) = true
  kp : PySem.W.keepIn K (.ref f) = true

section
variable {X : Cx} {pins : List (Addr × Obj)} {σ : St} {H : Hp} {s : Shared} {a C dx : Addr} {fs : List (Str × V)} {f : Str} {v : V} {A : Around} {E : Value → Shared → Prop}

theorem getattr_ok {b : Bool} {Q : Value → Shared → Prop} (I : Inv X pins σ H s) (e : H a = some (.ins C dx fs)) (c : Cls X.K C) (n : NoAttr X.K C f) (l : fs.lookup f = some v)
    (h : ∀ u s', Inv X pins σ H s' → RelV v u → Q u s') : wpAny (model X.prog X.w) A (getAttr (.ref a) f b) Q E s := by
  obtain ⟨mA, O, r, _, _, _⟩ := ins_get I.hok e
  obtain ⟨u, hu, ru⟩ := RelO.some_of (v := v) (o := mA f) (by rw [← l]; exact r f)
  exact get_map I.kIn O (c.get f) c.hd n hu (handed_of ru) (h u _ (I.tok _) ru)

theorem getmeth_ok {m : Str} {g : Addr} {pl : Sem Bool} {Q : Value × List Value → Shared → Prop} (I : Inv X pins σ H s) (e : H a = some (.ins C dx fs)) (c : Cls X.K C) (k : Meth X.K C m g) (l : fs.lookup m = none)
    (h : Q (.ref g, [.ref a]) s) : wpAny (model X.prog X.w) A (getMethod (.ref a) m pl) Q E s := by
  obtain ⟨mA, O, r, _, _, _⟩ := ins_get I.hok e
  have hn : mA m = none := RelO.none_of (by rw [← l]; exact r m)
  exact get_meth I.kIn O (c.get m) k.at_ k.fn hn h

theorem setattr_ok {y : V} {u : Value} {Q : Unit → Shared → Prop} (I : Inv X pins σ H s) (e : H a = some (.ins C dx fs)) (c : Cls X.K C) (n : NoAttr X.K C f) (hl : fs.length < 1000) (ry : RelV y u)
    (h : ∀ s', Inv X pins σ (upd H a (.ins C dx (putF f y fs))) s' → Q () s') : wpAny (model X.prog X.w) A (setAttr (.ref a) f u) Q E s := by
  obtain ⟨mA, O, r, wi, _, ho⟩ := ins_get I.hok e
  have hz : (fs.map (·.1)).length ≤ sizeLine := by rw [List.length_map, sizeLine_eq]; omega
  refine set_map I.kIn O c.sa c.po n.taker c.hd wi hz fun h' O' sb => h _ ?_
  have hd : ∃ o, h'.get? dx = some o := let ⟨o, _, _, e', _⟩ := O'.ns; ⟨o, e'⟩
  refine I.write (x := a) (e := dx) (by rw [e]; exact True.intro) (.inr ho) (fun b q hb z => (sb.2 b hb).trans z) hd ?_
  refine ⟨by rw [upd_ne O.ne]; exact ho, ?_, O.ne, O'.obj, _, O'.ns, fun g => ?_, fun g hg => ?_⟩
  · have := length_putF f y fs; omega
  · show RelO ((putF f y fs).lookup g) (if g = f then some u else mA g)
    rw [lookup_putF]
    by_cases q : g = f
    · rw [if_pos q, if_pos q]; exact ry
    · rw [if_neg q, if_neg q]; exact r g
  · by_cases q : g = f
    · rw [q]; exact (keys_putF f y fs).1
    · refine (keys_putF f y fs).2 g (wi g fun z => hg ?_)
      show (if g = f then some u else mA g) = none
      rw [if_neg q]; exact z

/-- a new instance, tracked, without attributes -/
theorem Inv.made (I : Inv X pins σ H s) : Inv X pins σ (upd (upd H s.heap.objs.size (.own (s.heap.objs.size + 1))) (s.heap.objs.size + 1) (.ins C s.heap.objs.size []))
    { s with heap := (s.heap.push PySem.W.emptyDict).push (PySem.W.instObj C s.heap.objs.size) } := by
  have e1 : (s.heap.push PySem.W.emptyDict).get? s.heap.objs.size = some PySem.W.emptyDict := Heap.get?_push_size s.heap rfl
  have e2 : ((s.heap.push PySem.W.emptyDict).push (PySem.W.instObj C s.heap.objs.size)).get? (s.heap.objs.size + 1) = some (PySem.W.instObj C s.heap.objs.size) := by
    have := Heap.get?_push_size (s.heap.push PySem.W.emptyDict) (o := PySem.W.instObj C s.heap.objs.size) rfl
    rwa [Heap.size_push] at this
  have e3 : (s.heap.push PySem.W.emptyDict).Ns s.heap.objs.size (fun _ => none) := ⟨PySem.W.emptyDict, #[], _, e1, rfl, (fun e he => absurd he (by simp)), fun _ => rfl⟩
  have I1 := I.laid (a := s.heap.objs.size) (o := .own (s.heap.objs.size + 1)) (h' := s.heap.push PySem.W.emptyDict) (t' := s.toks) (fun b u q => Heap.get?_push_of_some _ q) (Nat.le_refl _) ⟨_, e1⟩
  refine I1.laid (a := s.heap.objs.size + 1) (o := .ins C s.heap.objs.size []) (t' := s.toks) (fun b u q => Heap.get?_push_of_some _ q) (Nat.le_of_eq (Heap.size_push _ _)) ?_
  have ne : s.heap.objs.size ≠ s.heap.objs.size + 1 := Nat.ne_of_lt (Nat.lt_succ_self _)
  refine ⟨by rw [upd_ne ne, upd_same], Nat.zero_le _, ne, e2, fun _ => none, (Heap.Ns1.of_empty e3).at fun o q => Heap.get?_push_of_some _ q, fun _ => True.intro, fun y hy => absurd rfl hy⟩

/-- e.f where nothing but the object is asked: through attributeBase (super) and the last hold -/
theorem attr_of {prog : Program} {w : World} {env : Env} {e : Expr} {f : Str} {pos : Pos} {s : Shared} {Q : Value → Shared → Prop} (hb : attributeBase e f env (eval e env) = eval e env)
    (h : wpAny (model prog w) A (eval e env) (fun o s₁ => wpAny (model prog w) A (getAttr o f true) Q E s₁) E s) : wpAny (model prog w) A (eval (.Attribute e f pos) env) Q E s :=
  Attribute_any_ h (by rw [arm_eval_Attribute, hb])
end

/-! ### readings and rules -/
/-- e.f, an attribute of the instance -/
def tFld (K : PySem.W.Frag) (ta : TE) (f : Str) : TE := fun σ H Q => ta σ H fun x H1 => ∃ a C dx fs v, x = .ref a ∧ H1 a = some (.ins C dx fs) ∧ Cls K C ∧ NoAttr K C f ∧ fs.lookup f = some v ∧ Q v H1
/-- e.f, a constant of the class -/
def tCon (K : PySem.W.Frag) (ta : TE) (f : Str) : TE := fun σ H Q => ta σ H fun x H1 => ∃ a C dx fs v u, x = .ref a ∧ H1 a = some (.ins C dx fs) ∧ Cls K C ∧ Con K C f v u ∧ fs.lookup f = none ∧ Q v H1
/-- e.f = value -/
def sFld (K : PySem.W.Frag) (ta tv : TE) (f : Str) : TS := fun D σ H => tv σ H fun y H1 => ta σ H1 fun x H2 => ∃ a C dx fs, x = .ref a ∧ H2 a = some (.ins C dx fs) ∧ Cls K C ∧ NoAttr K C f ∧ fs.length < 1000 ∧
  D.nx σ (upd H2 a (.ins C dx (putF f y fs)))
/-- an augmented operator on two values -/
def InOp (X : Cx) (op : Operator) (rd : V → V → Hp → VK → Prop) : Prop :=
  ∀ (pins : List (Addr × Obj)) (s : Shared) (σ : St) (H : Hp) (x y : V) (u v : Value) (Q : VK), Inv X pins σ H s → RelV x u → RelV y v → rd x y H Q → wpAny (model X.prog X.w) X.A (inplaceOp op u v) (EP X pins σ Q) X.xe s
/-- e.f op= value -/
def sFldAug (K : PySem.W.Frag) (ta tv : TE) (rd : V → V → Hp → VK → Prop) (f : Str) : TS := fun D σ H => ta σ H fun x H1 => ∃ a C dx fs v, x = .ref a ∧ H1 a = some (.ins C dx fs) ∧ Cls K C ∧ NoAttr K C f ∧ fs.lookup f = some v ∧
  tv σ H1 fun y H2 => rd v y H2 fun z H3 => ∃ dx' fs', H3 a = some (.ins C dx' fs') ∧ fs'.length < 1000 ∧ D.nx σ (upd H3 a (.ins C dx' (putF f z fs')))

section
variable {X : Cx} {o e value : Expr} {f : Str} {pos pos' tpos : Pos} {ta tv : TE}
theorem pe_fld (he : PE X e ta) (hb : attributeBase e f X.env (eval e X.env) = eval e X.env) : PE X (.Attribute e f pos) (tFld X.K ta f) := by
  intro pins s σ H Q I h
  refine attr_of hb (thn (he pins s σ H _ I h) fun u s1 ⟨x, H1, I1, rx, a, C, dx, fs, v, ex, ea, c, n, l, q⟩ => ?_)
  subst ex
  obtain rfl : u = Value.ref a := rx
  exact getattr_ok I1 ea c n l fun u' s2 I2 ru => ⟨v, H1, I2, ru, q⟩
theorem ps_fld (ha : PE X o ta) (hv : PE X value tv) (hs : swapsWith value (some (.Attribute o f pos')) pos.line X.env = pure false) : PS X (.Assign [.Attribute o f pos'] value pos) (sFld X.K ta tv f) := by
  intro pins s σ H D I h
  refine plainObj_wpAny_Assign_Attribute (thn (hv pins s σ H _ I h) fun u s1 ⟨y, H1, I1, ry, q⟩ => thn (ha pins s1 σ H1 _ I1 q) fun ov s2 ⟨x, H2, I2, rx, a, C, dx, fs, ex, ea, c, n, l, q2⟩ => ?_) hs
  subst ex
  obtain rfl : ov = Value.ref a := rx
  exact setattr_ok I2 ea c n l ry fun s3 I3 => ⟨σ, _, I3, q2⟩
def rAdd : V → V → Hp → VK → Prop := fun x y H Q => ∃ i j, x = .int i ∧ y = .int j ∧ Q (.int (i + j)) H
def rSub : V → V → Hp → VK → Prop := fun x y H Q => ∃ i j, x = .int i ∧ y = .int j ∧ Q (.int (i - j)) H
end

/-! ### isinstance -/
section
variable {X : Cx} {pins : List (Addr × Obj)} {σ : St} {H : Hp} {s : Shared} {A : Around} {E : Value → Shared → Prop} {Q : Value → Shared → Prop} {c : Value} {b : Bool}
/-- the type of a value, as the fragment's deciders take it; for an instance its class -/
inductive TyOf (K : PySem.W.Frag) (H : Hp) : V → Value → Prop where
  | non : TyOf K H .non (.type "NoneType")
  | bl (x : Bool) : TyOf K H (.bl x) (.type "bool")
  | int (i : Int) : TyOf K H (.int i) (.type "int")
  | str (x : Str) : TyOf K H (.str x) (.type "str")
  | flt (x : UInt64) : TyOf K H (.flt x) (.type "float")
  | lst {a : Addr} {xs : List V} (e : H a = some (.lst xs)) : TyOf K H (.ref a) (.type "list")
  | frz {a : Addr} {o : Obj} {xs : List V} (e : H a = some (.frz o (.lst xs))) : TyOf K H (.ref a) (.type "list")
  | tup {a : Addr} {xs : List V} (e : H a = some (.tup xs)) : TyOf K H (.ref a) (.type "tuple")
  | dK {a : Addr} {kvs : List (Key × V)} (e : H a = some (.dK kvs)) : TyOf K H (.ref a) (.type "dict")
  | dT {a : Addr} {kvs : List (List Key × V)} (e : H a = some (.dT kvs)) : TyOf K H (.ref a) (.type "dict")
  | ins {a C dx : Addr} {fs : List (Str × V)} (e : H a = some (.ins C dx fs)) (cl : Cls K C) (ha : PySem.W.findIn K (.ref C) "__class__" = some (some (.builtin "object.__class__")))
      (hn : PySem.W.specialIn K (.builtin "object.__class__") "__get__" = some (some (.builtin "getset_descriptor.__get__"))) (htk : PySem.W.takesIn K (.builtin "object.__class__") = some true)
      (hm : PySem.W.mroIn K C (.type "object") = some true) : TyOf K H (.ref a) (.ref C)
/-- isinstance(x, c) for one class c, a built-in or an own one: kitOne's answer -/
theorem isinst_ok {x : V} {u t : Value} (I : Inv X pins σ H s) (rx : RelV x u) (ty : TyOf X.K H x t) (e : PySem.W.kitOne X.K t c = some b) (h : ∀ tk, Q (.bool b) { s with toks := tk }) :
    wpAny (model X.prog X.w) A (call (.builtin "isinstance") [u, c]) Q E s := by
  cases ty with
  | non => cases (show u = Value.none from rx); exact PySem.W.kia_one PySem.W.kitx_none I.kIn True.intro e (fun z => nomatch z) h
  | bl y => cases (show u = Value.bool y from rx); exact PySem.W.kia_one PySem.W.kitx_bool I.kIn True.intro e (fun z => nomatch z) h
  | int i => obtain ⟨t, q⟩ := (show ∃ t, u = Value.int i t from rx); cases q; exact PySem.W.kia_one PySem.W.kitx_int I.kIn True.intro e (fun z => nomatch z) h
  | str y => obtain ⟨t, q⟩ := (show ∃ t, u = Value.str y t from rx); cases q; exact PySem.W.kia_one PySem.W.kitx_str I.kIn True.intro e (fun z => nomatch z) h
  | flt y => obtain ⟨t, q⟩ := (show ∃ t, u = Value.float y t from rx); cases q; exact PySem.W.kia_one PySem.W.kitx_float I.kIn True.intro e (fun z => nomatch z) h
  | @lst a xs ea =>
    cases (show u = Value.ref a from rx)
    obtain ⟨_, _, n, _, h1⟩ := (show ObjOk X.prog X.w H s.heap a (.lst xs) from I.hok a _ ea)
    exact PySem.W.kia_one PySem.W.kitx_list I.kIn ⟨_, h1, rfl⟩ e (fun z => nomatch z) h
  | @frz a ob xs ea =>
    cases (show u = Value.ref a from rx)
    obtain ⟨_, _, _, n, _, h1⟩ := (show ObjOk X.prog X.w H s.heap a (.frz ob (.lst xs)) from I.hok a _ ea)
    exact PySem.W.kia_one PySem.W.kitx_list I.kIn ⟨_, h1, rfl⟩ e (fun z => nomatch z) h
  | @tup a xs ea =>
    cases (show u = Value.ref a from rx)
    obtain ⟨_, _, _, p⟩ := (show ObjOk X.prog X.w H s.heap a (.tup xs) from I.hok a _ ea)
    obtain ⟨o, h1, h2, _⟩ := p
    exact PySem.W.kia_one PySem.W.kitx_tuple I.kIn ⟨o, h1, h2⟩ e (fun z => nomatch z) h
  | @dK a kvs ea =>
    cases (show u = Value.ref a from rx)
    obtain ⟨_, _, vs, _, p⟩ := (show ObjOk X.prog X.w H s.heap a (.dK kvs) from I.hok a _ ea)
    obtain ⟨o, es, ep, h1, h2, _⟩ := p
    exact PySem.W.kia_one PySem.W.kitx_dict I.kIn ⟨o, h1, h2.1⟩ e (fun z => nomatch z) h
  | @dT a kvs ea =>
    cases (show u = Value.ref a from rx)
    obtain ⟨_, _, xs, _, o, es, ep, h1, h2, _⟩ := (show ObjOk X.prog X.w H s.heap a (.dT kvs) from I.hok a _ ea)
    exact PySem.W.kia_one PySem.W.kitx_dict I.kIn ⟨o, h1, h2.1⟩ e (fun z => nomatch z) h
  | @ins a C dx fs ea cl ha hn htk hm =>
    cases (show u = Value.ref a from rx)
    obtain ⟨mA, O, _⟩ := ins_get I.hok ea
    obtain ⟨od, J, _⟩ := O.look
    exact PySem.W.kia_one (PySem.W.kitx_own (cl.get _) cl.hd ha hn htk hm) I.kIn J e (fun z => nomatch z) h
end
end L2

namespace L2
open PySem PySem.Spec PyProof.Rows

/-! ### room -/
structure Room (k : Nat) (A : Around) : Prop where
  hd : A.handled = none
  dp : A.depth + 3 * k + 5 < recursionLimit
  un : A.units + 16 * k + 200 < cLine
theorem Room.mono {j k : Nat} {A : Around} (r : Room k A) (h : j ≤ k) : Room j A := ⟨r.hd, by have := r.dp; omega, by have := r.un; omega⟩
theorem Room.deeper {k : Nat} {A : Around} (r : Room (k + 1) A) (env : Env) : Room k (A.deeper env) :=
  ⟨r.hd, by have := r.dp; show A.depth + 1 + 3 * k + 5 < _; omega, by have := r.un; show A.units + 3 + 16 * k + 200 < _; omega⟩
theorem make_depth {A : Around} {C : Addr} {us : List Value} {kw : List (Str × Value)} : (A.under (.builtin "type.__call__" ⟨.ref C :: us, kw⟩)).depth = A.depth + 1 := by
  first | rfl | simp [Around.under, Code.weight, Code.isCreation, Code.isGuard, Code.isCaller, Code.frames, Code.isFrame, guardIds]
theorem make_units {A : Around} {C : Addr} {us : List Value} {kw : List (Str × Value)} : (A.under (.builtin "type.__call__" ⟨.ref C :: us, kw⟩)).units = A.units + 1 := by
  first | rfl | simp [Around.under, Code.cUnits, Code.frames, Code.isFrame]
theorem Room.make {k : Nat} {A : Around} (r : Room (k + 1) A) (C : Addr) (us : List Value) (kw : List (Str × Value)) : Room k (A.under (.builtin "type.__call__" ⟨.ref C :: us, kw⟩)) :=
  ⟨r.hd, by have := r.dp; rw [make_depth]; omega, by have := r.un; rw [make_units]; omega⟩
theorem Room.depth {k : Nat} {A : Around} (r : Room k A) : A.depth < recursionLimit := by have := r.dp; omega
theorem Room.units {k : Nat} {A : Around} (r : Room k A) : A.units + 64 < cLine := by have := r.un; omega
/-! ### argument lists and displays -/
def tNil : TA := fun _ H Q => Q [] H
def tCons (ta : TE) (tr : TA) : TA := fun σ H Q => ta σ H fun x H1 => tr σ H1 fun xs H2 => Q (x :: xs) H2
section
variable {X : Cx} {e : Expr} {es : List Expr} {te : TE} {t : TA} {pos : Pos}
theorem pa_nil : PA X [] tNil := fun _ _ _ _ H Q I h => Calls.spliced_nil ⟨[], H, I, .nil, h⟩
theorem pa_cons (ha : PE X e te) (hr : PA X es t) (hs : starEach (e :: es) X.env = (false, eval e X.env) :: starEach es X.env := by rfl) : PA X (e :: es) (tCons te t) := by
  intro pos pins s σ H Q I h
  rw [hs]
  show wpAny _ _ (spliced ((false, eval e X.env) :: backTo pos (starEach es X.env))) _ _ s
  refine Calls.spliced_cons (thn (ha pins s σ H _ I h) fun u s1 ⟨x, H1, I1, r1, q1⟩ => ?_)
  exact thn (hr pos pins s1 σ H1 _ I1 q1) fun us s2 ⟨xs, H2, I2, r2, q2⟩ => ⟨x :: xs, H2, I2, .cons r1 r2, q2⟩

/-- a tuple, a list of written items -/
def tTup (t : TA) : TE := fun σ H Q => t σ H fun xs H1 => xs.length ≤ sizeLine ∧ ∀ p, H1 p = none → Q (.ref p) (upd H1 p (.tup xs))
def tLst (t : TA) : TE := fun σ H Q => t σ H fun xs H1 => xs.length ≤ sizeLine ∧ ∀ p, H1 p = none → Q (.ref p) (upd H1 p (.lst xs))
theorem pe_tup {x1} (h : PA X es t) : PE X (.Tuple es x1 pos) (tTup t) := by
  intro pins s σ H Q I hq
  refine wpAny_Tuple_spliced (thn (h pos pins s σ H _ I hq) fun us s1 ⟨xs, H1, I1, r, z, q⟩ => ⟨by rw [← r.length]; exact z, ?_⟩)
  have hf : H1 s1.heap.objs.size = none := I1.hok.fresh (Nat.le_refl _)
  refine ⟨.ref s1.heap.objs.size, upd H1 s1.heap.objs.size (.tup xs), I1.laid (t' := s1.toks) (fun b u e => Heap.get?_push_of_some _ e) (Nat.le_refl _) ?_, rfl, q _ hf⟩
  exact ⟨z, us, r, ⟨_, Heap.get?_push_size _ rfl, rfl, _, rfl⟩⟩
theorem pe_lst (h : PA X es t) : PE X (.List es pos) (tLst t) := by
  intro pins s σ H Q I hq
  refine wpAny_List_spliced (thn (h pos pins s σ H _ I hq) fun us s1 ⟨xs, H1, I1, r, z, q⟩ => ⟨by rw [← r.length]; exact z, ?_⟩)
  have hf : H1 s1.heap.objs.size = none := I1.hok.fresh (Nat.le_refl _)
  refine ⟨.ref s1.heap.objs.size, upd H1 s1.heap.objs.size (.lst xs), I1.laid (t' := s1.toks) (fun b u e => Heap.get?_push_of_some _ e) (Nat.le_refl _) ?_, rfl, q _ hf⟩
  exact ⟨z, us, 0, r, Heap.get?_push_size _ rfl⟩
end

/-! ### what a def promises -/
/-- a def's promise: the bound arguments in the parameters' order, the heap, the wanted end, the wanted exception -/
abbrev Sp := List V → Hp → VK → XK → Prop
/-- how an exception lies behind a call (file 08 gives it): the callers' frames, abstract heap and state ahead of the call, the wish, the exception, the state -/
abbrev CXT := List Env → Hp → Shared → XK → Value → Shared → Prop

/-- the state at a call -/
structure Env0 (P : Program) (w : World) (K : PySem.W.Frag) (mg : Str → Option Value) (base : Heap) (A : Around) (outer : List Env) (s : Shared) (H : Hp) : Prop where
  frames : A.frames = some outer
  mod : Mod K mg base
  bs : ∀ b o, base.get? b = some o → s.heap.get? b = some o ∧ H b = none
  bsz : base.objs.size ≤ s.heap.objs.size
  funs : s.heap.FunFrames base outer
  frf : ∀ b ∈ frs outer, H b = none
  hok : HOk P w H s.heap
  bare : AllBare s.gens
/-- a call's end -/
def CE (outer : List Env) (P : Program) (w : World) (H : Hp) (s : Shared) (Q : VK) (u : Value) (s' : Shared) : Prop :=
  ∃ v H', s'.os = s.os ∧ AllBare s'.gens ∧ Un (frs outer) [] H H' s.heap s'.heap ∧ HOk P w H' s'.heap ∧ RelV v u ∧ Q v H'
def CR (CX : CXT) (outer : List Env) (P : Program) (w : World) (H : Hp) (s : Shared) (Q : VK) (E : XK) (r : Result) (s' : Shared) : Prop :=
  match r with
  | .ok (.ret u) => CE outer P w H s Q u s'
  | .ok _ => False
  | .error e => CX outer H s E e s'
structure FnOk (P : Program) (w : World) (K : PySem.W.Frag) (mg : Str → Option Value) (base : Heap) (CX : CXT) (k : Nat) (f : Addr) (fd : FuncData) (ps : List Str) (sp : Sp) : Prop where
  len : ∀ vs H Q E, sp vs H Q E → vs.length = ps.length
  run : ∀ (A : Around) (outer : List Env) (s : Shared) (H : Hp) (args : Args) (us : List Value) (vs : List V) (Q : VK) (E : XK), Room k A → Env0 P w K mg base A outer s H → BindsTo s fd args (ps.zip us) → Vals vs us → sp vs H Q E →
    codeAny (model P w) A (.call (.ref f) args) (CR CX outer P w H s Q E) s
/-- a weaker promise -/
theorem FnOk.imp {P : Program} {w : World} {K : PySem.W.Frag} {mg : Str → Option Value} {base : Heap} {CX : CXT} {k : Nat} {f : Addr} {fd : FuncData} {ps : List Str} {sp sp' : Sp} (F : FnOk P w K mg base CX k f fd ps sp)
    (h : ∀ vs H Q E, sp' vs H Q E → sp vs H Q E) : FnOk P w K mg base CX k f fd ps sp' :=
  ⟨fun vs H Q E q => F.len vs H Q E (h _ _ _ _ q), fun A outer s H args us vs Q E hr he hb hv hs => F.run A outer s H args us vs Q E hr he hb hv (h _ _ _ _ hs)⟩

theorem Env0.make {P : Program} {w : World} {K : PySem.W.Frag} {mg : Str → Option Value} {base : Heap} {A : Around} {outer : List Env} {s : Shared} {H : Hp} (e : Env0 P w K mg base A outer s H) (C : Addr) (us : List Value) (kw : List (Str × Value)) :
    Env0 P w K mg base (A.under (.builtin "type.__call__" ⟨.ref C :: us, kw⟩)) outer s H := ⟨by first | exact e.frames | (simpa [Around.under, Code.envs, Code.isFrame, pushEnvs] using e.frames), e.mod, e.bs, e.bsz, e.funs, e.frf, e.hok, e.bare⟩
section
variable {X : Cx} {pins : List (Addr × Obj)} {σ : St} {H : Hp} {s s' : Shared}
/-- from a body: what a callee wants -/
theorem Inv.env0 (I : Inv X pins σ H s) : Env0 X.prog X.w X.K X.mg X.base X.A X.stack s H :=
  ⟨I.ok.frames, I.ok.mod, I.bs, Nat.le_trans I.ok.bsz I.sz, I.stack, I.stkFree, I.hok, I.bare⟩
/-- behind a call -/
theorem Inv.after {Q : VK} {u : Value} (I : Inv X pins σ H s) (h : CE X.stack X.prog X.w H s Q u s') : EP X pins σ Q u s' := by
  obtain ⟨v, H', os, bare, un, hok, r, q⟩ := h
  obtain ⟨hh, g, d, t, os'⟩ := s'
  obtain rfl : os' = s.os := os
  exact ⟨v, H', I.call (h' := hh) (g' := g) (d' := d) (t' := t) (ch := []) un hok bare (fun b z => absurd z (by simp)), r, q⟩
end

/-! ### calls -/
/-- f(..): the written arguments, then the defaults dvs; E: what is wanted of an exception -/
def tCall (sp : Sp) (dvs : List V) (E : XK) (t : TA) : TE := fun σ H Q => t σ H fun vs H1 => sp (vs ++ dvs) H1 Q E
/-- o.m(..) of an instance of the class at C -/
def tMeth (C : Addr) (m : Str) (sp : Sp) (dvs : List V) (E : XK) (ta : TE) (t : TA) : TE := fun σ H Q => ta σ H fun x H1 => ∃ a dx fs, x = .ref a ∧ H1 a = some (.ins C dx fs) ∧ fs.lookup m = none ∧
  t σ H1 fun vs H2 => sp (x :: (vs ++ dvs)) H2 Q E
/-- C(..): a new instance and its dict, then __init__ -/
def tMake (C : Addr) (sp : Sp) (dvs : List V) (E : XK) (t : TA) : TE := fun σ H Q => t σ H fun vs H1 => ∀ x dx, H1 x = none → H1 dx = none → dx ≠ x →
  sp (.ref x :: (vs ++ dvs)) (upd (upd H1 dx (.own x)) x (.ins C dx [])) (fun v H2 => v = .non ∧ Q (.ref x) H2) E

/-- how the parameters are bound: us the positional arguments, kw the keywords' values by name, ds the defaults that fill up -/
def Binds (K : PySem.W.Frag) (fd : FuncData) (ps : List Str) (ds : List Value) : Prop :=
  ∀ (s : Shared) (us : List Value), K.In s.heap → (us ++ ds).length = ps.length → BindsTo s fd ⟨us, []⟩ (ps.zip (us ++ ds))
/-- every parameter is given -/
theorem Binds.all {K : PySem.W.Frag} {fd : FuncData} {ps : List Str} (h : ∀ us : List Value, us.length = ps.length → bindArgs fd ⟨us, []⟩ = pure (ps.zip us)) : Binds K fd ps [] := fun s us _ hl => by
  rw [List.append_nil] at hl ⊢
  exact .of_eq (h us hl)

/-- an exception of a callee reaches what this body wants of exceptions -/
def Passes (CX : CXT) (X : Cx) (E : XK) : Prop := ∀ (pins : List (Addr × Obj)) (σ : St) (H : Hp) (s : Shared) (e : Value) (s' : Shared), Inv X pins σ H s → CX X.stack H s E e s' → X.xe e s'

section
variable {X : Cx} {CX : CXT} {k : Nat} {f C : Addr} {fd : FuncData} {ps : List Str} {sp : Sp} {dvs : List V} {ds : List Value} {E : XK} {x m : Str} {p pos apos : Pos} {e o : Expr} {es : List Expr} {ta : TE} {t : TA}

/-- the callee runs -/
theorem run_fn {pins : List (Addr × Obj)} {σ : St} {H : Hp} {s : Shared} {Q : VK} {us : List Value} {vs : List V} (F : FnOk X.prog X.w X.K X.mg X.base CX k f fd ps sp) (hr : Room k X.A) (hb : Binds X.K fd ps ds) (hd : Vals dvs ds) (hx : Passes CX X E)
    (I : Inv X pins σ H s) (r : Vals vs us) (h : sp (vs ++ dvs) H Q E) : wpAny (model X.prog X.w) X.A (call (.ref f) us) (EP X pins σ Q) X.xe s := by
  have r2 : Vals (vs ++ dvs) (us ++ ds) := r.append hd
  have hl : (us ++ ds).length = ps.length := by rw [← r2.length]; exact F.len _ _ _ _ h
  refine wpAny_call (codeAny_mono (F.run X.A X.stack s H ⟨us, []⟩ (us ++ ds) (vs ++ dvs) Q E hr I.env0 (hb s us I.kIn hl) r2 h) fun r s' hq => ?_)
  cases r with
  | error e => exact hx pins σ H s e s' I hq
  | ok fl =>
    cases fl with
    | ret u => exact I.after hq
    | next => exact False.elim hq
    | brk => exact False.elim hq
    | cont => exact False.elim hq

theorem pe_call (F : FnOk X.prog X.w X.K X.mg X.base CX k f fd ps sp) (hr : Room k X.A) (hg : Gl X x) (hm : X.mg x = some (.ref f)) (hk : PySem.W.keepIn X.K (.ref f) = true) (hb : Binds X.K fd ps ds) (hd : Vals dvs ds) (hx : Passes CX X E)
    (ha : PA X (e :: es) t) (hdb : (x == ("__debug__" : Str)) = false := by decide) (he : starEach (e :: es) X.env = (false, eval e X.env) :: starEach es X.env := by rfl) (hpl : (backTo pos (starEach es X.env)).any (·.1) = false := by rfl) :
    PE X (.Call (.Name x p) (e :: es) [] pos) (tCall sp dvs E t) := by
  intro pins s σ H Q I h
  refine wpAny_Call_Name_kw (ld_glob I hg hm ?_ hdb)
  refine PySem.W.callWith_K (h₀ := X.base) I.ok.mod.kin hk (thn (ha pos pins s σ H _ I h) fun us s1 ⟨vs, H1, I1, r, q⟩ => ⟨I1.kIn, ?_⟩) he hpl
  exact run_fn F hr hb hd hx I1 r q
/-- o.m(e, ..) -/
theorem pe_meth {pl : Sem Bool} (he : PE X o ta) (c : Cls X.K C) (hm : Meth X.K C m f) (F : FnOk X.prog X.w X.K X.mg X.base CX k f fd ps sp) (hr : Room k X.A) (hb : Binds X.K fd ps ds) (hd : Vals dvs ds) (hx : Passes CX X E) (ha : PA X (e :: es) t)
    (hst : starEach (e :: es) X.env = (false, eval e X.env) :: starEach es X.env := by rfl) (hpl : (backTo pos (starEach es X.env)).any (·.1) = false := by rfl)
    (ht : eval (.Call (.Attribute o m apos) (e :: es) [] pos) X.env = (do
      let ov ← eval o X.env
      standAt apos.atName
      let (f, first) ← holding [ov] (getMethod ov m pl)
      callWith pos f first (backTo pos (starEach (e :: es) X.env)) (backToKw pos (keywordEach [] X.env))) := by rfl) :
    PE X (.Call (.Attribute o m apos) (e :: es) [] pos) (tMeth C m sp dvs E ta t) := by
  intro pins s σ H Q I h
  refine PySem.W.methodCall_KW (pl := pl) (thn (he pins s σ H _ I h) fun u s1 ⟨x, H1, I1, rx, a, dx, fs, ex, ea, l, q⟩ => ?_) ht
  subst ex
  obtain rfl : u = Value.ref a := rx
  refine getmeth_ok I1 ea c hm l ?_
  refine PySem.W.callWith_K (first := [.ref a]) (h₀ := X.base) I.ok.mod.kin hm.kp (thn (ha pos pins s1 σ H1 _ I1 q) fun us s2 ⟨vs, H2, I2, r, q2⟩ => ⟨I2.kIn, ?_⟩) hst hpl
  exact run_fn (us := .ref a :: us) (vs := .ref a :: vs) F hr hb hd hx I2 (.cons rfl r) q2
/-- o.m() -/
theorem pe_meth0 {pl : Sem Bool} (he : PE X o ta) (c : Cls X.K C) (hm : Meth X.K C m f) (F : FnOk X.prog X.w X.K X.mg X.base CX k f fd ps sp) (hr : Room k X.A) (hb : Binds X.K fd ps ds) (hd : Vals dvs ds) (hx : Passes CX X E)
    (ht : eval (.Call (.Attribute o m apos) [] [] pos) X.env = (do
      let ov ← eval o X.env
      standAt apos.atName
      let (f, first) ← holding [ov] (getMethod ov m pl)
      callWith pos f first (backTo pos (starEach [] X.env)) (backToKw pos (keywordEach [] X.env))) := by rfl) :
    PE X (.Call (.Attribute o m apos) [] [] pos) (tMeth C m sp dvs E ta tNil) := by
  intro pins s σ H Q I h
  refine PySem.W.methodCall_KW (pl := pl) (thn (he pins s σ H _ I h) fun u s1 ⟨x, H1, I1, rx, a, dx, fs, ex, ea, l, q⟩ => ?_) ht
  subst ex
  obtain rfl : u = Value.ref a := rx
  refine getmeth_ok I1 ea c hm l ?_
  exact PySem.W.callWith_K0 (first := [.ref a]) I1.kIn hm.kp (run_fn (us := [.ref a]) (vs := [.ref a]) F hr hb hd hx I1 (.cons rfl .nil) q)

/-- what a class must have to be made -/
structure Mk (K : PySem.W.Frag) (C f : Addr) : Prop where
  makes : PySem.W.makesIn K C = true
  init : PySem.W.findIn K (.ref C) "__init__" = some (some (.ref f))
  fn : PySem.W.isFn K (.ref f) = true
  kp : PySem.W.keepIn K (.ref C) = true

theorem run_make {pins : List (Addr × Obj)} {σ : St} {H : Hp} {s : Shared} {Q : VK} {us : List Value} {vs : List V} (M : Mk X.K C f) (F : FnOk X.prog X.w X.K X.mg X.base CX k f fd ps sp) (hr : Room (k + 1) X.A) (hb : Binds X.K fd ps ds) (hd : Vals dvs ds)
    (hx : Passes CX X E) (I : Inv X pins σ H s) (r : Vals vs us)
    (h : ∀ x dx, H x = none → H dx = none → dx ≠ x → sp (.ref x :: (vs ++ dvs)) (upd (upd H dx (.own x)) x (.ins C dx [])) (fun v H2 => v = .non ∧ Q (.ref x) H2) E) :
    wpAny (model X.prog X.w) X.A (call (.ref C) us) (EP X pins σ Q) X.xe s := by
  have hq := h (s.heap.objs.size + 1) s.heap.objs.size (I.hok.fresh (Nat.le_succ _)) (I.hok.fresh (Nat.le_refl _)) (Nat.ne_of_lt (Nat.lt_succ_self _))
  have I2 := Inv.made (C := C) I
  have r2 : Vals (V.ref (s.heap.objs.size + 1) :: (vs ++ dvs)) (Value.ref (s.heap.objs.size + 1) :: (us ++ ds)) := .cons rfl (r.append hd)
  have hl : (Value.ref (s.heap.objs.size + 1) :: us ++ ds).length = ps.length := by
    have e := r2.length
    rw [F.len _ _ _ _ hq] at e
    exact e.symm
  refine wpAny_call (make_map (f := f) I.kIn M.makes M.init (beq_iff_eq.mp M.fn) (codeAny_mono (F.run _ X.stack _ _ ⟨Value.ref (s.heap.objs.size + 1) :: us, []⟩ (Value.ref (s.heap.objs.size + 1) :: (us ++ ds)) _ _ E (hr.make C us [])
    (I2.env0.make C us []) (hb _ (Value.ref (s.heap.objs.size + 1) :: us) I2.kIn hl) r2 hq) fun r s' hq' => ?_))
  cases r with
  | error e => exact hx pins σ _ _ e s' I2 hq'
  | ok fl =>
    cases fl with
    | ret u =>
      obtain ⟨v, H', I3, rv, ev, q3⟩ := I2.after hq'
      subst ev
      exact ⟨rv, ⟨V.ref (s.heap.objs.size + 1), H', I3, rfl, q3⟩⟩
    | next => exact False.elim hq'
    | brk => exact False.elim hq'
    | cont => exact False.elim hq'
theorem pe_make (M : Mk X.K C f) (F : FnOk X.prog X.w X.K X.mg X.base CX k f fd ps sp) (hr : Room (k + 1) X.A) (hg : Gl X x) (hm : X.mg x = some (.ref C)) (hb : Binds X.K fd ps ds) (hd : Vals dvs ds) (hx : Passes CX X E)
    (ha : PA X (e :: es) t) (hdb : (x == ("__debug__" : Str)) = false := by decide) (he : starEach (e :: es) X.env = (false, eval e X.env) :: starEach es X.env := by rfl) (hpl : (backTo pos (starEach es X.env)).any (·.1) = false := by rfl) :
    PE X (.Call (.Name x p) (e :: es) [] pos) (tMake C sp dvs E t) := by
  intro pins s σ H Q I h
  refine wpAny_Call_Name_kw (ld_glob I hg hm ?_ hdb)
  refine PySem.W.callWith_K (h₀ := X.base) I.ok.mod.kin M.kp (thn (ha pos pins s σ H _ I h) fun us s1 ⟨vs, H1, I1, r, q⟩ => ⟨I1.kIn, ?_⟩) he hpl
  exact run_make M F hr hb hd hx I1 r q
end

/-! ### keywords -/
/-- the values of the keywords, from the left -/
def PK (X : Cx) (kws : List Keyword) (t : TA) : Prop :=
  ∀ (pos : Pos) (pins : List (Addr × Obj)) (s : Shared) (σ : St) (H : Hp) (Q : List V → Hp → Prop), Inv X pins σ H s → t σ H Q → wpAny (model X.prog X.w) X.A (evalAll ((backToKw pos (keywordEach kws X.env)).map (·.2))) (AP X pins σ Q) X.xe s
section
variable {X : Cx} {CX : CXT} {k : Nat} {f C : Addr} {fd : FuncData} {ps ks : List Str} {sp : Sp} {E : XK} {x m : Str} {p pos apos kpos : Pos} {e o : Expr} {es : List Expr} {kws : List Keyword} {te ta : TE} {t tk : TA} {nm : Option Str}
/-- how a call with keywords binds: g puts the positional values us and the keywords' values ws (names ks) in the parameters' order, defaults among them -/
structure KBinds (K : PySem.W.Frag) (fd : FuncData) (ps ks : List Str) (g : List Value → List Value → List Value) (gV : List V → List V → List V) : Prop where
  to : ∀ (s : Shared) (us ws : List Value), K.In s.heap → (g us ws).length = ps.length → BindsTo s fd ⟨us, ks.zip ws⟩ (ps.zip (g us ws))
  rel : ∀ {vs : List V} {us : List Value} {zs : List V} {ws : List Value}, Vals vs us → Vals zs ws → Vals (gV vs zs) (g us ws)
def tCallK (sp : Sp) (gV : List V → List V → List V) (E : XK) (t tk : TA) : TE := fun σ H Q => t σ H fun vs H1 => tk σ H1 fun zs H2 => sp (gV vs zs) H2 Q E
variable {g : List Value → List Value → List Value} {gV : List V → List V → List V}
end

/-! ### a def's body keeps its promise -/
/-- names: the parameters first -/
structure FnScope (N P : List Str) (sc : Scope) : Prop where
  kind : sc.kind = .function
  co : sc.isCoroutine = false
  gen : sc.isGenerator = false
  nd : N.Nodup
  pre : N.take P.length = P
  par : ∀ x ∈ P, sc.names.lookup x = some .local ∨ sc.names.lookup x = some .cell
  nofree : ∀ y ∈ sc.names, y.2 ≠ .free

theorem bindL_out {kindOf : Str → Option NameKind} {x : Str} : ∀ {binds : List (Str × Value)} {m : Str → Option Value}, (∀ v, (x, v) ∉ binds) → bindL kindOf binds m x = m x
  | [], _, _ => rfl
  | (n, v) :: r, m, h => by
    unfold bindL
    rw [bindL_out fun w hw => h w (List.mem_cons_of_mem _ hw)]
    split
    · have : x ≠ n := by rintro rfl; exact h v List.mem_cons_self
      simp [this]
    · rfl
theorem bindC_out {kindOf : Str → Option NameKind} {x : Str} : ∀ {binds : List (Str × Value)} {m : Str → Option Value}, (∀ v, (x, v) ∉ binds) → bindC kindOf binds m x = m x
  | [], _, _ => rfl
  | (n, v) :: r, m, h => by
    unfold bindC
    rw [bindC_out fun w hw => h w (List.mem_cons_of_mem _ hw)]
    split
    · rfl
    · have : x ≠ n := by rintro rfl; exact h v List.mem_cons_self
      simp [this]
theorem bindL_get {kindOf : Str → Option NameKind} {x : Str} {v : Value} : ∀ {P : List Str} {vs : List Value} {i : Nat} {m : Str → Option Value}, P.Nodup → P[i]? = some x → vs[i]? = some v → kindOf x = some .local →
    bindL kindOf (P.zip vs) m x = some v
  | [], _, _, _, _, h, _, _ => by simp at h
  | _ :: _, [], _, _, _, _, h, _ => by simp at h
  | p :: P, w :: vs, 0, m, nd, h1, h2, hk => by
    simp at h1 h2; subst h1; subst h2
    show bindL kindOf ((p, w) :: P.zip vs) m p = _
    unfold bindL
    rw [bindL_out fun v hv => (List.nodup_cons.mp nd).1 (List.of_mem_zip hv).1, if_pos hk]
    simp
  | p :: P, w :: vs, i + 1, m, nd, h1, h2, hk => by
    show bindL kindOf ((p, w) :: P.zip vs) m x = _
    unfold bindL
    exact bindL_get (i := i) (List.nodup_cons.mp nd).2 (by simpa using h1) (by simpa using h2) hk
theorem bindC_get {kindOf : Str → Option NameKind} {x : Str} {v : Value} : ∀ {P : List Str} {vs : List Value} {i : Nat} {m : Str → Option Value}, P.Nodup → P[i]? = some x → vs[i]? = some v → kindOf x ≠ some .local →
    bindC kindOf (P.zip vs) m x = some v
  | [], _, _, _, _, h, _, _ => by simp at h
  | _ :: _, [], _, _, _, _, h, _ => by simp at h
  | p :: P, w :: vs, 0, m, nd, h1, h2, hk => by
    simp at h1 h2; subst h1; subst h2
    show bindC kindOf ((p, w) :: P.zip vs) m p = _
    unfold bindC
    rw [bindC_out fun v hv => (List.nodup_cons.mp nd).1 (List.of_mem_zip hv).1, if_neg hk]
    simp
  | p :: P, w :: vs, i + 1, m, nd, h1, h2, hk => by
    show bindC kindOf ((p, w) :: P.zip vs) m x = _
    unfold bindC
    exact bindC_get (i := i) (List.nodup_cons.mp nd).2 (by simpa using h1) (by simpa using h2) hk

/-- the names' values at the entry -/
def start (N : List Str) (vs : List V) : St := vs.map some ++ List.replicate (N.length - vs.length) none

/-- the context of a def's body, at its entry; an exception leaves the frame, then lies as CX says -/
def cxOf (CX : CXT) (P : Program) (w : World) (K : PySem.W.Frag) (mg : Str → Option Value) (base : Heap) (N : List Str) (qual : Str) (scope : Scope) (f : Addr) (cd : Value) (A : Around) (outer : List Env) (s : Shared) (H : Hp) (E : XK) : Cx where
  prog := P
  w := w
  K := K
  mg := mg
  base := base
  A := A.deeper (envOfC qual scope s.heap.objs.size f cd)
  N := N
  s₀ := s
  H₀ := H
  env := envOfC qual scope s.heap.objs.size f cd
  outer := outer
  stack := envOfC qual scope s.heap.objs.size f cd :: outer
  ex := []
  calm := true
  fn := fun _ => true
  pn := []
  xe := fun e s' => wpAny (model P w) (A.deeper (envOfC qual scope s.heap.objs.size f cd)) (leaving (envOfC qual scope s.heap.objs.size f cd) e) (fun _ s'' => CX outer H s E e s'') (fun e' s'' => CX outer H s E e' s'') s'

theorem cell_has {sc : Scope} {n : Nat} {x : Str} (h : sc.names.lookup x = some .cell) : ∃ c, (cellsFrom n sc.names []).lookup x = some c := by
  have q := PySem.W.cellsFrom_some sc.names n [] (.inl h)
  exact Option.isSome_iff_exists.mp q

theorem inv_start {CX : CXT} {P : Program} {w : World} {K : PySem.W.Frag} {mg : Str → Option Value} {base : Heap} {N ps : List Str} {qual : Str} {scope : Scope} {f : Addr} {cd : Value} {A : Around} {outer : List Env} {s s1 : Shared} {H : Hp} {E : XK} {us : List Value} {vs : List V}
    (S : FnScope N ps scope) (hd : A.handled = none) (e0 : Env0 P w K mg base A outer s H) (hl : vs.length = ps.length) (r : Vals vs us)
    (x : InCallC s s.heap.objs.size (bindL (envOfC qual scope s.heap.objs.size f cd).kindOf (ps.zip us) fun _ => none) (cellsFrom (s.heap.objs.size + 1) scope.names []) (bindC (envOfC qual scope s.heap.objs.size f cd).kindOf (ps.zip us) fun _ => none) s1) :
    Inv (cxOf CX P w K mg base N qual scope f cd A outer s H E) [] (start N vs) H s1 := by
  have hpl : ps.length ≤ N.length := by have := congrArg List.length S.pre; rw [List.length_take] at this; omega
  obtain ⟨h1, tk, rfl, hk⟩ := x.done
  have noA : ∀ b : Addr, b ∉ (cxOf CX P w K mg base N qual scope f cd A outer s H E).ex := fun b z => absurd (show b ∈ ([] : List Addr) from z) (by simp)
  refine ⟨⟨e0.mod, S.kind, rfl, rfl, Nat.le_refl _, fun y z c h1 h2 => ?_, fun y hy => ?_, fun y c _ h => ?_, fun _ => hd, Around.frames_deeper e0.frames, .inr ⟨rfl, rfl⟩, fun b z => absurd z (noA b), e0.bs, e0.bsz, fun b _ _ => noA b, fun b z => absurd z (noA b), e0.funs, e0.frf⟩,
    rfl, e0.bare, Un.kept hk, ⟨_, x.toInCall.ns, fun i y v h1 h2 h3 => ?_⟩, fun y c h => ⟨_, x.cell y c h⟩, e0.hok.fresh (Nat.le_refl _), fun y c h => ?_, fun p hp => absurd (show p ∈ ([] : List (Addr × Obj)) from hp) (by simp), e0.hok.kept hk, ?_⟩
  · exact name_of_addr x.apart (PySem.mem_of_lookup h1) (PySem.mem_of_lookup h2)
  · have hy : scope.names.lookup y = some .cell ∨ scope.names.lookup y = some .free := hy
    rcases hy with hy | hy
    · exact cell_has hy
    · exact absurd rfl (S.nofree _ (PySem.mem_of_lookup hy))
  · exact Nat.le_of_lt (x.above y c (PySem.mem_of_lookup h))
  · have hi : i < vs.length := by
      unfold start at h2
      by_cases hi : i < vs.length
      · exact hi
      · rw [List.getElem?_append_right (by simpa using hi)] at h2
        rw [List.getElem?_replicate] at h2
        split at h2 <;> cases h2
    have ha : vs[i]? = some v := by
      unfold start at h2
      rw [List.getElem?_append_left (by simpa using hi), List.getElem?_map] at h2
      cases e : vs[i]? with
      | none => rw [e] at h2; cases h2
      | some a => rw [e] at h2; cases h2; rfl
    obtain ⟨u, hu, rv⟩ := r.get ha
    have hp : ps[i]? = some y := by
      rw [← S.pre, List.getElem?_take_of_lt (by omega)]; exact h1
    have ndP : ps.Nodup := by rw [← S.pre]; exact S.nd.sublist (List.take_sublist _ _)
    refine ⟨u, rv, ?_⟩
    rcases S.par y (List.mem_of_getElem? hp) with k | k
    · exact .inl ⟨k, bindL_get ndP hp hu k⟩
    · obtain ⟨c, e⟩ := cell_has (n := s.heap.objs.size + 1) k
      refine .inr ⟨.inl k, c, e, ?_⟩
      have q := x.cell y c e
      rw [bindC_get ndP hp hu (by show scope.names.lookup y ≠ _; rw [k]; decide)] at q
      exact q
  · exact e0.hok.fresh (Nat.le_of_lt (x.above y c (PySem.mem_of_lookup h)))
  · unfold start
    show _ = N.length
    rw [List.length_append, List.length_map, List.length_replicate]
    omega

/-- THE RULE: a def (or a method) of the text, by its body. The body's reading t is chosen for each entry; it is run at the parameters' values -/
theorem fn_of {CX : CXT} {P : Program} {w : World} {K : PySem.W.Frag} {mg : Str → Option Value} {base : Heap} {k : Nat} {f : Addr} {name qual : Str} {params : Arguments} {body : List Stmt} {scope : Scope} {dV kV doc pm cdv ct oc : Value} {an od : Option Addr}
    {osl : Array (Option Value)} {N ps : List Str} {sp : Sp} (lk : K.lookup f = some ⟨oc, od, .func (PySem.W.fnOf name qual params body scope dV kV doc pm an cdv ct), osl⟩) (hcd : PySem.W.codeIn K cdv qual = true) (S : FnScope N ps scope)
    (len : ∀ vs H Q E, sp vs H Q E → vs.length = ps.length)
    (hbody : ∀ (A : Around) (outer : List Env) (s : Shared) (H : Hp) (vs : List V) (Q : VK) (E : XK), Room k (A.deeper (envOfC qual scope s.heap.objs.size f cdv)) → sp vs H Q E →
      ∃ t, PSs (cxOf CX P w K mg base N qual scope f cdv A outer s H E) body t ∧ t { nx := fun _ H' => Q .non H', rt := Q } (start N vs) H) :
    FnOk P w K mg base CX (k + 1) f (PySem.W.fnOf name qual params body scope dV kV doc pm an cdv ct) ps sp := by
  refine ⟨len, fun A outer s H args us vs Q E hr e0 hb r hsp => ?_⟩
  have hl := len _ _ _ _ hsp
  have KX : K.In s.heap := e0.mod.kin.keeps fun b o e => (e0.bs b o e).1
  have lim : s.heap.NoLimit := e0.mod.nolimit.keeps fun b o e => (e0.bs b o e).1
  have hkind : ∀ y ∈ ps.zip us, scope.names.lookup y.1 = some .local ∨ (scope.names.lookup y.1 = some .cell ∧ ((cellsFrom (s.heap.objs.size + 1) scope.names []).lookup y.1).isSome = true) := fun ⟨n, v⟩ hy => by
    rcases S.par n (List.of_mem_zip hy).1 with q | q
    · exact .inl q
    · exact .inr ⟨q, PySem.W.cellsFrom_some _ _ _ (.inl q)⟩
  refine codeAny_call_function hr.depth (KX _ _ lk) rfl S.co S.gen rfl (PySem.W.codeRec_of KX hcd) (hb _ _ _ _ ?_)
  refine wpAny_newFunctionEnv_cells S.kind hkind fun env he s1 x => ?_
  subst he
  refine ⟨lim.keeps x.toInCall.keep, codeAny_func ?_⟩
  obtain ⟨t, ht, hq⟩ := hbody A outer s H vs Q E (hr.deeper _) hsp
  have I : Inv (cxOf CX P w K mg base N qual scope f cdv A outer s H E) [] (start N vs) H s1 := inv_start S hr.hd e0 hl r x
  refine wpAny_mono (ht [] s1 (start N vs) H _ I hq) (fun fl s' hs => ?_) fun e s' hs => hs
  have fin : ∀ {σ' : St} {H' : Hp} {v : V} {u : Value}, Inv (cxOf CX P w K mg base N qual scope f cdv A outer s H E) [] σ' H' s' → RelV v u → Q v H' → CE outer P w H s Q u s' :=
    fun {σ' H' v u} J rv q => ⟨v, H', J.os, J.bare, J.base, J.hok, rv, q⟩
  cases fl with
  | ret u =>
    obtain ⟨v, σ', H', J, rv, q⟩ := hs
    exact fin J rv q
  | next =>
    obtain ⟨σ', H', J, q⟩ := hs
    exact fin (v := V.non) (u := Value.none) J rfl q
  | brk =>
    obtain ⟨_, _, _, q⟩ := hs
    exact False.elim q
  | cont =>
    obtain ⟨_, _, _, q⟩ := hs
    exact False.elim q
end L2

namespace L2
open PySem PySem.Spec PyProof.Rows
section
variable {X : Cx} {x : Str} {p pos : Pos} {e : Expr} {es : List Expr} {t : TA} {id T : String} {r : List V → Hp → VK → Prop}

def tCB (r : List V → Hp → VK → Prop) (t : TA) : TE := fun σ H Q => t σ H fun vs H1 => r vs H1 Q
/-- f(e, ..), f a built-in function -/
theorem pe_callB (hc : CallR X (.builtin id) r) (hg : Gl X x) (hm : X.mg x = none) (hv : bootBuiltins x = some (.builtin id)) (ha : PA X (e :: es) t) (hn : x ≠ "__name__" := by decide) (hdb : (x == ("__debug__" : Str)) = false := by decide)
    (he : starEach (e :: es) X.env = (false, eval e X.env) :: starEach es X.env := by rfl) (hpl : (backTo pos (starEach es X.env)).any (·.1) = false := by rfl) : PE X (.Call (.Name x p) (e :: es) [] pos) (tCB r t) := by
  intro pins s σ H Q I h
  refine wpAny_Call_Name_kw (ld_blt I hg hm hv ?_ hn hdb)
  exact PyProof.Rows.callWith_builtin1 (thn (ha pos pins s σ H _ I h) fun us s1 ⟨vs, H1, I1, r1, q1⟩ => hc pins s1 σ H1 vs us Q I1 r1 q1) he hpl
/-- T(e, ..), T a built-in type -/
theorem pe_callTy (hc : CallR X (.type T) r) (hg : Gl X x) (hm : X.mg x = none) (hv : bootBuiltins x = some (.type T)) (ha : PA X (e :: es) t) (hn : x ≠ "__name__" := by decide) (hdb : (x == ("__debug__" : Str)) = false := by decide)
    (he : starEach (e :: es) X.env = (false, eval e X.env) :: starEach es X.env := by rfl) (hpl : (backTo pos (starEach es X.env)).any (·.1) = false := by rfl) : PE X (.Call (.Name x p) (e :: es) [] pos) (tCB r t) := by
  intro pins s σ H Q I h
  refine wpAny_Call_Name_kw (ld_blt I hg hm hv ?_ hn hdb)
  exact PyProof.Rows.callWith_type1 (thn (ha pos pins s σ H _ I h) fun us s1 ⟨vs, H1, I1, r1, q1⟩ => hc pins s1 σ H1 vs us Q I1 r1 q1) he hpl
end
end L2

namespace HT
open PySem PyProof.Rows

/-- t < u of tuples of ints -/
def lexLt : List Int → List Int → Bool
  | [], [] => false
  | [], _ :: _ => true
  | _ :: _, [] => false
  | x :: xs, y :: ys => if x = y then lexLt xs ys else decide (x < y)
theorem lexLt_cons (x y : Int) (xs ys : List Int) : lexLt (x :: xs) (y :: ys) = if x = y then lexLt xs ys else decide (x < y) := rfl
theorem lexLt_nil_nil : lexLt [] [] = false := rfl
theorem lexLt_nil_cons (y : Int) (ys : List Int) : lexLt [] (y :: ys) = true := rfl
theorem lexLt_cons_nil (x : Int) (xs : List Int) : lexLt (x :: xs) [] = false := rfl

theorem eqAt_int (A : Around) (s : Shared) (a : Int) (t : Tok) (c : Int) (u : Tok) : ∃ e, SeqAt.EqAt A s (.int a t) (.int c u) e ∧ (e = true ↔ a = c) :=
  ⟨(a == c), SeqAt.EqAt.int_int a t c u, by simp⟩
theorem rcLt_int (A : Around) (s : Shared) (a : Int) (t : Tok) (c : Int) (u : Tok) (prog : Program) (w : World) (E : Value → Shared → Prop) (Q : Value → Shared → Prop) (h : Q (.bool (decide (a < c))) s) :
    wpAny (model prog w) A (richCompare .Lt (.int a t) (.int c u)) Q E s :=
  (PyProof.Rows.lt_int h : wpAny (model prog w) A (compareOp .Lt (.int a t) (.int c u)) Q E s)

section
open PySem.SeqAt
open PySem.AutoSeq1 (wpAny_loadPart')
open PySem.MeetsSeq PySem.MeetsSeq2 PySem.MeetsSeq3

theorem tuple_lt_ints (l b : Addr) (items items2 : Array Value) (n n2 : Nat) (dd dd2 : Option Addr) (sl sl2 : Array (Option Value)) (ns ms : List Int) (hi : IntsAre items.toList ns) (hj : IntsAre items2.toList ms) :
    Meets (Builtin.«tuple.__lt__» ⟨[.ref l, .ref b], []⟩)
      (fun _ R s => s.heap.get? l = some { cls := .type "tuple", dict := dd, data := .seq items n, slots := sl } ∧ s.heap.get? b = some { cls := .type "tuple", dict := dd2, data := .seq items2 n2, slots := sl2 } ∧
        R (.ok (.ret (.bool (lexLt ns ms)))) s) :=
  .of_wp fun prog w A R s h => by
    obtain ⟨hp, g, d, tk, os⟩ := s; obtain ⟨hl, hb, h⟩ := h
    have f2 := AutoSeq1.sub_tuple_tuple
    have z1 : items.size = ns.length := by rw [← hi.length]; simp
    have z2 : items2.size = ms.length := by rw [← hj.length]; simp
    wp_walk using wpAny_loadPart' hl, wpAny_loadPart' hb, wpAny_forIn_list _ (fun rest b s' => b.1 = none ∧ s' = ⟨hp, g, d, tk, os⟩ ∧ ∃ (vs ws : List Value) (ns' ms' : List Int), rest = vs.zip ws ∧
      IntsAre vs ns' ∧ IntsAre ws ms' ∧ ns'.length + items2.size = ms'.length + items.size ∧ R (.ok (.ret (.bool (lexLt ns' ms')))) ⟨hp, g, d, tk, os⟩) _
    case turn =>
      rintro ⟨y, x⟩ rest b s' ⟨hb', rfl, vs, ws, ns', ms', hz, hvi, hwi, hlen, hR⟩
      cases hvi with
      | nil => rw [List.zip_nil_left] at hz; cases hz
      | cons a t hvi' =>
        cases hwi with
        | nil => rw [List.zip_nil_right] at hz; cases hz
        | cons c u hwi' =>
          rw [List.zip_cons_cons] at hz
          injection hz with hyx hrest
          injection hyx with hy hx
          subst hy hx
          rw [lexLt_cons] at hR
          simp only [List.length_cons] at hlen
          obtain ⟨e, he, hiff⟩ := eqAt_int A.in1 ⟨hp, g, d, tk, os⟩ a t c u
          refine wpAny_bind (he prog w _ _ ?_)
          cases e with
          | true =>
            rw [if_pos (hiff.mp rfl)] at hR
            wp_walk
            exact ⟨rfl, rfl, _, _, _, _, hrest, hvi', hwi', by omega, hR⟩
          | false =>
            rw [if_neg (fun q => absurd (hiff.mpr q) Bool.false_ne_true)] at hR
            have hri := rcLt_int A.in1 ⟨hp, g, d, tk, os⟩ a t c u prog w
            wp_walk using hri
            exact ⟨_, rfl, by simpa using hR⟩
    case fin =>
      rintro ⟨b1, b2⟩ s' ⟨hb', rfl, vs, ws, ns', ms', hz, hvi, hwi, hlen, hR⟩
      simp only at hb'
      subst hb'
      have hv : lexLt ns' ms' = decide (items.size < items2.size) := by
        cases hvi with
        | nil =>
          cases hwi with
          | nil =>
            simp only [List.length_nil] at hlen
            rw [lexLt_nil_nil]
            exact (decide_eq_false (by omega)).symm
          | cons c u hw =>
            simp only [List.length_nil, List.length_cons] at hlen
            rw [lexLt_nil_cons]
            exact (decide_eq_true (by omega)).symm
        | cons a t hv =>
          cases hwi with
          | nil =>
            simp only [List.length_nil, List.length_cons] at hlen
            rw [lexLt_cons_nil]
            exact (decide_eq_false (by omega)).symm
          | cons c u hw =>
            rw [List.zip_cons_cons] at hz
            cases hz
      rw [hv] at hR
      wp_walk
      exact ⟨_, rfl, by simpa [Builtin.Tuple.tupleCompareSizes] using hR⟩
    case h =>
      exact ⟨rfl, rfl, items.toList, items2.toList, ns, ms, rfl, hi, hj, by omega, h⟩
end

section
variable {prog : Program} {w : World} {A : Around} {E : Value → Shared → Prop} {s : Shared}

theorem lt_tupInts {l b : Addr} {items items2 : Array Value} {ns ms : List Int} {Q : Value → Shared → Prop} (hl : IsTup s.heap l items) (hb : IsTup s.heap b items2) (hi : IntsAre items.toList ns) (hj : IntsAre items2.toList ms)
    (hu : A.units < cLine) (h : Q (.bool (lexLt ns ms)) s) : wpAny (model prog w) A (compareOp .Lt (.ref l) (.ref b)) Q E s := by
  obtain ⟨⟨cls, dd, data, sl⟩, ho, hc, n, hd⟩ := id hl
  obtain ⟨⟨cls2, dd2, data2, sl2⟩, ho2, hc2, n2, hd2⟩ := id hb
  simp only at hc hd hc2 hd2
  subst hc hd hc2 hd2
  exact richCompare_meets_room (op := .Lt) ⟨_, ho, rfl⟩ ⟨_, ho2, rfl⟩ PySem.F.slot_tuple_lt PySem.F.entry_tuple_lt (PySem.F.args_tuple_lt_2 _ _) (tuple_lt_ints l b items items2 n n2 dd dd2 sl sl2 ns ms hi hj)
    ⟨ho, ho2, show Value.bool (lexLt ns ms) ≠ Value.notImplemented ∧ Q (.bool (lexLt ns ms)) s from ⟨(fun x => nomatch x), h⟩⟩ hu

/-- t + u, t not empty -/
theorem cat_tup {t b : Addr} {vs ws : List Value} {Q : Value → Shared → Prop} (ht : IsTup s.heap t vs.toArray) (hb : IsTup s.heap b ws.toArray) (hv : vs ≠ [])
    (h1 : ws = [] → Q (.ref t) s) (h2 : ws ≠ [] → Q (.ref s.heap.objs.size) { s with heap := s.heap.push { cls := .type "tuple", data := .seq (vs ++ ws).toArray } })
    (hsz : vs.length + ws.length ≤ sizeLine) : wpAny (model prog w) A (binaryOp .Add (.ref t) (.ref b)) Q E s := by
  obtain ⟨⟨cls, dd, data, sl⟩, ho, hc, n, hd⟩ := id ht
  obtain ⟨⟨cls2, dd2, data2, sl2⟩, ho2, hc2, n2, hd2⟩ := id hb
  simp only at hc hd hc2 hd2
  subst hc hd hc2 hd2
  have e : vs.toArray ++ ws.toArray = (vs ++ ws).toArray := by simp
  by_cases hw : ws = []
  · exact concat_meets ⟨_, ho, rfl⟩ ⟨_, ho2, rfl⟩ noFill_tuple_add seq_tuple_add PySem.F.slot_tuple_add PySem.F.entry_tuple_add (PySem.F.args_tuple_add_2 _ _)
      (tuple_addW1 t b vs.toArray ws.toArray n n2 dd dd2 sl sl2 (by simpa using hv) (by simp [hw])) ⟨ho, ho2, h1 hw⟩
  · refine concat_meets ⟨_, ho, rfl⟩ ⟨_, ho2, rfl⟩ noFill_tuple_add seq_tuple_add PySem.F.slot_tuple_add PySem.F.entry_tuple_add (PySem.F.args_tuple_add_2 _ _)
      (tuple_addW2 t b vs.toArray ws.toArray n n2 dd dd2 sl sl2 (by simpa using hv) (by simpa using hw) (by rw [List.size_toArray, List.size_toArray]; exact hsz)) ⟨ho, ho2, ?_⟩
    rw [e]
    exact h2 hw

/-! ### t[a:b], not the whole -/
/-- a slice's bound as a place among n (d where it is left out) -/
def sIx (n d : Nat) : Option Int → Nat
  | none => d
  | some v => if v < 0 then (v + (n : Int)).toNat else min v.toNat n
theorem sIx_nat (n d k : Nat) : sIx n d (some (k : Int)) = min k n := by
  show (if (k : Int) < 0 then ((k : Int) + (n : Int)).toNat else min (k : Int).toNat n) = min k n
  rw [if_neg (by omega), Int.toNat_natCast]
end
end HT

namespace L2
open PySem PySem.Spec PyProof.Rows

/-! ### the parts of a slice -/
abbrev TO := St → Hp → (Option Int → Hp → Prop) → Prop
/-- a slice's part (left out, or an int) -/
def PO (X : Cx) (e : Option Expr) (t : TO) : Prop :=
  ∀ (pins : List (Addr × Obj)) (s : Shared) (σ : St) (H : Hp) (Q : Option Int → Hp → Prop), Inv X pins σ H s → t σ H Q →
    wpAny (model X.prog X.w) X.A (evalPart e X.env) (fun u s' => ∃ o H', Inv X pins σ H' s' ∧ IsPart u o ∧ Q o H') X.xe s
def tNoPart : TO := fun _ H Q => Q none H
def tPart (t : TE) : TO := fun σ H Q => t σ H fun x H1 => ∃ i, x = .int i ∧ Q (some i) H1

section
variable {X : Cx} {e : Expr} {te : TE} {lo hi : Option Expr} {tl th : TO} {pos p2 : Pos}

theorem po_none : PO X none tNoPart := by
  intro pins s σ H Q I h
  rw [evalPart_none]
  exact wpAny_pure ⟨none, H, I, .none, h⟩
theorem po_some (h : PE X e te) : PO X (some e) (tPart te) := by
  intro pins s σ H Q I hw
  rw [evalPart_some]
  refine thn (h pins s σ H _ I hw) fun u s1 ⟨x, H1, I1, r1, q1⟩ => ?_
  obtain ⟨i, rfl, q⟩ := q1
  obtain ⟨t, rfl⟩ := r1
  exact ⟨some i, H1, I1, .int i t, q⟩

/-- what a slice of a value is, by values: the slice object stands at sl -/
def SlR (X : Cx) (r : V → Option Int → Option Int → Hp → VK → Prop) : Prop :=
  ∀ (pins : List (Addr × Obj)) (s : Shared) (σ : St) (H : Hp) (x : V) (v vl vu : Value) (lo hi : Option Int) (sl : Addr) (Q : VK), Inv X pins σ H s → RelV x v → s.heap.IsSliceOf sl vl vu .none → IsPart vl lo → IsPart vu hi → r x lo hi H Q →
    ∃ T id, typeLookup (.type T) "__getitem__" = pure (some (.builtin id)) ∧ s.TypeIs v T ∧ wpAny (model X.prog X.w) X.A (getItem v (.ref sl)) (EP X pins σ Q) X.xe s
def tSl (r : V → Option Int → Option Int → Hp → VK → Prop) (te : TE) (tl th : TO) : TE := fun σ H Q => te σ H fun x H1 => tl σ H1 fun l H2 => th σ H2 fun u H3 => r x l u H3 Q
/-- a[lo:hi], any a -/
theorem pe_slice {r : V → Option Int → Option Int → Hp → VK → Prop} (hr : SlR X r) (he : PE X e te) (hl : PO X lo tl) (hu : PO X hi th) : PE X (.Subscript e (.Slice lo hi none p2) pos) (tSl r te tl th) := by
  intro pins s σ H Q I h
  refine Subscript_ (thn (he pins s σ H _ I h) fun v s1 ⟨x, H1, I1, r1, q1⟩ => ?_)
  refine wpAny_Slice (thn (hl pins s1 σ H1 _ I1 q1) fun vl s2 ⟨l, H2, I2, pl, q2⟩ => thn (hu pins s2 σ H2 _ I2 q2) fun vu s3 ⟨u, H3, I3, pu, q3⟩ => ?_)
  rw [evalPart_none]
  refine wpAny_pure ?_
  have I4 : Inv X pins σ H3 { s3 with heap := s3.heap.push { cls := .type "slice", data := .fields #[vl, vu, .none] } } := I3.kept (t' := s3.toks) fun b ob q => Heap.get?_push_of_some _ q
  obtain ⟨T, id, hT, ht, hg⟩ := hr pins { s3 with heap := s3.heap.push { cls := .type "slice", data := .fields #[vl, vu, .none] } } σ H3 x v vl vu l u s3.heap.objs.size Q I4 r1 (Heap.IsSliceOf.new ..) pl pu q3
  show wpAny (model X.prog X.w) X.A (subscriptTail e (.Slice lo hi none p2) v (.ref s3.heap.objs.size)) (EP X pins σ Q) X.xe { s3 with heap := s3.heap.push { cls := .type "slice", data := .fields #[vl, vu, .none] } }
  exact tail_any (ops := [.ref s3.heap.objs.size, v]) ht hT hg (by with_unfolding_all rfl)

/-- the items of xs[lo:hi] -/
def cutV (xs : List V) (lo hi : Option Int) : List V := (xs.drop (HT.sIx xs.length 0 lo)).take (HT.sIx xs.length xs.length hi - HT.sIx xs.length 0 lo)
theorem cutV_length (xs : List V) (lo hi : Option Int) : (cutV xs lo hi).length ≤ xs.length := by
  unfold cutV
  rw [List.length_take, List.length_drop]
  omega
/-- t[lo:hi], not the whole of it (the whole would be t itself) -/
def rSlT (K : PySem.W.Frag) : V → Option Int → Option Int → Hp → VK → Prop := fun x lo hi H Q => ∃ a xs, x = .ref a ∧ SqT K H a xs ∧
  ¬ (HT.sIx xs.length 0 lo = 0 ∧ HT.sIx xs.length xs.length hi = xs.length) ∧ ∀ p, H p = none → Q (.ref p) (upd H p (.tup (cutV xs lo hi)))
/-! ### t < u, t + u -/
def rLtT (K : PySem.W.Frag) : R2 := fun x y H Q => ∃ a b ns ms, x = .ref a ∧ y = .ref b ∧ SqT K H a (ns.map V.int) ∧ SqT K H b (ms.map V.int) ∧ Q (.bl (HT.lexLt ns ms)) H
/-- t + u, t not empty: u empty gives t itself -/
def rCatT (K : PySem.W.Frag) : R2 := fun x y H Q => ∃ a b xs ys, x = .ref a ∧ y = .ref b ∧ SqT K H a xs ∧ SqT K H b ys ∧ xs ≠ [] ∧ xs.length + ys.length ≤ sizeLine ∧
  (ys = [] → Q (.ref a) H) ∧ (ys ≠ [] → ∀ p, H p = none → Q (.ref p) (upd H p (.tup (xs ++ ys))))
theorem Vals.nil_iff {xs : List V} {us : List Value} (r : Vals xs us) : us = [] ↔ xs = [] := by
  cases r with
  | nil => simp
  | cons _ _ => simp
theorem op_catT : OpR X (binaryOp .Add) (rCatT X.K) := by
  intro pins s σ H x y v u Q I rx ry h
  obtain ⟨a, b, xs, ys, rfl, rfl, ha, hb, hx, hz, q1, q2⟩ := h
  cases rx
  cases ry
  obtain ⟨its, r1, p1, _⟩ := I.tuple ha
  obtain ⟨its2, r2, p2, _⟩ := I.tuple hb
  refine HT.cat_tup p1 p2 (fun z => hx (r1.nil_iff.mp z)) (fun z => ⟨.ref a, H, I, rfl, q1 (r2.nil_iff.mp z)⟩) (fun z => ?_) (by rw [← r1.length, ← r2.length]; exact hz)
  refine ⟨.ref s.heap.objs.size, _, I.laid (t' := s.toks) (o := .tup (xs ++ ys)) (fun b ob q => Heap.get?_push_of_some _ q) (Nat.le_refl _) ?_, rfl, q2 (fun w => z (r2.nil_iff.mpr w)) _ (I.hok.fresh (Nat.le_refl _))⟩
  exact ⟨by rw [List.length_append]; exact hz, _, r1.append r2, IsTup.new _ _⟩
end
end L2

namespace L2
open PySem PySem.Spec PyProof.Rows

/-! ### places -/
/-- the place that an index of any sign means -/
def ixN (n : Nat) (i : Int) : Option Nat := if 0 ≤ i then (if i < n then some i.toNat else none) else if -(n : Int) ≤ i then some (i + n).toNat else none
def atI {α : Type} (xs : List α) (i : Int) : Option α := (ixN xs.length i).bind fun j => xs[j]?
theorem ixN_seq {n : Nat} {i : Int} {j : Nat} (h : ixN n i = some j) : seqIndex? i n = some j ∧ j < n ∧ -(n : Int) ≤ i ∧ i < n := by
  unfold ixN at h
  by_cases h0 : 0 ≤ i
  · rw [if_pos h0] at h
    by_cases h1 : i < n
    · rw [if_pos h1] at h
      have e : i.toNat = j := Option.some.inj h
      exact ⟨by rw [seqIndex_of h0 h1, e], by omega, by omega, h1⟩
    · rw [if_neg h1] at h; cases h
  · rw [if_neg h0] at h
    by_cases h1 : -(n : Int) ≤ i
    · rw [if_pos h1] at h
      have e : (i + n).toNat = j := Option.some.inj h
      exact ⟨by rw [seqIndex_neg (by omega) h1, e], by omega, h1, by omega⟩
    · rw [if_neg h1] at h; cases h
theorem atI_get {α : Type} {xs : List α} {i : Int} {v : α} (h : atI xs i = some v) : ∃ j, seqIndex? i xs.length = some j ∧ xs[j]? = some v ∧ j < xs.length ∧ -(xs.length : Int) ≤ i ∧ i < xs.length := by
  unfold atI at h
  cases e : ixN xs.length i with
  | none => rw [e] at h; cases h
  | some j =>
    rw [e] at h
    obtain ⟨h1, h2, h3, h4⟩ := ixN_seq e
    exact ⟨j, h1, h, h2, h3, h4⟩
theorem atI_nat {α : Type} {xs : List α} {j : Nat} {v : α} (h : xs[j]? = some v) : atI xs (j : Int) = some v := by
  have hj : j < xs.length := (List.getElem?_eq_some_iff.mp h).1
  have e : ixN xs.length (j : Int) = some j := by
    unfold ixN
    rw [if_pos (by omega), if_pos (by omega)]; simp
  unfold atI; rw [e]; exact h
/-! ### what may be subscripted -/
/-- what stands as an index of a plain subscript -/
def PlainIx (b : Expr) : Prop := ∀ o i, subscripted b false o i = operate [o, i] (getItem o i)
/-- a subscript by values -/
def IxR (X : Cx) (r : R2) : Prop :=
  ∀ (value slice : Expr) (pins : List (Addr × Obj)) (s : Shared) (σ : St) (H : Hp) (x y : V) (v u : Value) (Q : VK), Inv X pins σ H s → RelV x v → RelV y u → r x y H Q →
    subscripted slice false v u = operate [v, u] (getItem v u) → wpAny (model X.prog X.w) X.A (subscriptTail value slice v u) (EP X pins σ Q) X.xe s
/-- a call of a builtin's method by values: the receiver, the arguments -/
def MtR (X : Cx) (id : String) (r : V → List V → Hp → VK → Prop) : Prop :=
  ∀ (pins : List (Addr × Obj)) (s : Shared) (σ : St) (H : Hp) (x : V) (xs : List V) (v : Value) (us : List Value) (Q : VK), Inv X pins σ H s → RelV x v → Vals xs us → r x xs H Q →
    wpAny (model X.prog X.w) X.A (call (.builtin id) (v :: us)) (EP X pins σ Q) X.xe s
section
variable {X : Cx} {a b : Expr} {ta tb : TE} {pos : Pos}
/-- a[b] -/
theorem pe_ix {r : R2} (hr : IxR X r) (ha : PE X a ta) (hb : PE X b tb) (hs : PlainIx b) : PE X (.Subscript a b pos) (tOp r ta tb) := by
  intro pins s σ H Q I h
  exact Subscript_ (binT ha hb I h fun v u s2 x y H2 I2 rx ry q => hr a b pins s2 σ H2 x y v u Q I2 rx ry q (hs _ _))

def rIxL (K : PySem.W.Frag) : R2 := fun x y H Q => ∃ p xs i v, x = .ref p ∧ y = .int i ∧ SqL K H p xs ∧ atI xs i = some v ∧ Q v H
def rIxT (K : PySem.W.Frag) : R2 := fun x y H Q => ∃ p xs i v, x = .ref p ∧ y = .int i ∧ SqT K H p xs ∧ atI xs i = some v ∧ Q v H
def rIxS : R2 := fun x y H Q => ∃ z i c, x = .str z ∧ y = .int i ∧ z.length ≤ sizeLine ∧ atI z.cps.toList i = some c ∧ Q (.str ⟨#[c]⟩) H
theorem ix_list : IxR X (rIxL X.K) := by
  intro value slice pins s σ H x y v u Q I rx ry h hs
  obtain ⟨p, xs, i, z, rfl, rfl, hq, he, q⟩ := h
  cases rx
  obtain ⟨t, rfl⟩ := ry
  obtain ⟨its, r, pl, hz⟩ := I.list hq
  obtain ⟨j, h1, h2, h3, h4, h5⟩ := atI_get he
  obtain ⟨w, ew, rw'⟩ := r.get h2
  have hl := r.length
  have hn := line63
  have fin : EP X pins σ Q w s := ⟨z, H, I, rw', q⟩
  by_cases h0 : 0 ≤ i
  · have hj : i.toNat = j := by
      rw [seqIndex_of h0 h5] at h1
      exact Option.some.inj h1
    exact item_listR pl.isList h0 (by omega) (by rw [hj]; simpa using ew) fin hs
  · have hj : (i + (its.toArray.size : Int)).toNat = j := by
      rw [seqIndex_neg (by omega) h4] at h1
      rw [List.size_toArray, ← hl]
      exact Option.some.inj h1
    exact subscriptTail_builtinR (x := w) pl.isList.typeIs slot_list_getitem.lookup
      (wpAny_getItem_list_neg (Q := fun r s' => r = w ∧ EP X pins σ Q r s') pl.isList (by omega) (by rw [List.size_toArray] <;> omega) (by omega) (by rw [hj]; simpa using ew) ⟨rfl, fin⟩) hs
theorem ix_tup : IxR X (rIxT X.K) := by
  intro value slice pins s σ H x y v u Q I rx ry h hs
  obtain ⟨p, xs, i, z, rfl, rfl, hq, he, q⟩ := h
  cases rx
  obtain ⟨t, rfl⟩ := ry
  obtain ⟨its, r, pl, hz⟩ := I.tuple hq
  obtain ⟨j, h1, h2, h3, h4, h5⟩ := atI_get he
  obtain ⟨w, ew, rw'⟩ := r.get h2
  have hl := r.length
  have hn := line63
  have fin : EP X pins σ Q w s := ⟨z, H, I, rw', q⟩
  exact subscriptTail_builtinR (x := w) pl.typeIs slot_tuple_getitem.lookup
    (getItem_tuple (j := j) (Q := fun r s' => r = w ∧ EP X pins σ Q r s') pl (by omega) (by omega) (by rw [List.size_toArray, ← hl]; exact h1) (by simpa using ew) ⟨rfl, fin⟩) hs
/-- list, tuple or str -/
def rIx (K : PySem.W.Frag) : R2 := fun x y H Q => rIxL K x y H Q ∨ rIxT K x y H Q ∨ rIxS x y H Q
/-! ### xs[i] = v, any sign -/
/-- the list's object behind a store -/
theorem mapSeq_set (its : List Value) (n j : Nat) (u : Value) : Obj.mapSeq (·.setIfInBounds j u) { cls := .type "list", data := .seq its.toArray n } = { cls := .type "list", data := .seq (its.set j u).toArray n } := by
  simp [Obj.mapSeq]
theorem Inv.lst {pins : List (Addr × Obj)} {σ : St} {H : Hp} {s : Shared} {p : Addr} {xs : List V} (I : Inv X pins σ H s) (h : H p = some (.lst xs)) :
    ∃ (its : List Value) (n : Nat), Vals xs its ∧ s.heap.get? p = some { cls := .type "list", data := .seq its.toArray n } ∧ xs.length ≤ sizeLine := by
  obtain ⟨z, its, n, r, e⟩ := I.hok p _ h
  exact ⟨its, n, r, e, z⟩
/-- the list at p is written by an update of its object -/
theorem Inv.lstUpd {pins : List (Addr × Obj)} {σ : St} {H : Hp} {s : Shared} {p : Addr} {xs ys : List V} {its its' : List Value} {n n' : Nat} {f : Obj → Obj} (I : Inv X pins σ H s) (h : H p = some (.lst xs))
    (ho : s.heap.get? p = some { cls := .type "list", data := .seq its.toArray n }) (hf : f { cls := .type "list", data := .seq its.toArray n } = { cls := .type "list", data := .seq its'.toArray n' }) (r : Vals ys its') (hz : ys.length ≤ sizeLine) (t : Nat) :
    Inv X pins σ (upd H p (.lst ys)) { s with heap := s.heap.update p f, toks := t } := by
  have e : (s.heap.update p f).get? p = some { cls := .type "list", data := .seq its'.toArray n' } := by
    rw [Heap.get?_update_self f ho (by rw [hf] <;> rfl), hf]
  refine I.write (x := p) (e := p) (by rw [h]; trivial) (.inl rfl) (fun b u hb q => (Heap.get?_update_other _ _ (Ne.symm hb)).trans q) ⟨_, e⟩ ?_
  exact ⟨hz, its', n', r, e⟩
def rSetL : V → V → V → Hp → (Hp → Prop) → Prop := fun o i v H Q => ∃ p xs k j, o = .ref p ∧ i = .int k ∧ H p = some (.lst xs) ∧ ixN xs.length k = some j ∧ Q (upd H p (.lst (xs.set j v)))
theorem set_list : PSet X rSetL := by
  intro pins s σ H o i v ov iv u Q I ro ri rv h
  obtain ⟨p, xs, k, j, rfl, rfl, hp, hj, q⟩ := h
  cases ro
  obtain ⟨t, rfl⟩ := ri
  obtain ⟨its, n, r, ho, hz⟩ := I.lst hp
  obtain ⟨h1, h2, h3, h4⟩ := ixN_seq hj
  have hl := r.length
  have hn := line63
  have I' : Inv X pins σ (upd H p (.lst (xs.set j v))) { s with heap := s.heap.update p (Obj.mapSeq (·.setIfInBounds j u)) } :=
    I.lstUpd hp ho (mapSeq_set its n j u) (r.set rv j) (by rw [List.length_set]; exact hz) s.toks
  by_cases h0 : 0 ≤ k
  · have hk : k.toNat = j := by
      rw [seqIndex_of h0 h4] at h1
      exact Option.some.inj h1
    exact PySem.W.ki_setAt ho h0 (by omega) (by rw [List.size_toArray, ← hl]; exact h4) (by rw [hk]; exact ⟨_, I', q⟩)
  · have hk : (k + (its.toArray.size : Int)).toNat = j := by
      rw [seqIndex_neg (by omega) h3] at h1
      rw [List.size_toArray, ← hl]
      exact Option.some.inj h1
    exact PySem.W.ki_setBack ho (by omega) (by rw [List.size_toArray, ← hl]; exact h3) (by omega) (by rw [hk]; exact ⟨_, I', q⟩)

/-! ### slices -/
theorem slice_bounds (lo hi : Option Int) (n : Nat) : (sliceBounds lo hi none n).1 = ((HT.sIx n 0 lo : Nat) : Int) ∧ (sliceBounds lo hi none n).2.1 = ((HT.sIx n n hi : Nat) : Int) ∧ (sliceBounds lo hi none n).2.2 = 1 := by
  refine ⟨?_, ?_, rfl⟩
  · cases lo with
    | none => simp [sliceBounds, HT.sIx]
    | some i =>
      simp only [sliceBounds, HT.sIx, Option.getD_none, show (1 : Int) > 0 by decide, if_true]
      by_cases h : i < 0
      · simp only [h, if_true] <;> omega
      · simp only [h, if_false] <;> omega
  · cases hi with
    | none => simp [sliceBounds, HT.sIx]
    | some i =>
      simp only [sliceBounds, HT.sIx, Option.getD_none, show (1 : Int) > 0 by decide, if_true]
      by_cases h : i < 0
      · simp only [h, if_true] <;> omega
      · simp only [h, if_false] <;> omega
theorem slicePick_cut (its : List Value) (lo hi : Option Int) : slicePick its.toArray lo hi none = ((its.drop (HT.sIx its.length 0 lo)).take (HT.sIx its.length its.length hi - HT.sIx its.length 0 lo)).toArray := by
  obtain ⟨h1, h2, h3⟩ := slice_bounds lo hi its.toArray.size
  unfold slicePick
  rw [h1, h2, h3]
  simp only [sliceRange_one, pick_run, List.size_toArray] <;> rfl
/-- xs[lo:hi] of a list: a new list -/
def rSlL (K : PySem.W.Frag) : V → Option Int → Option Int → Hp → VK → Prop := fun x lo hi H Q => ∃ a xs, x = .ref a ∧ SqL K H a xs ∧ ∀ p, H p = none → Q (.ref p) (upd H p (.lst (cutV xs lo hi)))
theorem sl_list : SlR X (rSlL X.K) := by
  intro pins s σ H x v vl vu lo hi sl Q I rx hs pl pu h
  obtain ⟨a, xs, rfl, hx, q⟩ := h
  cases rx
  obtain ⟨its, r, ht, hz⟩ := I.list hx
  have hlen := r.length
  refine ⟨"list", _, slot_list_getitem.lookup, ht.isList.typeIs, ?_⟩
  refine wpAny_getItem_list_slice ht.isList hs pl pu .none (by simp) ?_ (by rw [List.size_toArray] <;> omega)
  rw [slicePick_cut, ← hlen]
  refine ⟨.ref s.heap.objs.size, _, I.laid (t' := s.toks) (o := .lst (cutV xs lo hi)) (fun b ob q => Heap.get?_push_of_some _ q) (Nat.le_refl _) ?_, rfl, q _ (I.hok.fresh (Nat.le_refl _))⟩
  exact ⟨Nat.le_trans (cutV_length xs lo hi) hz, _, 0, (r.drop (HT.sIx xs.length 0 lo)).take (HT.sIx xs.length xs.length hi - HT.sIx xs.length 0 lo), Heap.get?_push_size _ rfl⟩

/-! ### in, not in: flat items -/
def flatV : V → Bool
  | .non => true
  | .bl _ => true
  | .int _ => true
  | .str _ => true
  | _ => false
/-- == of flat values -/
def eqV : V → V → Bool
  | .non, .non => true
  | .bl a, .bl b => a == b
  | .bl a, .int b => (if a then 1 else 0) == b
  | .int a, .bl b => a == (if b then 1 else 0)
  | .int a, .int b => a == b
  | .str a, .str b => a == b
  | _, _ => false
/-- the items' answers, read off the values (a value's own answer does not lean on its token) -/
def eqU (x : V) (u : Value) : Bool := match u with
  | .none => eqV .non x
  | .bool b => eqV (.bl b) x
  | .int i _ => eqV (.int i) x
  | .str z _ => eqV (.str z) x
  | _ => false
def inV (x : V) (xs : List V) : Bool := xs.any fun y => eqV y x
/-- x in a list or tuple of flat items -/
def rIn (K : PySem.W.Frag) (neg : Bool) : R2 := fun x y H Q => ∃ p xs, y = .ref p ∧ (SqL K H p xs ∨ SqT K H p xs) ∧ flatV x = true ∧ xs.all flatV = true ∧ Q (.bl (if neg then !inV x xs else inV x xs)) H
/-! ### len, list(x), tuple(x) of any list or tuple that is read -/
theorem call_len_seq : CallR X (.builtin "len") (fun xs H Q => ∃ p ys, xs = [.ref p] ∧ (SqL X.K H p ys ∨ SqT X.K H p ys) ∧ Q (.int ys.length) H) := by
  intro pins s σ H xs us Q I r h
  obtain ⟨p, ys, rfl, hq, q⟩ := h
  obtain ⟨u, rfl, rx⟩ := vals1 r
  cases rx
  have hn := line63
  rcases hq with hq | hq
  · obtain ⟨its, r', pl, hz⟩ := I.list hq
    have hlen := r'.length
    exact Calls.call_len_list pl.isList (by simp only [List.size_toArray] <;> omega) ⟨.int ys.length, H, I.tok _, ⟨s.toks + 1, by rw [List.size_toArray, hlen]⟩, q⟩
  · obtain ⟨its, r', pl, hz⟩ := I.tuple hq
    have hlen := r'.length
    exact len_tuple pl (by simp only [List.size_toArray] <;> omega) ⟨.int ys.length, H, I.tok _, ⟨s.toks + 1, by rw [List.size_toArray, hlen]⟩, q⟩
theorem call_list_of : CallR X (.type "list") (fun xs H Q => ∃ p ys, xs = [.ref p] ∧ (SqL X.K H p ys ∨ SqT X.K H p ys) ∧ ∀ l, H l = none → Q (.ref l) (upd H l (.lst ys))) := by
  intro pins s σ H xs us Q I r h
  obtain ⟨p, ys, rfl, hq, q⟩ := h
  obtain ⟨u, rfl, rx⟩ := vals1 r
  cases rx
  have fin : ∀ (its : List Value), Vals ys its → ys.length ≤ sizeLine → ∀ (h' : Heap) (c' : Nat), (∀ b o', s.heap.get? b = some o' → h'.get? b = some o') →
      h'.get? s.heap.objs.size = some { cls := .type "list", dict := none, data := .seq its.toArray c', slots := #[] } → EP X pins σ Q (.ref s.heap.objs.size) { s with heap := h' } := fun its r' hz h' c' kp e =>
    ⟨.ref s.heap.objs.size, _, I.laid (t' := s.toks) kp (Nat.le_refl _) (show ObjOk X.prog X.w _ h' _ (.lst ys) from ⟨hz, its, c', r', e⟩), rfl, q _ (I.hok.fresh (Nat.le_refl _))⟩
  rcases hq with hq | hq
  · obtain ⟨its, r', pl, hz⟩ := I.list hq
    have hlen := r'.length
    obtain ⟨o, ho, hc, n, hd⟩ := pl.isList
    exact call_list_seq p (.inl rfl) ho hc hd (fun h' c' kp e => fin its r' hz h' c' kp e) (by simp only [List.size_toArray] <;> omega)
  · obtain ⟨its, r', pl, hz⟩ := I.tuple hq
    have hlen := r'.length
    obtain ⟨o, ho, hc, n, hd⟩ := pl
    exact call_list_seq p (.inr rfl) ho hc hd (fun h' c' kp e => fin its r' hz h' c' kp e) (by simp only [List.size_toArray] <;> omega)
theorem call_tuple_of : CallR X (.type "tuple") (fun xs H Q => ∃ p ys, xs = [.ref p] ∧ ((SqL X.K H p ys ∧ ∀ l, H l = none → Q (.ref l) (upd H l (.tup ys))) ∨ (SqT X.K H p ys ∧ Q (.ref p) H))) := by
  intro pins s σ H xs us Q I r h
  obtain ⟨p, ys, rfl, h⟩ := h
  obtain ⟨u, rfl, rx⟩ := vals1 r
  cases rx
  rcases h with ⟨hq, q⟩ | ⟨hq, q⟩
  · obtain ⟨its, r', pl, hz⟩ := I.list hq
    have hlen := r'.length
    refine call_tuple_list pl.isList (fun h' kp => ?_) (by simp only [List.size_toArray] <;> omega)
    have I1 : Inv X pins σ H { s with heap := h' } := I.kept (t' := s.toks) kp
    have I2 : Inv X pins σ (upd H h'.objs.size (.tup ys)) { s with heap := h'.push { cls := .type "tuple", data := .seq its.toArray } } :=
      I1.laid (t' := s.toks) (fun b o e => Heap.get?_push_of_some _ e) (Nat.le_refl _) (show ObjOk X.prog X.w _ _ _ (.tup ys) from ⟨hz, its, r', IsTup.new _ _⟩)
    exact ⟨.ref h'.objs.size, _, I2, rfl, q _ (I1.hok.fresh (Nat.le_refl _))⟩
  · obtain ⟨its, r', pl, hz⟩ := I.tuple hq
    exact call_tuple_same pl ⟨.ref p, H, I, rfl, q⟩

/-! ### the call of a builtin's method: o.m(..) -/
/-- the value is of that builtin type -/
def tyV (K : PySem.W.Frag) (T : String) (x : V) (H : Hp) : Prop := match x with
  | .str _ => T = "str"
  | .int _ => T = "int"
  | .ref p => (T = "list" ∧ ∃ xs, SqL K H p xs) ∨ (T = "tuple" ∧ ∃ o, K.lookup p = some o ∧ o.cls = .type "tuple" ∧ o.dict = none) ∨
      (T = "dict" ∧ ((∃ kvs, H p = some (.dK kvs)) ∨ ∃ kvs, H p = some (.dT kvs))) ∨ (T = "set" ∧ ∃ S n, H p = some (.set S n))
  | _ => False
theorem tyV_is {pins : List (Addr × Obj)} {σ : St} {H : Hp} {s : Shared} {T : String} {x : V} {v : Value} (I : Inv X pins σ H s) (r : RelV x v) (ty : tyV X.K T x H) :
    s.TypeIs v T ∧ ∀ a, v = .ref a → ∃ ob, s.heap.get? a = some ob ∧ ob.dict = none := by
  cases x with
  | str z =>
    obtain ⟨t, rfl⟩ := r
    cases (show T = "str" from ty)
    exact ⟨typeIs_str s z t, fun _ e => nomatch e⟩
  | int i =>
    obtain ⟨t, rfl⟩ := r
    cases (show T = "int" from ty)
    exact ⟨typeIs_int s i t, fun _ e => nomatch e⟩
  | ref p =>
    cases r
    rcases ty with ⟨rfl, xs, hq⟩ | ⟨rfl, o, hk, hc, hd⟩ | ⟨rfl, hk⟩ | ⟨rfl, S, n, hk⟩
    · obtain ⟨its, _, pl, _⟩ := I.list hq
      refine ⟨pl.isList.typeIs, fun a e => ?_⟩
      cases e
      obtain ⟨o, n, e, c, hd, _⟩ := pl
      exact ⟨o, e, hd⟩
    · refine ⟨⟨o, I.kIn p o hk, hc⟩, fun a e => ?_⟩
      cases e
      exact ⟨o, I.kIn _ o hk, hd⟩
    · have z : ∃ o, s.heap.get? p = some o ∧ o.ExactDict := by
        rcases hk with ⟨kvs, hk⟩ | ⟨kvs, hk⟩
        · obtain ⟨_, _, _, _, o, _, _, e, ex, _⟩ := I.hok p _ hk
          exact ⟨o, e, ex⟩
        · obtain ⟨_, _, _, _, o, _, _, e, ex, _⟩ := I.hok p _ hk
          exact ⟨o, e, ex⟩
      obtain ⟨o, e, ex⟩ := z
      refine ⟨⟨o, e, ex.1⟩, fun a e2 => ?_⟩
      cases e2
      exact ⟨o, e, ex.2.1⟩
    · obtain ⟨o, _, _, _, e, ex, _⟩ := I.hok p _ hk
      refine ⟨⟨o, e, ex.1⟩, fun a e2 => ?_⟩
      cases e2
      exact ⟨o, e, ex.2.1⟩
  | _ => exact False.elim ty
def tBM0 (K : PySem.W.Frag) (T : String) (r : V → List V → Hp → VK → Prop) (to : TE) : TE := fun σ H Q => to σ H fun x H1 => tyV K T x H1 ∧ r x [] H1 Q
def tBM (K : PySem.W.Frag) (T : String) (r : V → List V → Hp → VK → Prop) (to : TE) (t : TA) : TE := fun σ H Q => to σ H fun x H1 => tyV K T x H1 ∧ t σ H1 fun xs H2 => r x xs H2 Q
variable {o e : Expr} {es : List Expr} {to : TE} {t : TA} {name : Str} {apos cpos : Pos} {T id : String} {r : V → List V → Hp → VK → Prop}
theorem pe_bm (pa : PlainAttrs T) (slot : Slot T name id) (hty : typeOf (.builtin id) = pure (.type "method_descriptor")) (hm : MtR X id r) (ho : PE X o to) (ha : PA X (e :: es) t)
    (hbase : attributeBase o name X.env (eval o X.env) = eval o X.env := by rfl)
    (hfew : ((backTo cpos (starEach (e :: es) X.env)).all (fun x => !x.1) && (backToKw cpos (keywordEach [] X.env)).all (fun x => x.1.isSome)
      && decide ((e :: es).length + ([] : List Keyword).length + (if ([] : List Keyword).isEmpty then 0 else 1) < 30)) = true := by rfl)
    (hline : (apos.endLine == cpos.line) = true := by rfl) (hs : starEach (e :: es) X.env = (false, eval e X.env) :: starEach es X.env := by rfl) (hplain : (backTo cpos (starEach es X.env)).any (·.1) = false := by rfl) :
    PE X (.Call (.Attribute o name apos) (e :: es) [] cpos) (tBM X.K T r to t) := by
  intro pins s σ H Q I h
  refine wpAny_Call_method_late hbase hfew hline rfl (thn (ho pins s σ H _ I h) fun v s1 ⟨x, H1, I1, r1, ty, q1⟩ => ?_)
  obtain ⟨h1, h2⟩ := tyV_is I1 r1 ty
  refine ⟨T, id, pa, slot, hty, h1, h2, ?_⟩
  have hA := ha cpos pins s1 σ H1 _ I1 q1
  rw [hs] at hA ⊢
  refine Calls.callWith_builtin (by show (false || (backTo cpos (starEach es X.env)).any (·.1)) = false; rw [hplain] <;> rfl) (Calls.evalArgs_plain ?_)
  exact thn hA fun us s2 ⟨vs, H2, I2, r2, q2⟩ => hm pins s2 σ H2 x vs v us Q I2 r1 r2 q2
/- xs.append(e), list.index on a module's tuple .. are MtR facts of 06m -/
end
end L2

namespace L2
open PySem PySem.Spec PyProof.Rows

def MtM (X : Cx) (id : String) (r : V → List V → Hp → VK → Prop) : Prop :=
  ∀ (pins : List (Addr × Obj)) (s : Shared) (σ : St) (H : Hp) (x : V) (xs : List V) (v : Value) (us : List Value) (Q : VK), Inv X pins σ H s → RelV x v → Vals xs us → r x xs H Q →
    wpAny (model X.prog X.w) X.A (call (.builtin id) (v :: us)) (EP X pins σ Q) X.xe s

/-! ### lists of values -/
theorem Vals.one : ∀ {x : V} {us : List Value}, Vals [x] us → ∃ u, us = [u] ∧ RelV x u
  | _, _, .cons r .nil => ⟨_, rfl, r⟩
theorem Vals.two : ∀ {x y : V} {us : List Value}, Vals [x, y] us → ∃ u v, us = [u, v] ∧ RelV x u ∧ RelV y v
  | _, _, _, .cons r (.cons q .nil) => ⟨_, _, rfl, r, q⟩
section
variable {X : Cx} {pins : List (Addr × Obj)} {σ : St} {H : Hp} {s : Shared} {l b : Addr} {xs ys zs : List V}

/-! ### the two steps: a tracked list is rewritten, a new list is laid -/
theorem Inv.lset {its its' : List Value} {n : Nat} {f : Array Value → Array Value} {t' : Nat} (I : Inv X pins σ H s) (hH : H l = some (.lst xs))
    (e : s.heap.get? l = some { cls := .type "list", data := .seq its.toArray n }) (hf : f its.toArray = its'.toArray) (hv : Vals ys its') (hz : ys.length ≤ sizeLine) :
    Inv X pins σ (upd H l (.lst ys)) { s with heap := s.heap.update l (Obj.mapSeq f), toks := t' } := by
  have q := PySem.IsL.update e f
  rw [hf] at q
  refine I.write (x := l) (e := l) (by rw [hH]; exact trivial) (.inl rfl) (fun b' u hb hu => (Heap.get?_update_other s.heap (Obj.mapSeq f) (Ne.symm hb)).trans hu) ⟨_, q⟩ ?_
  exact ⟨hz, its', _, hv, q⟩
theorem Inv.lstM (I : Inv X pins σ H s) (hH : H l = some (.lst xs)) : xs.length ≤ sizeLine ∧ ∃ (its : List Value) (n : Nat), Vals xs its ∧ xs.length = its.length ∧ s.heap.get? l = some { cls := .type "list", data := .seq its.toArray n } := by
  obtain ⟨z, its, n, r, e⟩ := I.hok l _ hH
  exact ⟨z, its, n, r, r.length, e⟩

end

section
variable {X : Cx}

/-! ### methods -/
def rAppend : V → List V → Hp → VK → Prop := fun x vs H Q => ∃ l xs y, x = .ref l ∧ vs = [y] ∧ H l = some (.lst xs) ∧ xs.length < sizeLine ∧ Q .non (upd H l (.lst (xs ++ [y])))
theorem mt_append : MtM X "list.append" rAppend := by
  intro pins s σ H x vs v us Q I rx rv h
  obtain ⟨l, xs, y, rfl, rfl, hH, hz, q⟩ := h
  cases rx
  obtain ⟨u, rfl, ru⟩ := rv.one
  obtain ⟨z, its, n, r, hl, e⟩ := I.lstM hH
  refine call_meets F.slot_list_append ⟨_, e, rfl⟩ F.entry_list_append (F.args_list_append_2 _ _) (PySem.list_append l its.toArray n u (by rw [List.size_toArray]; omega)) ⟨e, ?_⟩
  refine ⟨.non, _, I.lset (its' := its ++ [u]) hH e (by simp) (r.append (.cons ru .nil)) ?_, rfl, q⟩
  rw [List.length_append, List.length_singleton]
  omega

def rExtend : V → List V → Hp → VK → Prop := fun x vs H Q => ∃ l b xs zs, x = .ref l ∧ vs = [.ref b] ∧ H l = some (.lst xs) ∧ H b = some (.lst zs) ∧ xs.length + zs.length ≤ sizeLine ∧ Q .non (upd H l (.lst (xs ++ zs)))
def rPop : V → List V → Hp → VK → Prop := fun x vs H Q => ∃ l xs y, x = .ref l ∧ vs = [] ∧ H l = some (.lst xs) ∧ xs[xs.length - 1]? = some y ∧ Q y (upd H l (.lst xs.dropLast))
def rPopAt : V → List V → Hp → VK → Prop := fun x vs H Q => ∃ l xs i k y, x = .ref l ∧ vs = [.int i] ∧ H l = some (.lst xs) ∧ -(2 ^ 63) ≤ i ∧ i < 2 ^ 63 ∧ seqIndex? i xs.length = some k ∧ xs[k]? = some y ∧ Q y (upd H l (.lst (xs.eraseIdx k)))
def rReverse : V → List V → Hp → VK → Prop := fun x vs H Q => ∃ l xs, x = .ref l ∧ vs = [] ∧ H l = some (.lst xs) ∧ Q .non (upd H l (.lst xs.reverse))
def rClear : V → List V → Hp → VK → Prop := fun x vs H Q => ∃ l xs, x = .ref l ∧ vs = [] ∧ H l = some (.lst xs) ∧ Q .non (upd H l (.lst []))
/-! ### list + list, list += list, list * int -/
def rCat : R2 := fun x y H Q => ∃ l b xs zs, x = .ref l ∧ y = .ref b ∧ H l = some (.lst xs) ∧ H b = some (.lst zs) ∧ xs.length + zs.length ≤ sizeLine ∧ ∀ p, H p = none → Q (.ref p) (upd H p (.lst (xs ++ zs)))
/-- a list times an int (a negative one is nothing) -/
def rRep : R2 := fun x y H Q => ∃ l k xs, x = .ref l ∧ y = .int k ∧ H l = some (.lst xs) ∧ -(2 ^ 63) ≤ k ∧ k < 2 ^ 63 ∧ xs.length * k.toNat ≤ sizeLine ∧
  ∀ p, H p = none → Q (.ref p) (upd H p (.lst (List.replicate k.toNat xs).flatten))
/-! ### del xs[i] -/
end

/-! ### xs[a:b] = ys -/
section
variable {prog : Program} {w : World} {A : Around} {E : Value → Shared → Prop} {s : Shared}
end

section
variable {X : Cx}
end
end L2

namespace Att
open PySem PySem.W PySem.Calls PyProof.Rows

/-! ### the script -/
theorem ints_of_wellAll {P : Params} {h : Heap} : ∀ (ns : List Int) (vs : List Value), WellAll P h vs (ns.map WData.int) → IntsAre vs ns := by
  intro ns
  induction ns with
  | nil =>
    intro vs w
    rw [List.map_nil] at w
    cases w
    exact .nil
  | cons n ns ih =>
    intro vs w
    rw [List.map_cons] at w
    cases w with
    | cons a b =>
      cases a
      exact .cons _ _ (ih _ b)

theorem script_of {l : OpenLaw} {n : Nat} (hn : l.most = some n) {P : Params} {h : Heap} {args : List WData} {vals : List Value}
    (hpre : l.row.toRowW.claim.pre args = true) (hwl : WellAll P h vals args) :
    ∃ a vs ns, vals = [Value.ref a] ∧ args = [WData.list (ns.map WData.int)] ∧ h.get? a = some { cls := .type "list", data := .seq vs.toArray } ∧ IntsAre vs ns ∧ ns.length ≤ n := by
  have hsh : WShape.hasAll [] args [.list .int] = true := (pre_splitW hpre).1
  have hc : l.pre.holds [] { args := args } = true := (pre_splitW hpre).2
  obtain ⟨d, r, rfl, h1, h2⟩ := hasAllW_cons hsh
  obtain rfl := hasAllW_nil h2
  obtain ⟨xs, rfl, h3⟩ := hasW_list h1
  obtain ⟨ns, rfl⟩ := items_int h3
  have hlen : ns.length ≤ n := by
    unfold OpenLaw.pre at hc
    have h4 : (WTm.not (.lt (.lit (.int (n : Int))) (.len (.arg 0)))).holds [] { args := [.list (ns.map .int)] } = true := by
      have h4 := (holds_andW hc).1
      rw [hn] at h4
      exact h4
    have h5 := condW_of h4 (w_not (w_lt w_lit (w_len_list (w_arg rfl))))
    rw [List.length_map] at h5
    refine Nat.le_of_not_lt fun q => ?_
    have q' : (n : Int) < ((ns.length : Nat) : Int) := by omega
    first
      | (rw [decide_eq_true q'] at h5; exact absurd h5 (by decide))
      | (simp at h5; omega)
  cases hwl with
  | cons w1 w2 =>
    cases w2
    cases w1 with
    | list ho hall => exact ⟨_, _, ns, rfl, rfl, ho, ints_of_wellAll ns _ hall, hlen⟩

theorem post_true (l : OpenLaw) (args : List WData) : l.row.toRowW.claim.post args (.bool true) args = true :=
  postW_of (r := l.row.toRowW) (X := (true == true))
    (show WShape.has [] (.bool true) .bool = true by first | rfl | decide | simp [WShape.has, WShape.arms, WShape.armsAll])
    (show (WTm.eq .res (.lit (.bool true))).value [] { args := args, res := some (.bool true), after := args } = some (.bool (true == true)) from w_eq_bool (w_res rfl) w_lit) rfl

/-! ### the attachment: holds_open's last premise (the goal 'hc' behind k_head) from a wpAny of the law's body -/
/-- the same from a codeAny of the CALL (for a layer whose function contracts speak of calls) -/
theorem attach_call {l : OpenLaw} {n : Nat} {q : Program} {loose : List Str} {XP : (Str → Option Value) → Heap → Prop} {YP : World → Heap → Prop} {d : DefRec}
    (hn : l.most = some n) (hdf : d.params.defaults = [])
    (call : ∀ (w : World) (s₀ s₁ : Shared) (mg mb : Str → Option Value) (fa : Addr) (o : Obj) (pm cd doc : Value) (a : Addr) (vs : List Value) (ns : List Int),
      Ground q loose [] XP w s₀ mg mb s₁.heap → YP w s₁.heap →
      s₁.heap.get? fa = some o → o.data = .func (docDef d.name d.params d.body d.scope pm cd doc) → s₁.heap.CodeRec cd d.name → mg d.name = some (.ref fa) →
      s₁.heap.get? a = some { cls := .type "list", data := .seq vs.toArray } → IntsAre vs ns → ns.length ≤ n → s₁.gens = #[] →
      codeAny (model l.prog w) callerA (.call (.ref fa) ⟨[.ref a], []⟩) (fun r s' => r = .ok (.ret (.bool true)) ∧ OldK s₁.heap s'.heap ∧ s'.os = s₁.os ∧ AllBare s'.gens) s₁) :
    WalkO q loose XP YP l.row.toRowW d [] (fun f vs => PySem.call f vs) := by
  intro w s₀ s₁ mg mb G Y fa o pm cd doc dV kV ho hd hcd hD hmg hg args vals as hpre hlay hrd hwl hlo
  obtain rfl : dV = .none := Dflts.none hD hdf
  obtain rfl : kV = .none := Dflts.noKw hD
  obtain ⟨a, vs, ns, rfl, rfl, hobj, hints, hlen⟩ := script_of hn hpre hwl
  refine enter_call (codeAny_mono (call w s₀ s₁ mg mb fa o pm cd doc a vs ns G Y ho (fd_plain hd) hcd hmg hobj hints hlen hg) fun r s' hq => ?_)
  obtain ⟨rfl, h2, h3, h4⟩ := hq
  exact ⟨.inl ⟨.bool true, .bool true, [], rfl, fun _ => rfl, .bool true, post_true l _, fun _ => ⟨List.Pairwise.nil, fun _ hm => (nomatch hm)⟩⟩, h2, h3, h4⟩

/-! ### rules over ANY heap (no ledger) from facts about the written part K: the library's own take a ledger (News) for what they write -/
section
variable {prog : Program} {w : World} {A : Around} {E : Value → Shared → Prop} {s : Shared} {K : Frag}

/-! the whole heap as the ledger: makes every rule that writes through a ledger a rule over any heap -/
def noObjs (h : Heap) : Heap := { h with objs := #[] }
theorem noObjs_get (h : Heap) (b : Addr) : (noObjs h).get? b = none := by
  cases e : (noObjs h).get? b with
  | none => rfl
  | some o => exact absurd (Heap.lt_size e) (Nat.not_lt_zero _)
def ledger (h : Heap) (L d : Addr) : List (Addr × Obj) := (List.range h.objs.size).filterMap fun a => if a = L ∨ a = d then none else (h.get? a).map fun o => (a, o)
theorem mem_ledger {h : Heap} {L d a : Addr} {o : Obj} : (a, o) ∈ ledger h L d ↔ a ≠ L ∧ a ≠ d ∧ h.get? a = some o := by
  unfold ledger
  rw [List.mem_filterMap]
  constructor
  · rintro ⟨b, _, e⟩
    split at e
    · cases e
    · rename_i hb
      obtain ⟨o', ho, e'⟩ := Option.map_eq_some_iff.mp e
      cases e'
      exact ⟨fun q => hb (.inl q), fun q => hb (.inr q), ho⟩
  · rintro ⟨n1, n2, ho⟩
    refine ⟨a, List.mem_range.mpr (Heap.lt_size ho), ?_⟩
    rw [if_neg (show ¬ (a = L ∨ a = d) from fun q => q.elim n1 n2), ho] <;> rfl
theorem fr_all {h : Heap} {L : Addr} {m : Str → Option Value} (n : h.Ns L m) : Fr (noObjs h) L h m :=
  ⟨n, fun b o e => (by rw [noObjs_get] at e; cases e), Nat.zero_le _⟩
end
end Att

namespace L2
open PySem PySem.Spec PyProof.Rows

theorem vals_ints : ∀ {vs : List Value} {ns : List Int}, IntsAre vs ns → Vals (ns.map V.int) vs
  | _, _, .nil => .nil
  | _, _, .cons n t h => .cons ⟨t, rfl⟩ (vals_ints h)

/-- nothing is tracked but the script, known to the object (or it is an object of the module) -/
def Only (H : Hp) : Prop := ∀ b, H b = none ∨ ∃ o xs, H b = some (.frz o (.lst xs))

/-- THE HEAD: the law's promise, at the heap behind the top. F, the promise of the law's def, may use that base is part of the heap (so K.In base, base.Ns mainGlobals mg stand in Mod) -/
theorem law_call {P : Program} {w : World} {K : PySem.W.Frag} {mg mb : Str → Option Value} {CX : CXT} {k : Nat} {fa a : Addr} {fd : FuncData} {x : Str} {sp : Sp} {s₁ : Shared} {vs : List Value} {ns : List Int}
    (KX : K.In s₁.heap) (hns : s₁.heap.Ns mainGlobals mg) (hb : s₁.heap.Ns builtinsNs mb) (hbb : ∀ x : Str, x ≠ "__name__" → mb x = bootBuiltins x) (hlim : s₁.heap.NoLimit) (hg : s₁.gens = #[])
    (ha : s₁.heap.get? a = some { cls := .type "list", data := .seq vs.toArray }) (hi : IntsAre vs ns) (hl : ns.length ≤ sizeLine) (hr : Room k callerA)
    (F : ∀ base : Heap, K.In base → base.Ns mainGlobals mg → FnOk P w K mg base CX k fa fd [x] sp) (hbind : ∀ (s : Shared) (u : Value), BindsTo s fd ⟨[u], []⟩ [(x, u)])
    (hsp : ∀ H : Hp, Only H → SqL K H a (ns.map V.int) → sp [.ref a] H (fun v _ => v = .bl true) fun _ _ _ => False)
    (hCX : ∀ H e s', CX [] H s₁ (fun _ _ _ => False) e s' → False) :
    codeAny (model P w) callerA (.call (.ref fa) ⟨[.ref a], []⟩) (fun r s' => r = .ok (.ret (.bool true)) ∧ OldK s₁.heap s'.heap ∧ s'.os = s₁.os ∧ AllBare s'.gens) s₁ := by
  have rv := vals_ints hi
  have lenV := hi.length
  -- from an abstract heap in which nothing but the script may be tracked
  have core : ∀ H : Hp, Only H → SqL K H a (ns.map V.int) → HOk P w H s₁.heap → (∀ b, H b ≠ none → b = a) → (H a ≠ none → K.lookup a = none) →
      codeAny (model P w) callerA (.call (.ref fa) ⟨[.ref a], []⟩) (fun r s' => r = .ok (.ret (.bool true)) ∧ OldK s₁.heap s'.heap ∧ s'.os = s₁.os ∧ AllBare s'.gens) s₁ := by
    intro H hO hS hok hA hK
    have base_of : ∀ {b : Addr} {o : Obj}, s₁.heap.get? b = some o → H b = none → (hidT s₁.heap H).get? b = some o := fun e n => hidT_get e n
    have noA : ∀ {b : Addr} {o : Obj} {es : Array DictEntry} {ep : Nat}, s₁.heap.get? b = some o → o.data = .dict es ep → H b = none := fun {b o es ep} e d => by
      cases q : H b with
      | none => rfl
      | some u =>
        have e' : b = a := hA b (by rw [q]; simp)
        subst e'
        rw [ha] at e; cases e
        have d' : Data.seq vs.toArray _ = Data.dict es ep := d
        cases d'
    have nsK : ∀ {b : Addr} {m : Str → Option Value}, s₁.heap.Ns b m → (hidT s₁.heap H).Ns b m := fun {b m} ⟨o, es, ep, e, d, r⟩ => ⟨o, es, ep, base_of e (noA e d), d, r⟩
    have hKb : K.In (hidT s₁.heap H) := fun b o e => base_of (KX b o e) (by
      cases q : H b with
      | none => rfl
      | some u =>
        have e' : b = a := hA b (by rw [q]; simp)
        subst e'
        rw [hK (by rw [q]; simp)] at e; cases e)
    have hM : Mod K mg (hidT s₁.heap H) := ⟨hKb, nsK hns, ⟨mb, nsK hb, hbb⟩, let ⟨mc, h1, h2⟩ := hlim; ⟨mc, nsK h1, h2⟩⟩
    have e0 : Env0 P w K mg (hidT s₁.heap H) callerA [] s₁ H := ⟨rfl, hM, fun b o e => of_hidT e, Nat.le_of_eq (hidT_size _ _), trivial, fun b hb => absurd (show b ∈ ([] : List Addr) from hb) (by simp), hok, .of_eq hg⟩
    refine codeAny_mono ((F _ hKb (nsK hns)).run callerA [] s₁ H ⟨[.ref a], []⟩ [.ref a] [.ref a] _ _ hr e0 (hbind s₁ (.ref a)) (.cons rfl .nil) (hsp H hO hS)) fun r s' h => ?_
    cases r with
    | error e => exact (hCX H e s' h).elim
    | ok fl =>
      cases fl with
      | next => exact False.elim h
      | brk => exact False.elim h
      | cont => exact False.elim h
      | ret u =>
        obtain ⟨v, H', os, bare, un, hok', r', q⟩ := h
        have q' : v = .bl true := q
        subst q'
        obtain rfl : u = Value.bool true := r'
        refine ⟨rfl, OldK.of_keep fun b o e => ?_, os, bare⟩
        cases q : H b with
        | none => exact un.keep b o e q (by intro z; exact absurd (show b ∈ ([] : List Addr) from z) (by simp)) (by simp)
        | some u =>
          rcases hO b with z | ⟨ob, xs, z⟩
          · rw [q] at z; cases z
          · have z2 := un.frzs b ob _ z
            obtain ⟨e1, _⟩ := hok b _ z
            obtain ⟨e2, _⟩ := hok' b _ z2
            rw [e] at e1; cases e1
            exact e2
  cases hk : K.lookup a with
  | some o =>
    -- the script is one of the module's own objects
    have e := KX a o hk
    rw [ha] at e
    cases e
    refine core (fun _ => none) (fun _ => .inl rfl) (.inr ⟨_, vs.toArray, _, hk, rfl, rfl, rfl, by rw [List.size_toArray, lenV]; exact hl, by simpa using rv⟩) (fun b u z => by have z' : (none : Option HO) = some u := z; cases z') (fun b z => absurd rfl z) fun z => absurd rfl z
  | none =>
    refine core (fun b => if b = a then some (.frz { cls := .type "list", data := .seq vs.toArray } (.lst (ns.map V.int))) else none) (fun b => ?_) (.inl (.inr ⟨{ cls := .type "list", data := .seq vs.toArray }, if_pos rfl⟩)) (fun b u z => ?_) (fun b z => ?_) fun _ => hk
    · by_cases hb : b = a
      · exact .inr ⟨_, _, if_pos hb⟩
      · exact .inl (if_neg hb)
    · by_cases hb : b = a
      · have z' := (if_pos hb).symm.trans z
        cases z'
        subst hb
        exact ⟨ha, by rw [List.length_map]; exact hl, vs, _, rv, ha⟩
      · have z' := (if_neg hb).symm.trans z
        cases z'
    · by_cases hb : b = a
      · exact hb
      · exact absurd (if_neg hb) z
end L2

namespace L2
open PySem PySem.Spec PyProof.Rows

abbrev KOf {K : PySem.W.Frag} {h : Heap} (_ : K.In h) : PySem.W.Frag := K

/-- the goal that k_head leaves (case hc), from the law's promise. F gives the function object fd (K's own) once, then the promise over every base -/
theorem walk_of {l : PySem.W.OpenLaw} {n k : Nat} {q : Program} {loose : List Str} {XP : (Str → Option Value) → Heap → Prop} {YP : World → Heap → Prop} {d : DefRec} {K : Params → PySem.W.Frag} {CX : World → CXT} {sp : World → Sp} {x : Str}
    (hn : l.most = some n) (hn2 : n ≤ sizeLine) (hdf : d.params.defaults = []) (hr : Room k callerA)
    (hY : ∀ (w : World) (h : Heap), YP w h → (K w.params).In h)
    (F : ∀ (w : World) (mg : Str → Option Value) (fa : Addr) (h : Heap), (K w.params).In h → h.Ns mainGlobals mg → mg d.name = some (.ref fa) →
      ∃ fd : FuncData, (∀ (s : Shared) (u : Value), BindsTo s fd ⟨[u], []⟩ [(x, u)]) ∧
        ∀ base : Heap, (K w.params).In base → base.Ns mainGlobals mg → FnOk l.prog w (K w.params) mg base (CX w) k fa fd [x] (sp w))
    (hsp : ∀ (w : World) (H : Hp) (a : Addr) (ns : List Int), ns.length ≤ n → Only H → SqL (K w.params) H a (ns.map V.int) → sp w [.ref a] H (fun v _ => v = .bl true) fun _ _ _ => False)
    (hCX : ∀ (w : World) (H : Hp) (s : Shared) (e : Value) (s' : Shared), CX w [] H s (fun _ _ _ => False) e s' → False) :
    PySem.W.WalkO q loose XP YP l.row.toRowW d [] (fun f vs => PySem.call f vs) := by
  refine Att.attach_call hn hdf fun w s₀ s₁ mg mb fa o pm cd doc a vs ns G Y ho hd hcd hmg hobj hints hlen hg => ?_
  have KX := hY w _ Y
  obtain ⟨fd, hb, hF⟩ := F w mg fa _ KX G.T.g hmg
  exact law_call KX G.T.g G.T.b G.T.builtins G.T.nolimit hg hobj hints (Nat.le_trans hlen hn2) hr hF hb (fun H hO hS => hsp w H a ns hlen hO hS) fun H e s' => hCX w H s₁ e s'
end L2

/- THE LAST THEOREM (shape; LID, My.* are yours):
   My.Adr: a structure of the addresses that your layer names (classes, functions); My.Txt K t: a structure (Prop) of the equations over K;
   My.txt_mk : {K} {implicit addresses ..} (e1 : nsIn K mainGlobals "law" = some (some (.ref f))) (e2 : K.lookup f = some ⟨oc, od, .func (fnOf "law" "law" params body scope dV kV doc pm an cdv ct), sl⟩) (e3 : codeIn K cdv "law" = true) .. : ∃ t, My.Txt K t

set_option maxRecDepth 100000 in
set_option maxHeartbeats 0 in
theorem PySem.Challenge.cw_LID_holds : PySem.Challenge.rw_LID.Holds := by
  w_on; o_law; k_head; (case hw => w_witness2)
  k_fill
  refine L2.walk_of (l := PySem.Challenge.rw_LID) (n := 63) (k := 40) (x := "script") (CX := fun w => ..) (sp := fun _ => My.sp_law) rfl (by decide) rfl ⟨rfl, by decide, by decide⟩ (fun w h Y => PySem.W.kIn_of Y) ?F ?S ?C
  case F =>
    intro w mg fa h KX G hmg
    have T : ∃ t, My.Txt (L2.KOf KX) t := by
      dsimp only [L2.KOf]                          -- K must stand as «<heap const> w.params» for k_is
      refine' My.txt_mk ?e1 ?e2 ?e3 ..
      (case e1 => PySem.W.k_is)                    -- in the order: a name -> its address -> its object -> its parts
      (case e2 => PySem.W.k_is)
      ..
    obtain ⟨t, T⟩ := T
    have e0 := hmg.symm.trans (PySem.W.mg_of KX G T.law)
    cases e0                                       -- fa is the law's own address
    exact ⟨_, fun s u => .of_eq rfl, fun base kb nb => My.law_fn T kb nb⟩     -- if «.of_eq rfl» comes too early: refine' ⟨_, ?b, fun base kb nb => My.law_fn T kb nb⟩; exact fun s u => .of_eq rfl
  case S => exact fun w H a ns hl hO hS => ..
  case C => exact ..
(the tactic k_is has no namespace: write k_is) -/

/-! SHORT WORDS over the layer: a def of the text, its body, what a loop and a test want. -/
namespace L2
open PySem PySem.Spec PyProof.Rows

/-! ### the text by places -/
/-- the j-th statement of a class's body -/
def inClass (s : Stmt) (j : Nat) : Stmt := match s with
  | .ClassDef _ _ _ body _ _ _ _ _ _ _ => body.getD j (.Pass ⟨0, 0, 0, 0⟩)
  | _ => .Pass ⟨0, 0, 0, 0⟩
def defArgs (s : Stmt) : Arguments := match s with
  | .FunctionDef _ a _ _ _ _ _ _ _ _ => a
  | _ => { posonlyargs := [], args := [], vararg := none, kwonlyargs := [], kw_defaults := [], kwarg := none, defaults := [] }
def defBody (s : Stmt) : List Stmt := match s with
  | .FunctionDef _ _ b _ _ _ _ _ _ _ => b
  | _ => []
def defScope (s : Stmt) : Scope := match s with
  | .FunctionDef _ _ _ _ _ _ sc _ _ _ => sc
  | _ => { kind := .function, names := [], isGenerator := false, isCoroutine := false }

/-! ### no exception leaves a def -/
abbrev CX0 : CXT := fun _ _ _ _ _ _ => False
abbrev E0 : XK := fun _ _ _ => False
theorem pass0 {X : Cx} : Passes CX0 X E0 := fun _ _ _ _ _ _ _ h => h.elim

/-! ### a def (or method) of the text as it stands behind the top -/
structure Fun (K : PySem.W.Frag) (x qual : Str) (st : Stmt) (f : Addr) (fd : FuncData) : Prop where
  ex : ∃ (oc : Value) (od : Option Addr) (kV doc pm : Value) (an : Option Addr) (cdv ct : Value) (osl : Array (Option Value)),
    fd = PySem.W.fnOf x qual (defArgs st) (defBody st) (defScope st) .none kV doc pm an cdv ct ∧ K.lookup f = some ⟨oc, od, .func fd, osl⟩ ∧ PySem.W.codeIn K cdv qual = true
  kp : PySem.W.keepIn K (.ref f) = true
section
variable {P : Program} {w : World} {K : PySem.W.Frag} {mg : Str → Option Value} {base : Heap}
/-- THE RULE for a def: its body as a term of rules, and the reading of that term -/
theorem Fun.ok {x qual : Str} {st : Stmt} {f : Addr} {fd : FuncData} {N ps : List Str} {k : Nat} {sp : Sp} (F : Fun K x qual st f fd) (S : FnScope N ps (defScope st)) (len : ∀ vs H Q E, sp vs H Q E → vs.length = ps.length)
    (hbody : ∀ (cdv : Value) (A : Around) (outer : List Env) (s : Shared) (H : Hp) (vs : List V) (Q : VK) (E : XK), Room k (A.deeper (envOfC qual (defScope st) s.heap.objs.size f cdv)) → sp vs H Q E →
      ∃ t, PSs (cxOf CX0 P w K mg base N qual (defScope st) f cdv A outer s H E).nox (defBody st) t ∧ t { nx := fun _ H' => Q .non H', rt := Q } (start N vs) H) : FnOk P w K mg base CX0 (k + 1) f fd ps sp := by
  obtain ⟨oc, od, kV, doc, pm, an, cdv, ct, osl, rfl, lk, hcd⟩ := F.ex
  refine fn_of lk hcd S len fun A outer s H vs Q E hr hsp => ?_
  obtain ⟨t, h, q⟩ := hbody cdv A outer s H vs Q E hr hsp
  exact ⟨t, h.nox, q⟩
/-- how its arguments bind (no defaults): h is «fun _ _ _ _ _ _ us hl => match us, hl with | [_, _], _ => rfl», one _ a parameter -/
theorem Fun.binds {x qual : Str} {st : Stmt} {f : Addr} {fd : FuncData} {ps : List Str} (F : Fun K x qual st f fd)
    (h : ∀ (kV doc pm : Value) (an : Option Addr) (cdv ct : Value) (us : List Value), us.length = ps.length → bindArgs (PySem.W.fnOf x qual (defArgs st) (defBody st) (defScope st) .none kV doc pm an cdv ct) ⟨us, []⟩ = pure (ps.zip us)) : Binds K fd ps [] := by
  obtain ⟨oc, od, kV, doc, pm, an, cdv, ct, osl, rfl, lk, hcd⟩ := F.ex
  exact .all (h kV doc pm an cdv ct)
theorem fun_mk {x qual : Str} {st : Stmt} {f : Addr} {oc : Value} {od an : Option Addr} {osl : Array (Option Value)} {kV doc pm cdv ct : Value} (l : K.lookup f = some ⟨oc, od, .func (PySem.W.fnOf x qual (defArgs st) (defBody st) (defScope st) .none kV doc pm an cdv ct), osl⟩)
    (c : PySem.W.codeIn K cdv qual = true) (k : PySem.W.keepIn K (.ref f) = true) : Fun K x qual st f (PySem.W.fnOf x qual (defArgs st) (defBody st) (defScope st) .none kV doc pm an cdv ct) := ⟨⟨oc, od, kV, doc, pm, an, cdv, ct, osl, rfl, l, c⟩, k⟩
end
theorem small1000 {n : Nat} (h : n ≤ 1000) : n < sizeLine := Nat.lt_of_le_of_lt h (by decide)

/-! ### expressions in short: the name that stands in the i-th slot -/
section
variable {X : Cx}
theorem pv (i : Nat) {x : Str} {pos : Pos} (hN : X.N[i]? = some x := by rfl) (hv : Vis X.env.scope x := by first | exact Or.inl rfl | exact Or.inr (Or.inl rfl) | exact Or.inr (Or.inr rfl)) (hd : (x == ("__debug__" : Str)) = false := by decide)
    (hcd : (x == ("__classdict__" : Str)) = false := by decide) : PE X (.Name x pos) (tVar i) := pe_var hN hv hd hcd
end

/-! ### tests -/
theorem iteF {A B : Prop} (h : B) : if false = true then A else B := by
  rw [if_neg Bool.false_ne_true]
  exact h
theorem iteT {A B : Prop} (h : A) : if true = true then A else B := by
  rw [if_pos rfl]
  exact h
theorem ite2 {c A B : Prop} [Decidable c] (h1 : c → A) (h2 : ¬ c → B) : if c then A else B := by
  by_cases h : c
  · rw [if_pos h]
    exact h1 h
  · rw [if_neg h]
    exact h2 h
theorem iteNS {c A B : Prop} [Decidable c] (hc : c) (h : B) : if (!decide c) = true then A else B := by
  rw [decide_eq_true hc]
  exact iteF h

/-! ### heaps -/
/-- all that was tracked is as it was -/
def Same (H H' : Hp) : Prop := ∀ b o, H b = some o → H' b = some o
theorem Same.refl (H : Hp) : Same H H := fun _ _ h => h
theorem Same.trans {H H1 H2 : Hp} (a : Same H H1) (b : Same H1 H2) : Same H H2 := fun c o h => b c o (a c o h)
theorem Same.seq {K : PySem.W.Frag} {H H' : Hp} {a : Addr} {xs : List V} (e : Same H H') (h : SqL K H a xs) : SqL K H' a xs := by
  rcases h with (h | ⟨o, h⟩) | h
  · exact .inl (.inl (e _ _ h))
  · exact .inl (.inr ⟨o, e _ _ h⟩)
  · exact .inr h

end L2

namespace L2
open PySem PySem.Spec PyProof.Rows

section
variable {X : Cx}
/-! ### more of texts, truths, kinds -/
theorem call_isinst : CallR X (.builtin "isinstance") (fun xs H Q => ∃ x t n b, xs = [x, .ty n] ∧ TyOf X.K H x t ∧ PySem.W.kitOne X.K t (.type n) = some b ∧ Q (.bl b) H) := by
  intro pins s σ H xs us Q I r h
  obtain ⟨x, t, n, b, rfl, ty, e, q⟩ := h
  obtain ⟨u, u2, rfl, rx, r2⟩ := vals2 r
  cases (show u2 = Value.type n from r2)
  exact isinst_ok I rx ty e fun tk => ⟨.bl b, H, I.tok _, rfl, q⟩
/-- == of two lists of flat items -/
def eqVs : List V → List V → Bool
  | [], [] => true
  | x :: xs, y :: ys => eqV x y && eqVs xs ys
  | _, _ => false
end
end L2

namespace L2
open PySem PySem.Spec PyProof.Rows
/-! ### what a comprehension's block sees of the names around it -/
def cloOf (env : Env) : List (Str × NameKind) → List (Str × Addr) → List (Str × Addr)
  | [], cs => cs
  | (n, k) :: r, cs => cloOf env r (if k == .free then match env.cells.lookup n with | some a => (n, a) :: cs | none => cs else cs)
theorem closureFor_free {scope : Scope} {env : Env} (h : ∀ y ∈ scope.names, y.2 = .free → ∃ c, env.cells.lookup y.1 = some c) : closureFor scope env = pure (cloOf env scope.names []) := by
  have key : ∀ (l : List (Str × NameKind)) (cs : List (Str × Addr)), (∀ y ∈ l, y.2 = .free → ∃ c, env.cells.lookup y.1 = some c) →
      (forIn l cs (fun (x : Str × NameKind) (r : List (Str × Addr)) => (if (x.2 == NameKind.free) = true then (do let a ← cellOf env x.1; pure (ForInStep.yield ((x.1, a) :: r))) else pure (ForInStep.yield r) : Sem (ForInStep (List (Str × Addr)))))) = (pure (cloOf env l cs) : Sem _) := by
    intro l
    induction l with
    | nil => intro cs _; rfl
    | cons y r ih =>
      intro cs hy
      obtain ⟨n, k⟩ := y
      have hr : ∀ z ∈ r, z.2 = .free → ∃ c, env.cells.lookup z.1 = some c := fun z hz => hy z (List.mem_cons_of_mem _ hz)
      rw [List.forIn_cons]
      by_cases hk : (k == NameKind.free) = true
      · obtain ⟨c, hc⟩ := hy (n, k) List.mem_cons_self (by simpa using hk)
        have e : cellOf env n = pure c := by unfold cellOf; rw [hc]
        simp only [hk, if_true, e, pure_bind, cloOf, hc]
        exact ih _ hr
      · have hk' : (k == NameKind.free) = false := by simpa using hk
        simp only [hk', Bool.false_eq_true, if_false, pure_bind, cloOf]
        exact ih _ hr
  have e : closureFor scope env = (forIn scope.names ([] : List (Str × Addr)) (fun (x : Str × NameKind) (r : List (Str × Addr)) => (if (x.2 == NameKind.free) = true then (do let a ← cellOf env x.1; pure (ForInStep.yield ((x.1, a) :: r))) else pure (ForInStep.yield r) : Sem (ForInStep (List (Str × Addr))))) >>= fun cs => pure cs) := by
    unfold closureFor
    rfl
  rw [e, key scope.names [] h]
  all_goals rfl
theorem cloOf_sub {env : Env} : ∀ (l : List (Str × NameKind)) (cs : List (Str × Addr)), (∀ p ∈ cs, env.cells.lookup p.1 = some p.2) → ∀ p ∈ cloOf env l cs, env.cells.lookup p.1 = some p.2
  | [], cs, h, p, hp => h p hp
  | (n, k) :: r, cs, h, p, hp => by
    unfold cloOf at hp
    refine cloOf_sub r _ ?_ p hp
    split
    · split
      · rename_i a ea
        intro q hq
        rcases List.mem_cons.mp hq with e | hq
        · rw [e]; exact ea
        · exact h q hq
      · exact h
    · exact h
theorem cloOf_keeps {env : Env} : ∀ (l : List (Str × NameKind)) (cs : List (Str × Addr)) {y : Str}, (∃ p ∈ cs, p.1 = y) → ∃ p ∈ cloOf env l cs, p.1 = y
  | [], cs, y, h => h
  | (n, k) :: r, cs, y, ⟨p, hp, e⟩ => by
    unfold cloOf
    refine cloOf_keeps r _ ?_
    split
    · split
      · exact ⟨p, List.mem_cons_of_mem _ hp, e⟩
      · exact ⟨p, hp, e⟩
    · exact ⟨p, hp, e⟩
theorem cloOf_has {env : Env} : ∀ (l : List (Str × NameKind)) (cs : List (Str × Addr)) {y : Str} {c : Addr}, (y, NameKind.free) ∈ l → env.cells.lookup y = some c → ∃ p ∈ cloOf env l cs, p.1 = y
  | (n, k) :: r, cs, y, c, hm, hc => by
    unfold cloOf
    rcases List.mem_cons.mp hm with e | hm
    · cases e
      refine cloOf_keeps r _ ?_
      rw [if_pos (by rfl), hc]
      exact ⟨_, List.mem_cons_self, rfl⟩
    · exact cloOf_has r _ hm hc
theorem lookup_of_mem {α : Type} : ∀ {l : List (Str × α)} {p : Str × α}, p ∈ l → ∃ c, l.lookup p.1 = some c
  | q :: l, p, h => by
    obtain ⟨n, a⟩ := q
    rw [List.lookup_cons]
    split
    · exact ⟨_, rfl⟩
    · rename_i hne
      rcases List.mem_cons.mp h with e | h
      · subst e; simp at hne
      · exact lookup_of_mem h
theorem cloOf_lookup {env : Env} {l : List (Str × NameKind)} {y : Str} {c : Addr} (hm : (y, NameKind.free) ∈ l) (hc : env.cells.lookup y = some c) : (cloOf env l []).lookup y = some c := by
  obtain ⟨p, hp, e⟩ := cloOf_has l [] hm hc
  obtain ⟨c', e'⟩ := lookup_of_mem hp
  rw [e] at e'
  have q := cloOf_sub l [] (fun _ z => nomatch z) _ (PySem.mem_of_lookup e')
  rw [hc] at q
  rw [e']
  exact q.symm
theorem cloOf_lookup_sub {env : Env} {l : List (Str × NameKind)} {y : Str} {c : Addr} (h : (cloOf env l []).lookup y = some c) : env.cells.lookup y = some c :=
  cloOf_sub l [] (fun _ z => nomatch z) _ (PySem.mem_of_lookup h)
theorem relabel_free {env : Env} : ∀ {names : List (Str × NameKind)} {x : Str} {k : NameKind}, (names.map fun (n, k) => if (k == NameKind.free && env.scope.kind == .function && env.kindOf n == some .cell) then (n, NameKind.cell) else (n, k)).lookup x = some k →
    ∃ k', names.lookup x = some k' ∧ (k' = k ∨ k' = .free)
  | [], _, _, h => by simp at h
  | (n, k0) :: r, x, k, h => by
    have ih := @relabel_free env r x k
    have h : List.lookup x ((if (k0 == NameKind.free && env.scope.kind == .function && env.kindOf n == some .cell) = true then (n, NameKind.cell) else (n, k0)) :: _) = some k := h
    cases hx : x == n with
    | true =>
      refine ⟨k0, by simp only [List.lookup_cons, hx], ?_⟩
      by_cases hc : (k0 == NameKind.free && env.scope.kind == .function && env.kindOf n == some .cell) = true
      · refine .inr ?_
        simp only [Bool.and_eq_true] at hc
        exact beq_iff_eq.mp hc.1.1
      · rw [if_neg hc] at h
        simp only [List.lookup_cons, hx] at h
        exact .inl (Option.some.inj h)
    | false =>
      have h2 : List.lookup x (r.map fun (n, k) => if (k == NameKind.free && env.scope.kind == .function && env.kindOf n == some .cell) then (n, NameKind.cell) else (n, k)) = some k := by
        by_cases hc : (k0 == NameKind.free && env.scope.kind == .function && env.kindOf n == some .cell) = true
        · rw [if_pos hc] at h; simp only [List.lookup_cons, hx] at h; exact h
        · rw [if_neg hc] at h; simp only [List.lookup_cons, hx] at h; exact h
      obtain ⟨k', e1, e2⟩ := ih h2
      exact ⟨k', by simp only [List.lookup_cons, hx]; exact e1, e2⟩
theorem relabel_of_free {env : Env} : ∀ {names : List (Str × NameKind)} {x : Str}, names.lookup x = some .free →
    (names.map fun (n, k) => if (k == NameKind.free && env.scope.kind == .function && env.kindOf n == some .cell) then (n, NameKind.cell) else (n, k)).lookup x = some .cell ∨
    (names.map fun (n, k) => if (k == NameKind.free && env.scope.kind == .function && env.kindOf n == some .cell) then (n, NameKind.cell) else (n, k)).lookup x = some .free
  | [], _, h => by simp at h
  | (n, k0) :: r, x, h => by
    have ih := @relabel_of_free env r x
    show List.lookup x ((if (k0 == NameKind.free && env.scope.kind == .function && env.kindOf n == some .cell) = true then (n, NameKind.cell) else (n, k0)) :: _) = some .cell ∨ List.lookup x ((if (k0 == NameKind.free && env.scope.kind == .function && env.kindOf n == some .cell) = true then (n, NameKind.cell) else (n, k0)) :: _) = some .free
    cases hx : x == n with
    | true =>
      simp only [List.lookup_cons, hx] at h
      by_cases hc : (k0 == NameKind.free && env.scope.kind == .function && env.kindOf n == some .cell) = true
      · rw [if_pos hc]; simp only [List.lookup_cons, hx]; simp
      · rw [if_neg hc]; simp only [List.lookup_cons, hx]; exact .inr (by rw [Option.some.inj h])
    | false =>
      simp only [List.lookup_cons, hx] at h
      by_cases hc : (k0 == NameKind.free && env.scope.kind == .function && env.kindOf n == some .cell) = true
      · rw [if_pos hc]; simp only [List.lookup_cons, hx]; exact ih h
      · rw [if_neg hc]; simp only [List.lookup_cons, hx]; exact ih h

/-! ### the signs of a text, walked -/
def Its (z : Str) : It := ⟨fun i _ => i < z.length, fun i H x H' => H' = H ∧ ∃ c, z.cps.toList[i]? = some c ∧ x = .str ⟨#[c]⟩, fun i _ => z.length ≤ i⟩
structure StrIt (P : Program) (w : World) (it : Addr) (ty : String) (z : Str) (t : Tok) : Prop where
  W : ∀ A' : Around, A'.handled = none → Walks P w A' it [it] [it] z.cps.size (SignAt z) (fun i h => h.IsStrIter it ty z t i)
  en : ∀ (A : Around) (i : Nat) (s : Shared) (Q : Option Value → Shared → Prop) (E : Value → Shared → Prop), A.handled = none → s.heap.IsStrIter it ty z t i → z.cps[i]? = none →
    (∀ h', Heap.ExtBut it s.heap h' → Q none { s with heap := h' }) → wpAny (model P w) A (pyNext (.ref it)) Q E s
  me : ∀ (A : Around) (i : Nat) (s : Shared) (Q : Value → Shared → Prop) (E : Value → Shared → Prop), s.heap.IsStrIter it ty z t i → Q (.ref it) s → wpAny (model P w) A (pyIter (.ref it)) Q E s
  ne : ["enumerate", "zip", "dict_itemiterator", "dict_reverseitemiterator", "odict_iterator", "itertools.zip_longest", "itertools.pairwise"].contains ty = false
def iStr (tl : TE) : TI := fun σ H R => tl σ H fun x H1 => ∃ z, x = .str z ∧ R (Its z) H1
/-! ### a list made by walking -/
/-- the context of the block: it begins at s, H, the iterator's records at fp -/
def Cx.blk (X : Cx) (N' : List Str) (scope : Scope) (C : Addr) (fp : List Addr) (s : Shared) (H : Hp) : Cx :=
  { X with N := N', s₀ := s, H₀ := H, env := compEnvC scope (cloOf X.env scope.names []) C X.env, outer := X.stack, ex := fp, fn := fun _ => false, pn := [], xe := fun _ _ => False }
/-- the block's names: its own first, then those of the def around it, at the slots fv -/
structure BlkScope (N : List Str) (sc scope : Scope) (x : Str) (N' : List Str) (fv : List Nat) : Prop where
  nocell : ∀ y ∈ scope.names, y.2 ≠ .cell
  kind : scope.kind = .function
  names : ∀ y ∈ scope.names, y.2 = .local → scope.names.lookup y.1 = some .local
  loc : scope.names.lookup x = some .local
  free : ∀ y ∈ scope.names, y.2 = .free → sc.names.lookup y.1 = some .cell ∨ sc.names.lookup y.1 = some .free
  nd : N'.Nodup
  hd : N'[0]? = some x
  len : N'.length = fv.length + 1
  at_ : ∀ j, j < fv.length → (N'[j + 1]?).isSome = true ∧ N'[j + 1]? = (fv[j]?).bind (fun i => N[i]?) ∧ (N'[j + 1]?).bind (fun y => scope.names.lookup y) = some .free
def blkVals (fv : List Nat) (σ : St) : St := fv.map fun k => (σ[k]?).join
/-- the tests of a walking -/
abbrev testsOf (ifs : List Expr) (env : Env) : Sem Bool := forIn ifs true fun c r => if r = true then do let ok ← isTrue c env (eval c env); pure (ForInStep.yield ok) else pure (ForInStep.yield r)
def PTs (X : Cx) (ifs : List Expr) (t : TT) : Prop :=
  ∀ (pins : List (Addr × Obj)) (s : Shared) (σ : St) (H : Hp) (Q : Bool → Hp → Prop), Inv X pins σ H s → t σ H Q → wpAny (model X.prog X.w) X.A (testsOf ifs X.env) (TP X pins σ Q) X.xe s
def tAll : TT := fun _ H Q => Q true H
theorem pts_nil {X : Cx} : PTs X [] tAll := fun pins s σ H Q I h => wpAny_pure ⟨H, I, h⟩
def tLC (wi : TI) (fv : List Nat) (tt : TT) (te : TE) : TE := fun σ H Q => wi σ H fun J H1 => ∃ (W : Nat → List V → Hp → Prop) (n : Nat), W 0 [] H1 ∧ n ≤ sizeLine ∧ ∀ i ys H, W i ys H →
  (J.stop i H ∧ ∀ p, H p = none → Q (.ref p) (upd H p (.lst ys))) ∨
  (J.go i H ∧ i < n ∧ ∀ x H', J.yld i H x H' → tt (some x :: blkVals fv σ) H' fun c H2 => if c = true then te (some x :: blkVals fv σ) H2 fun y H3 => W (i + 1) (ys ++ [y]) H3 else W (i + 1) ys H2)

section
variable {X : Cx} {N' : List Str} {scope : Scope} {x : Str} {fv : List Nat}
theorem blk_inv {pins : List (Addr × Obj)} {σ : St} {H : Hp} {s : Shared} {fp : List Addr} {C : Addr} {h1 : Heap} {m : Str → Option Value} {tk : Nat} {pl : List (Addr × Obj)} (S : BlkScope X.N X.env.scope scope x N' fv) (I : Inv X pins σ H s)
    (hf : ∀ b ∈ fp, FpOk X pins H b) (hfo : ∀ b ∈ fp, b < s.heap.objs.size) (hC : s.heap.objs.size ≤ C) (kp : ∀ b o, s.heap.get? b = some o → h1.get? b = some o) (hn : h1.Ns C m)
    (hpl : ∀ p ∈ pl, h1.get? p.1 = some p.2 ∧ s.heap.objs.size ≤ p.1 ∧ p.1 ≠ C ∧ ∀ v, p.2.data ≠ .cell v) :
    Inv (X.blk N' scope C fp s H) pl (none :: blkVals fv σ) H { s with heap := h1, toks := tk } := by
  have clo : ∀ y c, (cloOf X.env scope.names []).lookup y = some c → X.env.cells.lookup y = some c := fun y c e => cloOf_lookup_sub e
  have cell : ∀ y c, (cloOf X.env scope.names []).lookup y = some c → ∃ v, s.heap.IsCell c v := fun y c e => I.cell y c (clo y c e)
  have lt : ∀ y c, (cloOf X.env scope.names []).lookup y = some c → c < s.heap.objs.size := fun y c e => by obtain ⟨v, q⟩ := cell y c e; exact q.lt
  have kc : ∀ c v, s.heap.IsCell c v → h1.IsCell c v := fun c v q => by obtain ⟨o, e, d⟩ := q; exact ⟨o, kp _ _ e, d⟩
  refine ⟨⟨I.ok.mod, S.kind, I.ok.glob, I.ok.blt, hC, fun y z c e1 e2 => I.ok.inj y z c (clo y c e1) (clo z c e2), fun y hy => ?_, fun y c e => ?_, I.ok.hd, I.ok.frames, .inl rfl, fun b hb => ⟨?_, fun y c e z => (hf b hb).2.2.2.2.1 y c (clo y c e) z⟩, fun b o e => I.bs b o e, Nat.le_trans I.ok.bsz I.sz, fun b o e hb => ?_, fun b hb hb2 => ?_, I.stack, I.stkFree⟩,
    rfl, I.bare, Un.kept kp, ⟨m, hn, fun i y v h1' h2 h3 => ?_⟩, fun y c e => ?_, I.hok.fresh hC, fun y c e => I.freeC y c (clo y c e), fun p hp => ?_, I.hok.kept kp, ?_⟩
  · have hy' : ∃ k, scope.names.lookup y = some k ∧ k = .free := by
      rcases hy with hy | hy
      · obtain ⟨k', e1, e2⟩ := relabel_free (env := X.env) (names := scope.names) (x := y) (k := .cell) hy
        rcases e2 with e2 | e2
        · exact absurd e2 (S.nocell _ (PySem.mem_of_lookup e1))
        · exact ⟨k', e1, e2⟩
      · obtain ⟨k', e1, e2⟩ := relabel_free (env := X.env) (names := scope.names) (x := y) (k := .free) hy
        rcases e2 with e2 | e2
        · exact ⟨k', e1, e2⟩
        · exact ⟨k', e1, e2⟩
    obtain ⟨k, e, rfl⟩ := hy'
    have hm := PySem.mem_of_lookup e
    obtain ⟨c, hc⟩ := I.ok.has y (S.free _ hm rfl)
    exact ⟨c, cloOf_lookup hm hc⟩
  · exact (Bool.false_ne_true (show false = true from e)).elim
  · exact Nat.ne_of_lt (Nat.lt_of_lt_of_le (hfo b hb) hC)
  · have e' := e
    rcases (hf b hb).2.2.2.1 with z | z
    · exact I.ok.noex b o e z
    · exact absurd (Nat.lt_of_lt_of_le (Heap.lt_size e) (Nat.le_trans I.ok.bsz z)) (Nat.lt_irrefl _)
  · have q := I.stkSub b hb2
    rcases List.mem_cons.mp q with z | z
    · exact (hf b hb).2.1 z
    · exact (hf b hb).2.2.1 z
  · cases i with
    | zero =>
      have z : (none : Option V) = some v := Option.some.inj h2
      cases z
    | succ j =>
      have h2' : (blkVals fv σ)[j]? = some (some v) := h2
      unfold blkVals at h2'
      rw [List.getElem?_map] at h2'
      cases ej : fv[j]? with
      | none => rw [ej] at h2'; cases h2'
      | some k =>
        rw [ej] at h2'
        have h4 : (σ[k]?).join = some v := Option.some.inj h2'
        have h5 : σ[k]? = some (some v) := by
          cases es : σ[k]? with
          | none => rw [es] at h4; cases h4
          | some w' => rw [es] at h4; rw [show w' = some v from h4]
        have hj : j < fv.length := (List.getElem?_eq_some_iff.mp ej).1
        obtain ⟨_, a1, a2⟩ := S.at_ j hj
        have h1'' : N'[j + 1]? = some y := h1'
        rw [h1''] at a1 a2
        rw [ej] at a1
        have a3 : X.N[k]? = some y := a1.symm
        have a4 : scope.names.lookup y = some .free := a2
        have hm := PySem.mem_of_lookup a4
        have kd : X.env.kindOf y = some .cell ∨ X.env.kindOf y = some .free := S.free _ hm rfl
        obtain ⟨mX, _, hlX⟩ := I.loc
        obtain ⟨u, ru, lk⟩ := hlX k y v a3 h5 (kd.elim (fun z => .inr (.inl z)) fun z => .inr (.inr z))
        refine ⟨u, ru, .inr ?_⟩
        rcases lk with ⟨z, _⟩ | ⟨_, c, hc, hcell⟩
        · rcases kd with z' | z' <;> rw [z'] at z <;> cases z
        · exact ⟨relabel_of_free (env := X.env) a4, c, cloOf_lookup hm hc, kc _ _ hcell⟩
  · obtain ⟨v, q⟩ := cell y c e
    exact ⟨v, kc _ _ q⟩
  · have hp' : p ∈ pl := hp
    obtain ⟨e, l1, l2, d⟩ := hpl p hp'
    exact ⟨e, I.hok.fresh l1, l2, fun z => absurd (I.stkSub _ z) (fun q => by
      rcases List.mem_cons.mp q with q | q
      · exact absurd I.lt (by rw [← q]; exact Nat.not_lt.mpr l1)
      · exact I.nofs l1 q), d⟩
  · show (none :: blkVals fv σ).length = N'.length
    rw [S.len]
    unfold blkVals
    simp
end
end L2

namespace L2
open PySem PySem.Spec PyProof.Rows
theorem nox {α : Type} {t : Sem α} {Q Q' : α → Shared → Prop} {M : Model} {A : Around} {E : Value → Shared → Prop} {s : Shared} (h : wpAny M A t Q (fun _ _ => False) s) (hQ : ∀ a s, Q a s → Q' a s) : wpAny M A t Q' E s := wpAny_mono h hQ fun _ _ f => f.elim
set_option maxHeartbeats 1600000 in
theorem pe_lc {X : Cx} {elt iter : Expr} {x : Str} {px : Pos} {ifs : List Expr} {scope : Scope} {pos : Pos} {N' : List Str} {fv : List Nat} {wi : TI} {tt : TT} {te : TE}
    (S : BlkScope X.N X.env.scope scope x N' fv) (hc : X.calm = true) (hi : PI X (.Name x px) iter wi)
    (ht : ∀ C fp s H, PTs (X.blk N' scope C fp s H) ifs tt) (he : ∀ C fp s H, PE (X.blk N' scope C fp s H) elt te)
    (hs : ∀ x, foldedSetIterable iter X.env x = pure x := by intro _; rfl) :
    PE X (.ListComp elt [⟨.Name x px, iter, ifs, 0⟩] scope pos) (tLC wi fv tt te) := by
  intro pins s σ H Q I h
  rw [eval_ListComp]
  refine wpAny_comprehension_free (use := none) rfl hs (closureFor_free fun y hy hk => I.ok.has y.1 (S.free y hy hk)) S.kind S.names
    (wpAny_mono (hi pins s σ H _ I h) (fun xv s1 h1 => wpAny_mono h1 (fun itv s2 h2 => ?_) fun _ _ e => e) fun _ _ e => e)
  obtain ⟨it, fp, tn, J, H2, rfl, I2, T, st2, f2, W, n, w0, hn, turn⟩ := h2
  refine wpAny_newObj_type (wpAny_newFunctionEnv S.nocell (by intro y hy; simp at hy) (fun h1 hns hsb => ?_) S.kind)
  dsimp only at hns hsb ⊢
  generalize hH : s2.heap.push { cls := .type "list", dict := none, data := .seq ([] : List Value).toArray } = G at hns hsb ⊢
  have hG : G.objs.size = s2.heap.objs.size + 1 := by rw [← hH, Heap.size_push]
  have kpG : ∀ b o, s2.heap.get? b = some o → G.get? b = some o := fun b o e => hH ▸ Heap.get?_push_of_some _ e
  have kp1 : ∀ b o, b < G.objs.size → G.get? b = some o → h1.get? b = some o := fun b o lt e => hsb.extBut b o (Nat.ne_of_lt lt) (Heap.get?_push_of_some _ e)
  have kp : ∀ b o, s2.heap.get? b = some o → h1.get? b = some o := fun b o e => kp1 b o (by rw [hG]; exact Nat.lt_succ_of_lt (Heap.lt_size e)) (kpG b o e)
  have hD : h1.PlainList s2.heap.objs.size #[] := ⟨_, kp1 _ _ (by rw [hG]; exact Nat.lt_succ_self _) (hH ▸ Heap.get?_push_size _ rfl)⟩
  have hDC : s2.heap.objs.size ≠ G.objs.size := by rw [hG]; exact Nat.ne_of_lt (Nat.lt_succ_self _)
  have hC : s2.heap.objs.size ≤ G.objs.size := by rw [hG]; exact Nat.le_succ _
  have hfo : ∀ b ∈ fp, b < s2.heap.objs.size := fun b hb => by obtain ⟨o, e, _⟩ := T.obj 0 _ st2 b hb; exact Heap.lt_size e
  -- what is true of the iterator's records in the block
  have stat : ∀ {H' : Hp} {pl : List (Addr × Obj)}, (∀ b ∈ fp, H' b = none) → (∀ p ∈ pl, p.1 ∉ fp) → ∀ b ∈ fp, FpOk (X.blk N' scope G.objs.size fp s2 H2) pl H' b := fun {H' pl} hn hpl b hb => by
    obtain ⟨_, g1, g2, g3, g4, g5⟩ := f2 b hb
    refine ⟨hn b hb, Nat.ne_of_lt (Nat.lt_of_lt_of_le (hfo b hb) hC), fun z => ?_, .inl hb, fun y c e => g4 y c (cloOf_lookup_sub e), fun p hp e => ?_⟩
    · rcases List.mem_cons.mp (I2.stkSub b z) with q | q
      · exact g1 q
      · exact g2 q
    · exact hpl p hp (e ▸ hb)
  have hDf : s2.heap.objs.size ∉ fp := fun z => absurd (hfo _ z) (Nat.lt_irrefl _)
  have hlc : (X.blk N' scope G.objs.size fp s2 H2).env.scope.names.lookup x = some .local := lookup_relabel_local S.loc
  have hcl : ∀ y c, (X.blk N' scope G.objs.size fp s2 H2).env.cells.lookup y = some c → c ≠ s2.heap.objs.size := fun y c e z => by
    obtain ⟨v, q⟩ := I2.cell y c (cloOf_lookup_sub e)
    exact absurd q.lt (by rw [z]; exact Nat.lt_irrefl _)
  have pin1 : ∀ {s' : Shared} {H' : Hp} {ob : Obj} {i : Nat} {ys : List V}, Inv (X.blk N' scope G.objs.size fp s2 H2) [] (none :: blkVals fv σ) H' s' → s'.heap.get? s2.heap.objs.size = some ob → (∀ v, ob.data ≠ .cell v) → H' s2.heap.objs.size = none →
      Inv (X.blk N' scope G.objs.size fp s2 H2) [(s2.heap.objs.size, ob)] (none :: blkVals fv σ) H' s' := fun {s' H' ob i ys} J1 e d f => J1.pins_of fun p hp => by
    have z : p = (s2.heap.objs.size, ob) := by simpa using hp
    subst z
    refine ⟨e, f, hDC, fun z => ?_, d⟩
    rcases List.mem_cons.mp (I2.stkSub _ z) with q | q
    · exact absurd I2.lt (by rw [← q]; exact Nat.lt_irrefl _)
    · exact I2.nofs (Nat.le_refl _) q
  have loop : ∀ s3 : Shared, s3 = { s2 with heap := h1, toks := s2.toks + ([] : List (Str × Value)).length } →
      codeAny (model X.prog X.w) X.A (.compLoop (.ListComp elt [⟨.Name x px, iter, ifs, 0⟩] scope pos) 0 (.ref it) (.ref s2.heap.objs.size) (X.blk N' scope G.objs.size fp s2 H2).env)
        (compPost (model X.prog X.w) X.A X.xe none (EP X pins σ Q) (.ref s2.heap.objs.size) G.objs.size) s3 := by
    rintro s3 rfl
    refine codeAny_compLoop_tests (fun k s' => ∃ i ys H' its, k = n + 1 - i ∧ i ≤ n ∧ ys.length ≤ i ∧ Vals ys its ∧ s'.heap.PlainList s2.heap.objs.size its.toArray ∧
      Inv (X.blk N' scope G.objs.size fp s2 H2) [] (none :: blkVals fv σ) H' s' ∧ H' s2.heap.objs.size = none ∧ tn i s'.heap ∧ (∀ b ∈ fp, H' b = none) ∧ W i ys H') ?_ (n + 1)
      ⟨0, [], H2, [], rfl, Nat.zero_le _, Nat.le_refl _, .nil, hD, blk_inv S I2 f2 hfo hC kp hns (fun p hp => nomatch hp), I2.hok.fresh (Nat.le_refl _), T.keep _ _ _ st2 fun b _ o e => kp b o e, fun b hb => (f2 b hb).1, w0⟩
    rintro k s4 ⟨i, ys, H4, its, rfl, hin, hyi, rv, pl4, I4, fD4, st4, ff4, w4⟩
    obtain ⟨cnt, eD⟩ := id pl4
    have I4p := pin1 (i := i) (ys := ys) I4 eD (fun v z => by cases z) fD4
    have np : ∀ p ∈ [(s2.heap.objs.size, ({ cls := .type "list", data := .seq its.toArray cnt } : Obj))], p.1 ∉ fp := fun p hp => by
      have z : p = (s2.heap.objs.size, ({ cls := .type "list", data := .seq its.toArray cnt } : Obj)) := by simpa using hp
      subst z; exact hDf
    rcases turn i ys H4 w4 with ⟨stop, fin⟩ | ⟨go, hi2, step⟩
    · refine wpAny_mono (T.done (X.blk N' scope G.objs.size fp s2 H2) rfl rfl rfl hc i _ s4 _ H4 _ I4p (stat ff4 np) st4 stop) (fun r s5 ⟨hr, I5⟩ => ?_) fun _ _ e => e
      subst hr
      obtain ⟨m5, hm5, _⟩ := I5.loc
      have eD5 : s5.heap.get? s2.heap.objs.size = some { cls := .type "list", data := .seq its.toArray cnt } := (I5.pin _ (List.mem_append_right _ List.mem_cons_self)).1
      refine ⟨m5, hm5, fun h' sb => ⟨.ref s2.heap.objs.size, upd H4 s2.heap.objs.size (.lst ys), ?_, rfl, fin _ fD4⟩⟩
      have ltC : ∀ {b : Addr} {o : Obj}, s2.heap.get? b = some o → b ≠ G.objs.size := fun {b o} e => Nat.ne_of_lt (Nat.lt_of_lt_of_le (Heap.lt_size e) hC)
      have fD2 : H2 s2.heap.objs.size = none := I2.hok.fresh (Nat.le_refl _)
      have ltD : ∀ {b : Addr} {o : Obj}, s2.heap.get? b = some o → b ≠ s2.heap.objs.size := fun {b o} e => Nat.ne_of_lt (Heap.lt_size e)
      have B := I5.base
      refine I2.call' (s' := { s5 with heap := h' }) (ch := fp) I5.os ⟨fun b o e nb hb hx => ?_, fun b o e nb hb hx => ?_, fun b o e nb hx => ?_, fun b o e hx => ?_, fun b xs e => ?_, fun b o u e => ?_, fun b ps e => ?_⟩ ?_ I5.bare fun b hb => ?_
      · exact sb.extBut b o (ltC e) (B.keep b o e nb hb hx)
      · obtain ⟨sl, q⟩ := B.slot b o e nb hb hx
        exact ⟨sl, sb.extBut b _ (ltC e) q⟩
      · rw [upd_ne (ltD e)]; exact B.free b o e nb hx
      · obtain ⟨o', q⟩ := B.there b o e hx
        exact ⟨o', sb.extBut b o' (ltC e) q⟩
      · have e' : H2 b = some (.tup xs) := e
        rw [upd_ne (ne_of_none e' fD2)]; exact B.tups b xs e
      · have e' : H2 b = some (.frz o u) := e
        rw [upd_ne (ne_of_none e' fD2)]; exact B.frzs b o u e
      · have e' : H2 b = some (.tbl ps) := e
        rw [upd_ne (ne_of_none e' fD2)]; exact B.tbls b ps e
      · intro b u e
        by_cases hb : b = s2.heap.objs.size
        · subst hb
          rw [upd_same] at e
          cases e
          exact ⟨Nat.le_trans hyi (Nat.le_trans hin hn), its, cnt, rv, sb.extBut _ _ hDC eD5⟩
        · rw [upd_ne hb] at e
          have fC : H4 G.objs.size = none := I5.free
          refine (I5.hok b u e).stay (fun c v hc' q => sb.extBut c v ?_ q) (fun c q => by rw [upd_ne (ne_of_none q fD4)]; exact q) fun c xs q => by rw [upd_ne (ne_of_none q fD4)]; exact q
          rcases hc' with z | z
          · subst z; exact ne_of_none e fC
          · exact ne_of_none z fC
      · obtain ⟨_, g1, g2, g3, g4, g5⟩ := f2 b hb
        exact ⟨g3, g1, g4, g5⟩
    · refine wpAny_mono (T.item (X.blk N' scope G.objs.size fp s2 H2) rfl rfl rfl hc i _ s4 _ H4 _ I4p (stat ff4 np) st4 go) (fun r s5 ⟨u, hr, h5⟩ => ?_) fun _ _ e => e
      subst hr
      show wpAny _ _ (letOwnedTupleGo (.Name x px) (.ref it) u >>= fun _ => assign (.Name x px) (X.blk N' scope G.objs.size fp s2 H2).env u) _ _ s5
      refine wpAny_bind (wpAny_mono h5 (fun _ s6 ⟨xv, H6, I6, r6, y6, st6, ff6⟩ => ?_) fun _ _ e => e)
      have I6' := I6.pinned (stat ff6 np) (T.obj _ _ st6)
      have out : ∀ {σ' : St} {H' : Hp} {s' : Shared}, Inv (X.blk N' scope G.objs.size fp s2 H2) ([(s2.heap.objs.size, ({ cls := .type "list", data := .seq its.toArray cnt } : Obj))] ++ pinsAt fp s6.heap) σ' H' s' →
          s'.heap.PlainList s2.heap.objs.size its.toArray ∧ H' s2.heap.objs.size = none ∧ (∀ b ∈ fp, H' b = none) ∧ (∀ b ∈ fp, ∀ o, s6.heap.get? b = some o → s'.heap.get? b = some o) := fun {σ' H' s'} J1 => by
        have q := J1.pin (s2.heap.objs.size, ({ cls := .type "list", data := .seq its.toArray cnt } : Obj)) (List.mem_append_right _ (List.mem_append_left _ List.mem_cons_self))
        refine ⟨⟨cnt, q.1⟩, q.2.1, fun b hb => ?_, fun b hb o e => (J1.pin (b, o) (List.mem_append_right _ (List.mem_append_right _ (mem_pinsAt hb e)))).1⟩
        obtain ⟨o, e, d⟩ := T.obj _ _ st6 b hb
        exact (J1.pin (b, o) (List.mem_append_right _ (List.mem_append_right _ (mem_pinsAt hb e)))).2.1
      refine nox ((pg_name (X := X.blk N' scope G.objs.size fp s2 H2) (i := 0) S.nd S.hd (.inl hlc) (.inr hlc)) _ s6 _ H6 xv u (fun σ' H' => σ' = some xv :: blkVals fv σ ∧ H' = H6) I6' r6 ⟨rfl, rfl⟩) fun _ s7 ⟨σ7, H7, I7, e7, e7'⟩ => ?_
      subst e7 e7'
      refine nox (ht _ _ _ _ _ s7 _ H7 _ I7 (step xv H7 y6)) fun ok s8 ⟨H8, I8, q8⟩ => ?_
      cases ok with
      | false =>
        obtain ⟨o1, o2, o3, o4⟩ := out I8
        exact ⟨n + 1 - (i + 1), by omega, i + 1, ys, H8, its, rfl, hi2, Nat.le_succ_of_le hyi, rv, o1, (I8.pins_of (pins' := []) fun p hp => nomatch hp).weak (σ' := none :: blkVals fv σ) rfl (fun j v e => by
          cases j with
          | zero => cases (show (none : Option V) = some v from Option.some.inj e)
          | succ j => exact e), o2, T.keep _ _ _ st6 o4, o3, q8⟩
      | true =>
        refine nox (he _ _ _ _ _ s8 _ H8 _ I8 q8) fun yv s9 ⟨y, H9, I9, r9, q9⟩ => ?_
        obtain ⟨o1, o2, o3, o4⟩ := out I9
        have hlen := rv.length
        refine wpAny_list_append_plain (hsz := by rw [List.size_toArray, ← hlen]; exact Nat.le_trans hyi (Nat.le_trans hin hn)) o1 fun h' pl' sb' => ?_
        have I9' : Inv (X.blk N' scope G.objs.size fp s2 H2) [] (some xv :: blkVals fv σ) H9 { s9 with heap := h' } :=
          (I9.pins_of (pins' := []) fun p hp => nomatch hp).turned (t' := s9.toks) (it := s2.heap.objs.size) (fun b o hb e => sb'.extBut b o hb e) o2 hDC (.inr (Nat.le_refl _)) hcl (fun p hp => nomatch hp)
        refine ⟨n + 1 - (i + 1), by omega, i + 1, ys ++ [y], H9, its ++ [yv], rfl, hi2, by rw [List.length_append]; exact Nat.succ_le_succ hyi, rv.append (.cons r9 .nil), ?_, I9'.weak (σ' := none :: blkVals fv σ) rfl (fun j v e => by
          cases j with
          | zero => cases (show (none : Option V) = some v from Option.some.inj e)
          | succ j => exact e), o2, T.keep _ _ _ st6 fun b hb o e => sb'.extBut b o (fun z => hDf (z ▸ hb)) (o4 b hb o e), o3, q9⟩
        have e9 : (its ++ [yv]).toArray = its.toArray.push yv := by simp
        rw [e9]
        exact pl'
  exact codeAny_compStart_list (loop _ rfl) (T.self _ 0 _ _ _ (T.keep _ _ _ st2 fun b _ o e => kp b o e) (loop _ rfl))
end L2

namespace L2
open PySem PySem.Spec PyProof.Rows
end L2

namespace L2
open PySem PySem.Spec PyProof.Rows
/-- name = [.. for ..] -/
def tSetLC (j : Nat) (wi : TI) (fv : List Nat) (tt : TT) (te : TE) : TS := fun D σ H => wi σ H fun J H1 => ∃ (W : Nat → List V → Hp → Prop) (n : Nat), W 0 [] H1 ∧ n ≤ sizeLine ∧ ∀ i ys H, W i ys H →
  (J.stop i H ∧ ∀ p, H p = none → D.nx (σ.set j (some (.ref p))) (upd H p (.lst ys))) ∨
  (J.go i H ∧ i < n ∧ ∀ x H', J.yld i H x H' → tt (some x :: blkVals fv σ) H' fun c H2 => if c = true then te (some x :: blkVals fv σ) H2 fun y H3 => W (i + 1) (ys ++ [y]) H3 else W (i + 1) ys H2)
end L2

namespace L2
open PySem PySem.Spec PyProof.Rows
open Builtin Builtin.Str
section
variable {X : Cx}
theorem vals_refs : ∀ {xs : List V} {us ws : List Value}, (∀ x ∈ xs, ∃ r, x = V.ref r) → Vals xs us → Vals xs ws → us = ws
  | _, _, _, _, .nil, .nil => rfl
  | x :: xs, _, _, h, .cons r1 t1, .cons r2 t2 => by
    obtain ⟨r, rfl⟩ := h x List.mem_cons_self
    cases r1
    cases r2
    rw [vals_refs (fun y hy => h y (List.mem_cons_of_mem _ hy)) t1 t2]
/-- != of two lists of the same objects -/
theorem op_ne_refs (hu : X.A.units < cLine) : OpR X (compareOp .NotEq) (fun x y H Q => ∃ a b xs, x = .ref a ∧ y = .ref b ∧ SqL X.K H a xs ∧ SqL X.K H b xs ∧ (∀ x ∈ xs, ∃ r, x = V.ref r) ∧ Q (.bl false) H) := by
  intro pins s σ H x y v u Q I rx ry h
  obtain ⟨a, b, xs, rfl, rfl, ha, hb, hr, q⟩ := h
  cases rx
  cases ry
  obtain ⟨i1, r1, p1, _⟩ := I.list ha
  obtain ⟨i2, r2, p2, _⟩ := I.list hb
  have e := vals_refs hr r1 r2
  subst e
  have z := PySem.SeqAt.RcNeAt.lists (A := X.A) (s := s) (e := fun _ => true) p1.isList p2.isList rfl hu (fun j h1 _ => PySem.SeqAt.EqAt.same _)
  have ez : (!(List.range i1.toArray.size).all fun _ => true) = false := by simp
  rw [ez] at z
  exact z X.prog X.w X.xe _ ⟨.bl false, H, I, rfl, q⟩
end
end L2

namespace L2
open PySem PySem.Spec PyProof.Rows
section
variable {X : Cx}
/-- // by a positive divisor of up to some thousand figures -/
def CDivB (_ j : Int) : Prop := 0 < j ∧ j.natAbs.log2 < 9000
end
end L2

namespace L2
open PySem PySem.Spec PyProof.Rows
section
variable {X : Cx}
end
end L2

namespace L2
open PySem PySem.Spec PyProof.Rows
/-! ### exceptions of the program's own classes -/
/-- what is tracked, and what was there in h0, is in B, but for the frames l -/
def Cov (l : List Env) (h0 : Heap) (H : Hp) (B h : Heap) : Prop := ∀ b o, h.get? b = some o → b ∉ frs l → (H b ≠ none ∨ ∃ o0, h0.get? b = some o0) → B.get? b = some o
/-- an exception at ea, of the class at C, flies through the frames l -/
def Fly (l : List Env) (h0 : Heap) (H : Hp) (ea C : Addr) (h : Heap) : Prop := ∃ B a0, Heap.FlyingW B l ea (.ref C) a0 h ∧ Cov l h0 H B h
def CXE (P : Program) (w : World) : CXT := fun outer H s E e s' => ∃ ea C H', e = .ref ea ∧ s'.os = s.os ∧ AllBare s'.gens ∧ Un (frs outer) [] H H' s.heap s'.heap ∧ HOk P w H' s'.heap ∧ Fly outer s.heap H' ea C s'.heap ∧ E e (some C) H'
theorem ObjOk.there {P : Program} {w : World} {H : Hp} {h : Heap} {a : Addr} {o : HO} (x : ObjOk P w H h a o) : ∃ ob, h.get? a = some ob := by
  cases o with
  | lst xs => obtain ⟨_, _, _, _, e⟩ := x; exact ⟨_, e⟩
  | tup xs => obtain ⟨_, _, _, o, e, _⟩ := x; exact ⟨_, e⟩
  | dK kvs => obtain ⟨_, _, _, _, o, _, _, e, _⟩ := x; exact ⟨_, e⟩
  | dT kvs => obtain ⟨_, _, _, _, o, _, _, e, _⟩ := x; exact ⟨_, e⟩
  | set S n => obtain ⟨o, _, _, _, e, _⟩ := x; exact ⟨_, e⟩
  | ins C dx fs => obtain ⟨_, _, _, e, _⟩ := x; exact ⟨_, e⟩
  | own y => obtain ⟨_, e⟩ := x; exact ⟨_, e⟩
  | xd fs => obtain ⟨_, ⟨_, _, _, e, _⟩, _⟩ := x; exact ⟨_, e⟩
  | rng lo hi => obtain ⟨_, _, _, e⟩ := x; exact ⟨_, e⟩
  | frz ob u => obtain ⟨e, _⟩ := x; exact ⟨_, e⟩
  | tbl ps => exact ⟨_, (show h.get? a = some _ from x)⟩
  | met f y => exact ⟨_, (show h.get? a = some _ from x)⟩
  | ext φ => obtain ⟨_, ⟨_, e⟩, _⟩ := x; exact ⟨_, e⟩
section
variable {l : List Env} {H : Hp} {B h h' hc : Heap} {P : Program} {w : World}
end
/-- the context of a def's body whose exceptions go on -/
structure Cx.Def (X : Cx) (E : XK) : Prop where
  stk : X.stack = X.env :: X.outer
  fr : X.env.frame = some X.env.locals
  ex : X.ex = []
  xe : X.xe = fun e s' => wpAny (model X.prog X.w) X.A (leaving X.env e) (fun _ s'' => CXE X.prog X.w X.outer X.H₀ X.s₀ E e s'') (fun e' s'' => CXE X.prog X.w X.outer X.H₀ X.s₀ E e' s'') s'
section
variable {X : Cx} {E : XK} {pins : List (Addr × Obj)} {σ : St} {H H' : Hp} {s s' : Shared}
end
section
variable {P : Program} {w : World} {K : PySem.W.Frag} {mg : Str → Option Value} {base : Heap}
end
end L2

namespace L2
open PySem PySem.Spec PyProof.Rows
section
variable {X : Cx} {E : XK}
/-- raise C(arg) -/
def tRaise (C : Addr) (E : XK) (ta : TA) : TS := fun _ σ H => ta σ H fun vs H1 => vs.length ≤ 1 ∧ ∀ ea, E (.ref ea) (some C) H1
end
end L2

namespace L2
open PySem PySem.Spec PyProof.Rows
/-- an exception that has come down -/
def ExcO (ea C : Addr) : HO := .ext fun h => ∃ o, h.get? ea = some o ∧ o.cls = .ref C
abbrev Cx.hnd (X : Cx) (ev : Value) : Cx := { X with A := X.A.mark (some ev), calm := false, xe := fun _ _ => False }
section
variable {X : Cx} {pins : List (Addr × Obj)} {σ : St} {H H1 : Hp} {s s1 : Shared} {ev : Value}
/-- a handler's class takes the exception -/
def Takes (X : Cx) (C CB : Addr) : Prop := ∀ (A : Around) (s : Shared) (ea : Addr) (ob : Obj) (Q : Bool → Shared → Prop) (E : Value → Shared → Prop), X.K.In s.heap → s.heap.get? ea = some ob → ob.cls = .ref C → Q true s → wpAny (model X.prog X.w) A (excMatches (.ref ea) (.ref CB)) Q E s
/-! ### try around one call -/
abbrev TX := St → Hp → VK → XK → Prop
def XP (X : Cx) (pins : List (Addr × Obj)) (σ : St) (E : XK) (ev : Value) (s' : Shared) : Prop := ∃ s1 H1 ea C H', Inv X pins σ H1 s1 ∧ ev = .ref ea ∧ Inv X pins σ H' s' ∧ Fly X.stack s1.heap H' ea C s'.heap ∧ E ev (some C) H'
def PEX (X : Cx) (e : Expr) (t : TX) : Prop :=
  ∀ (pins : List (Addr × Obj)) (s : Shared) (σ : St) (H : Hp) (Q : VK) (E : XK), Inv X pins σ H s → t σ H Q E → wpAny (model X.prog X.w) X.A (eval e X.env) (EP X pins σ Q) (XP X pins σ E) s
def xCall (sp : Sp) (dvs : List V) (t : TA) : TX := fun σ H Q E => t σ H fun vs H1 => sp (vs ++ dvs) H1 Q E
end
section
variable {X : Cx} {k : Nat} {f C : Addr} {fd : FuncData} {ps : List Str} {sp : Sp} {dvs : List V} {ds : List Value} {x : Str} {p pos : Pos} {e : Expr} {es : List Expr} {t : TA}
end
section
variable {X : Cx} {e : Expr} {t : TX} {C CB : Addr} {cx y : Str} {np hpos pos py apos : Pos} {b₀ : Stmt} {suite : List Stmt} {th : TS} {j : Nat}
def tTrySet (j : Nat) (C : Addr) (t : TX) (th : TS) : TS := fun D σ H => t σ H (fun v H1 => D.nx (σ.set j (some v)) H1) fun ev c H1 => ∃ ea, ev = .ref ea ∧ c = some C ∧ (H1 ea = none → th D σ (upd H1 ea (ExcO ea C)))
def tTryDrop (C : Addr) (t : TX) (th : TS) : TS := fun D σ H => t σ H (fun _ H1 => D.nx σ H1) fun ev c H1 => ∃ ea, ev = .ref ea ∧ c = some C ∧ (H1 ea = none → th D σ (upd H1 ea (ExcO ea C)))
end
end L2

namespace L2
open PySem PySem.Spec PyProof.Rows PySem.Builtin PySem.Builtin.ObjectAttr PySem.Builtin.Getset_descriptor
/-! ### the kind of an exception of an own class -/
section
variable {prog : Program} {w : World} {A : Around} {E : Value → Shared → Prop} {s : Shared} {K : PySem.W.Frag} {x D : Addr} {ox : Obj}
/-- what the top must say of such a class -/
structure ExcK (K : PySem.W.Frag) (D : Addr) : Prop where
  ga : PySem.W.findIn K (.ref D) "__getattribute__" = some (some (.builtin "BaseException.__getattribute__"))
  gh : PySem.W.findIn K (.ref D) "__getattr__" = some none
  ha : PySem.W.findIn K (.ref D) "__class__" = some (some (.builtin "object.__class__"))
  hn : PySem.W.specialIn K (.builtin "object.__class__") "__get__" = some (some (.builtin "getset_descriptor.__get__"))
  htk : PySem.W.takesIn K (.builtin "object.__class__") = some true
  hm : PySem.W.mroIn K D (.type "object") = some true
  hb : PySem.W.mroIn K D (.type "BaseException") = some true
end
end L2

namespace L2
open PySem PySem.Spec PyProof.Rows
section
variable {K : PySem.W.Frag} {x D : Addr}
end
section
variable {X : Cx}
end
section
variable {X : Cx} {pins : List (Addr × Obj)} {σ : St} {H H1 : Hp} {s s1 : Shared} {ev : Value}
def Ends.gone (D : Ends) (i : Nat) : Ends := ⟨fun σ H => D.nx (σ.set i none) H, D.rt, fun σ H => D.bk (σ.set i none) H, fun σ H => D.ct (σ.set i none) H⟩
end
section
variable {X : Cx} {e : Expr} {t : TX} {C CB : Addr} {cx n : Str} {np hpos pos epos : Pos} {b₀ : Stmt} {suite : List Stmt} {th : TS} {i : Nat}
/-- try: one call, dropped; except CB as n -/
def tTryAs (i : Nat) (C : Addr) (t : TX) (th : TS) : TS := fun D σ H => t σ H (fun _ H1 => D.nx σ H1) fun ev c H1 => ∃ ea, ev = .ref ea ∧ c = some C ∧ (H1 ea = none → th (D.gone i) (σ.set i (some (.ref ea))) (upd H1 ea (ExcO ea C)))
end
end L2

/-! data that == compares: flat values and tuples of them; lists of such -/
namespace L2
open PySem PySem.Spec PyProof.Rows
section
variable {P : Program} {w : World} {K : PySem.W.Frag} {H : Hp} {h : Heap} {a b : Addr} {xs ys : List V}
theorem sqL_raw (hok : HOk P w H h) (kin : K.In h) (q : SqL K H a xs) : ∃ its : List Value, Vals xs its ∧ PlainL h a its.toArray ∧ xs.length ≤ sizeLine := by
  rcases q with q | ⟨o, its, n, hk, hc, hd, hs, hz, r⟩
  · obtain ⟨z, its, n, r, e⟩ := q.ok hok
    exact ⟨its, r, ⟨_, n, e, rfl, rfl, rfl⟩, z⟩
  · refine ⟨its.toList, r, ⟨o, n, kin a o hk, hc, hd, by simpa using hs⟩, ?_⟩
    have e := r.length
    simp only [Array.length_toList] at e
    omega
theorem sqT_raw (hok : HOk P w H h) (kin : K.In h) (q : SqT K H a xs) : ∃ its : List Value, Vals xs its ∧ IsTup h a its.toArray ∧ xs.length ≤ sizeLine := by
  rcases q with q | ⟨o, its, n, hk, hc, hs, hz, r⟩
  · obtain ⟨z, its, r, p⟩ := q.ok hok
    exact ⟨its, r, p, z⟩
  · refine ⟨its.toList, r, ⟨o, kin a o hk, hc, n, by simpa using hs⟩, ?_⟩
    have e := r.length
    simp only [Array.length_toList] at e
    omega
theorem sqT_inj (hok : HOk P w H h) (kin : K.In h) (q : SqT K H a xs) (q' : SqT K H a ys) : xs = ys := by
  obtain ⟨its, r, ⟨o, e, _, n, d⟩, _⟩ := sqT_raw hok kin q
  obtain ⟨its', r', ⟨o', e', _, n', d'⟩, _⟩ := sqT_raw hok kin q'
  rw [e] at e'; cases e'
  rw [d] at d'
  injection d' with d1 _
  have : its = its' := by simpa using congrArg Array.toList d1
  subst this
  exact r.inj r'
/-- a tuple: a new one, or one of the module -/
def SqU (K : PySem.W.Frag) (H : Hp) (a : Addr) (xs : List V) : Prop :=
  H a = some (.tup xs) ∨ ∃ (o : Obj) (its : Array Value) (n : Nat), K.lookup a = some o ∧ o.cls = .type "tuple" ∧ o.data = .seq its n ∧ its.size ≤ sizeLine ∧ Vals xs its.toList
theorem SqU.sq (q : SqU K H a xs) : SqT K H a xs := q.elim (fun z => .inl (.inl z)) .inr
/-- the tuples stay -/
def TSame (H H' : Hp) : Prop := ∀ b xs, H b = some (.tup xs) → H' b = some (.tup xs)
theorem Same.ts {H H' : Hp} (e : Same H H') : TSame H H' := fun b xs h => e b _ h
theorem SqU.keep {H' : Hp} (e : TSame H H') (q : SqU K H a xs) : SqU K H' a xs := q.elim (fun z => .inl (e _ _ z)) .inr
end
/-! ### answers of == and != -/
def EqIs (K : PySem.W.Frag) (n : Nat) (H : Hp) (x y : V) (b : Bool) : Prop :=
  ∀ (P : Program) (w : World) (A : Around) (s : Shared) (u v : Value), A.units + n < cLine → HOk P w H s.heap → K.In s.heap → RelV x u → RelV y v → SeqAt.EqAt A s u v b
def RcIs (K : PySem.W.Frag) (n : Nat) (H : Hp) (x y : V) (b : Bool) : Prop :=
  ∀ (P : Program) (w : World) (A : Around) (s : Shared) (u v : Value), A.units + n < cLine → HOk P w H s.heap → K.In s.heap → RelV x u → RelV y v → SeqAt.RcAt A s u v b
def NeIs (K : PySem.W.Frag) (n : Nat) (H : Hp) (x y : V) (b : Bool) : Prop :=
  ∀ (P : Program) (w : World) (A : Around) (s : Shared) (u v : Value), A.units + n < cLine → HOk P w H s.heap → K.In s.heap → RelV x u → RelV y v → SeqAt.RcNeAt A s u v (!b)
section
variable {K : PySem.W.Frag} {H : Hp} {a b : Addr} {n m : Nat} {x y : V} {r : Bool}
theorem EqIs.mono (h : EqIs K n H x y r) (le : n ≤ m) : EqIs K m H x y r := fun P w A s u v hA => h P w A s u v (by omega)
theorem tupRc {us vs : List V} {e : Nat → Bool} (ha : SqT K H a us) (hb : SqT K H b vs) (hl : us.length = vs.length) (he : ∀ (j : Nat) x y, us[j]? = some x → vs[j]? = some y → EqIs K n H x y (e j)) :
    RcIs K (n + 1) H (.ref a) (.ref b) ((List.range us.length).all e) ∧ NeIs K (n + 1) H (.ref a) (.ref b) ((List.range us.length).all e) := by
  have main : ∀ (P : Program) (w : World) (A : Around) (s : Shared) (u v : Value), A.units + (n + 1) < cLine → HOk P w H s.heap → K.In s.heap → RelV (.ref a) u → RelV (.ref b) v →
      SeqAt.RcAt A s u v ((List.range us.length).all e) ∧ SeqAt.RcNeAt A s u v (!(List.range us.length).all e) := by
    intro P w A s u v hA hok kin r1 r2
    cases r1
    cases r2
    obtain ⟨i1, v1, p1, _⟩ := sqT_raw hok kin ha
    obtain ⟨i2, v2, p2, _⟩ := sqT_raw hok kin hb
    have l1 := v1.length
    have l2 := v2.length
    have items : ∀ j (h1 : j < i1.toArray.size) (h2 : j < i2.toArray.size), SeqAt.EqAt A.in1 s i1.toArray[j] i2.toArray[j] (e j) := fun j h1 h2 => by
      have h1' : j < i1.length := by simpa using h1
      have h2' : j < i2.length := by simpa using h2
      have e1 : us[j]? = some us[j] := List.getElem?_eq_getElem (by omega)
      have e2 : vs[j]? = some vs[j] := List.getElem?_eq_getElem (by omega)
      obtain ⟨u, eu, ru⟩ := v1.get e1
      obtain ⟨v, ev, rv⟩ := v2.get e2
      have q := he j _ _ e1 e2 P w A.in1 s u v (by show A.units + 1 + n < cLine; omega) hok kin ru rv
      have z1 : i1.toArray[j] = u := by
        rw [List.getElem?_eq_getElem h1'] at eu
        simpa using Option.some.inj eu
      have z2 : i2.toArray[j] = v := by
        rw [List.getElem?_eq_getElem h2'] at ev
        simpa using Option.some.inj ev
      rw [z1, z2]
      exact q
    have ez : ((List.range (min i1.toArray.size i2.toArray.size)).all e && i1.toArray.size == i2.toArray.size) = (List.range us.length).all e := by
      have s1 : i1.toArray.size = us.length := by simp [l1]
      have s2 : i2.toArray.size = us.length := by simp [← l2, hl]
      rw [s1, s2, Nat.min_self]
      simp
    constructor
    · have q := SeqAt.RcAt.tuples (A := A) (s := s) (e := e) p1 p2 (by omega) items
      rw [ez] at q
      exact q
    · have q := SeqAt.RcNeAt.tuples (A := A) (s := s) (e := e) p1 p2 (by omega) items
      rw [ez] at q
      exact q
  exact ⟨fun P w A s u v h1 h2 h3 h4 h5 => (main P w A s u v h1 h2 h3 h4 h5).1, fun P w A s u v h1 h2 h3 h4 h5 => (main P w A s u v h1 h2 h3 h4 h5).2⟩
theorem eqIs_ref (h : RcIs K n H (.ref a) (.ref b) r) (hs : ∀ (P : Program) (w : World) (h : Heap), HOk P w H h → K.In h → a = b → r = true) : EqIs K n H (.ref a) (.ref b) r := by
  intro P w A s u v hA hok kin r1 r2
  have q := h P w A s u v hA hok kin r1 r2
  cases r1
  cases r2
  by_cases e : a = b
  · rw [hs P w s.heap hok kin e, e]
    exact SeqAt.EqAt.same _
  · exact SeqAt.EqAt.of_refs e q
end
/-- a kind of data: how it lies, that it lies for one thing alone, and what == and != tell of it -/
structure Cod (α : Type) [DecidableEq α] where
  n : Nat
  rp : PySem.W.Frag → Hp → α → V → Prop
  inj : ∀ {P : Program} {w : World} {K : PySem.W.Frag} {H : Hp} {h : Heap} {x y : α} {v : V}, HOk P w H h → K.In h → rp K H x v → rp K H y v → x = y
  eq : ∀ {K : PySem.W.Frag} {H : Hp} {x y : α} {u v : V}, rp K H x u → rp K H y v → EqIs K n H u v (decide (x = y))
  rc : ∀ {K : PySem.W.Frag} {H : Hp} {x y : α} {u v : V}, rp K H x u → rp K H y v → RcIs K n H u v (decide (x = y))
  ne : ∀ {K : PySem.W.Frag} {H : Hp} {x y : α} {u v : V}, rp K H x u → rp K H y v → NeIs K n H u v (decide (x = y))
  keep : ∀ {K : PySem.W.Frag} {H H' : Hp} {x : α} {v : V}, TSame H H' → rp K H x v → rp K H' x v
def cInt : Cod Int where
  n := 0
  rp _ _ i v := v = .int i
  inj _ _ h1 h2 := by
    rw [h1] at h2
    exact V.int.inj h2
  eq h1 h2 := by
    intro P w A s u v _ _ _ r1 r2
    subst h1 h2
    obtain ⟨t, rfl⟩ := r1
    obtain ⟨t', rfl⟩ := r2
    rw [← Bool.beq_eq_decide_eq]
    exact SeqAt.EqAt.int_int _ t _ t'
  rc h1 h2 := by
    intro P w A s u v _ _ _ r1 r2
    subst h1 h2
    obtain ⟨t, rfl⟩ := r1
    obtain ⟨t', rfl⟩ := r2
    rw [← Bool.beq_eq_decide_eq]
    exact SeqAt.RcAt.int_int _ t _ t'
  ne h1 h2 := by
    intro P w A s u v _ _ _ r1 r2
    subst h1 h2
    obtain ⟨t, rfl⟩ := r1
    obtain ⟨t', rfl⟩ := r2
    rw [← Bool.beq_eq_decide_eq]
    exact SeqAt.RcNeAt.int_int _ t _ t'
  keep _ h := h
theorem str_beq_dec (x y : Str) : decide (x = y) = (x == y) := by
  rw [Bool.eq_iff_iff]
  simp
def cStr : Cod Str where
  n := 0
  rp _ _ i v := v = .str i
  inj _ _ h1 h2 := by
    rw [h1] at h2
    exact V.str.inj h2
  eq h1 h2 := by
    intro P w A s u v _ _ _ r1 r2
    subst h1 h2
    obtain ⟨t, rfl⟩ := r1
    obtain ⟨t', rfl⟩ := r2
    rw [str_beq_dec]
    exact SeqAt.EqAt.str_str _ t _ t'
  rc h1 h2 := by
    intro P w A s u v _ _ _ r1 r2
    subst h1 h2
    obtain ⟨t, rfl⟩ := r1
    obtain ⟨t', rfl⟩ := r2
    rw [str_beq_dec]
    exact SeqAt.RcAt.str_str _ t _ t'
  ne h1 h2 := by
    intro P w A s u v _ _ _ r1 r2
    subst h1 h2
    obtain ⟨t, rfl⟩ := r1
    obtain ⟨t', rfl⟩ := r2
    rw [str_beq_dec]
    exact SeqAt.RcNeAt.str_str _ t _ t'
  keep _ h := h
def cBl : Cod Bool where
  n := 0
  rp _ _ i v := v = .bl i
  inj _ _ h1 h2 := by
    rw [h1] at h2
    exact V.bl.inj h2
  eq h1 h2 := by
    intro P w A s u v _ _ _ r1 r2
    subst h1 h2
    cases r1
    cases r2
    rw [← Bool.beq_eq_decide_eq]
    exact SeqAt.EqAt.bool_bool _ _
  rc h1 h2 := by
    intro P w A s u v _ _ _ r1 r2
    subst h1 h2
    cases r1
    cases r2
    rw [← Bool.beq_eq_decide_eq]
    exact SeqAt.RcAt.bool_bool _ _
  ne h1 h2 := by
    intro P w A s u v _ _ _ r1 r2
    subst h1 h2
    cases r1
    cases r2
    rw [← Bool.beq_eq_decide_eq]
    exact SeqAt.RcNeAt.bool_bool _ _
  keep _ h := h
section
variable {α β γ : Type} [DecidableEq α] [DecidableEq β] [DecidableEq γ]
def cVia (f : β → α) (hf : ∀ x y, f x = f y → x = y) (c : Cod α) : Cod β where
  n := c.n
  rp K H x v := c.rp K H (f x) v
  inj h1 h2 h3 h4 := hf _ _ (c.inj h1 h2 h3 h4)
  eq {K H x y u v} h1 h2 := by
    have e : decide (x = y) = decide (f x = f y) := decide_eq_decide.mpr ⟨fun z => by rw [z], fun z => hf _ _ z⟩
    rw [e]
    exact c.eq h1 h2
  rc {K H x y u v} h1 h2 := by
    have e : decide (x = y) = decide (f x = f y) := decide_eq_decide.mpr ⟨fun z => by rw [z], fun z => hf _ _ z⟩
    rw [e]
    exact c.rc h1 h2
  ne {K H x y u v} h1 h2 := by
    have e : decide (x = y) = decide (f x = f y) := decide_eq_decide.mpr ⟨fun z => by rw [z], fun z => hf _ _ z⟩
    rw [e]
    exact c.ne h1 h2
  keep h1 h2 := c.keep h1 h2
def rT2 (c : Cod α) (d : Cod β) (K : PySem.W.Frag) (H : Hp) (x : α × β) (v : V) : Prop := ∃ a u w, v = .ref a ∧ SqU K H a [u, w] ∧ c.rp K H x.1 u ∧ d.rp K H x.2 w
theorem rT2_inj {c : Cod α} {d : Cod β} {P : Program} {w : World} {K : PySem.W.Frag} {H : Hp} {h : Heap} {x y : α × β} {v : V} (hok : HOk P w H h) (kin : K.In h) (h1 : rT2 c d K H x v) (h2 : rT2 c d K H y v) : x = y := by
  obtain ⟨a, u, t, rfl, ha, hu, ht⟩ := h1
  obtain ⟨b, u', t', e, hb, hu', ht'⟩ := h2
  cases e
  have z := sqT_inj hok kin ha.sq hb.sq
  cases z
  exact Prod.ext (c.inj hok kin hu hu') (d.inj hok kin ht ht')
theorem rT2_rc {c : Cod α} {d : Cod β} {K : PySem.W.Frag} {H : Hp} {x y : α × β} {u v : V} (h1 : rT2 c d K H x u) (h2 : rT2 c d K H y v) :
    RcIs K (max c.n d.n + 1) H u v (decide (x = y)) ∧ NeIs K (max c.n d.n + 1) H u v (decide (x = y)) := by
  obtain ⟨a, u, t, rfl, ha, hu, ht⟩ := h1
  obtain ⟨b, u', t', rfl, hb, hu', ht'⟩ := h2
  have T := tupRc (n := max c.n d.n) (e := fun j => if j = 0 then decide (x.1 = y.1) else decide (x.2 = y.2)) ha.sq hb.sq rfl (fun j p q e1 e2 => by
    match j, e1, e2 with
    | 0, e1, e2 => cases e1; cases e2; exact (c.eq hu hu').mono (Nat.le_max_left _ _)
    | 1, e1, e2 => cases e1; cases e2; exact (d.eq ht ht').mono (Nat.le_max_right _ _))
  have e : ((List.range ([u, t] : List V).length).all fun j => if j = 0 then decide (x.1 = y.1) else decide (x.2 = y.2)) = decide (x = y) := by
    show (decide (x.1 = y.1) && (decide (x.2 = y.2) && true)) = decide (x = y)
    rw [Bool.and_true, ← Bool.decide_and]
    exact decide_eq_decide.mpr (Prod.ext_iff (x := x) (y := y)).symm
  rw [e] at T
  exact T
def cT2 (c : Cod α) (d : Cod β) : Cod (α × β) where
  n := max c.n d.n + 1
  rp := rT2 c d
  inj := rT2_inj
  rc h1 h2 := (rT2_rc h1 h2).1
  ne h1 h2 := (rT2_rc h1 h2).2
  eq {K H x y u v} h1 h2 := by
    have r := (rT2_rc h1 h2).1
    have i := fun P w h hok kin => rT2_inj (c := c) (d := d) (P := P) (w := w) (K := K) (H := H) (h := h) (x := x) (y := y) (v := v) hok kin
    obtain ⟨a, _, _, rfl, _⟩ := id h1
    obtain ⟨b, _, _, rfl, _⟩ := id h2
    refine eqIs_ref r fun P w h hok kin e => ?_
    subst e
    exact decide_eq_true (i P w h hok kin h1 h2)
  keep e h := let ⟨a, u, w, h1, h2, h3, h4⟩ := h; ⟨a, u, w, h1, h2.keep e, c.keep e h3, d.keep e h4⟩
def rT3 (c : Cod α) (d : Cod β) (f : Cod γ) (K : PySem.W.Frag) (H : Hp) (x : α × β × γ) (v : V) : Prop := ∃ a u w z, v = .ref a ∧ SqU K H a [u, w, z] ∧ c.rp K H x.1 u ∧ d.rp K H x.2.1 w ∧ f.rp K H x.2.2 z
theorem rT3_inj {c : Cod α} {d : Cod β} {f : Cod γ} {P : Program} {w : World} {K : PySem.W.Frag} {H : Hp} {h : Heap} {x y : α × β × γ} {v : V} (hok : HOk P w H h) (kin : K.In h) (h1 : rT3 c d f K H x v) (h2 : rT3 c d f K H y v) : x = y := by
  obtain ⟨a, u, t, z, rfl, ha, hu, ht, hz⟩ := h1
  obtain ⟨b, u', t', z', e, hb, hu', ht', hz'⟩ := h2
  cases e
  have q := sqT_inj hok kin ha.sq hb.sq
  cases q
  exact Prod.ext (c.inj hok kin hu hu') (Prod.ext (d.inj hok kin ht ht') (f.inj hok kin hz hz'))
theorem rT3_rc {c : Cod α} {d : Cod β} {f : Cod γ} {K : PySem.W.Frag} {H : Hp} {x y : α × β × γ} {u v : V} (h1 : rT3 c d f K H x u) (h2 : rT3 c d f K H y v) :
    RcIs K (max c.n (max d.n f.n) + 1) H u v (decide (x = y)) ∧ NeIs K (max c.n (max d.n f.n) + 1) H u v (decide (x = y)) := by
  obtain ⟨a, u, t, z, rfl, ha, hu, ht, hz⟩ := h1
  obtain ⟨b, u', t', z', rfl, hb, hu', ht', hz'⟩ := h2
  have T := tupRc (n := max c.n (max d.n f.n)) (e := fun j => if j = 0 then decide (x.1 = y.1) else if j = 1 then decide (x.2.1 = y.2.1) else decide (x.2.2 = y.2.2)) ha.sq hb.sq rfl (fun j p q e1 e2 => by
    match j, e1, e2 with
    | 0, e1, e2 => cases e1; cases e2; exact (c.eq hu hu').mono (Nat.le_max_left _ _)
    | 1, e1, e2 => cases e1; cases e2; exact (d.eq ht ht').mono (Nat.le_trans (Nat.le_max_left _ _) (Nat.le_max_right _ _))
    | 2, e1, e2 => cases e1; cases e2; exact (f.eq hz hz').mono (Nat.le_trans (Nat.le_max_right _ _) (Nat.le_max_right _ _)))
  have e : ((List.range ([u, t, z] : List V).length).all fun j => if j = 0 then decide (x.1 = y.1) else if j = 1 then decide (x.2.1 = y.2.1) else decide (x.2.2 = y.2.2)) = decide (x = y) := by
    show (decide (x.1 = y.1) && (decide (x.2.1 = y.2.1) && (decide (x.2.2 = y.2.2) && true))) = decide (x = y)
    rw [Bool.and_true, ← Bool.decide_and, ← Bool.decide_and]
    refine decide_eq_decide.mpr ⟨fun z => Prod.ext z.1 (Prod.ext z.2.1 z.2.2), fun z => ?_⟩
    rw [z]
    exact ⟨rfl, rfl, rfl⟩
  rw [e] at T
  exact T
def cT3 (c : Cod α) (d : Cod β) (f : Cod γ) : Cod (α × β × γ) where
  n := max c.n (max d.n f.n) + 1
  rp := rT3 c d f
  inj := rT3_inj
  rc h1 h2 := (rT3_rc h1 h2).1
  ne h1 h2 := (rT3_rc h1 h2).2
  eq {K H x y u v} h1 h2 := by
    have r := (rT3_rc h1 h2).1
    have i := fun P w h hok kin => rT3_inj (c := c) (d := d) (f := f) (P := P) (w := w) (K := K) (H := H) (h := h) (x := x) (y := y) (v := v) hok kin
    obtain ⟨a, _, _, _, rfl, _⟩ := id h1
    obtain ⟨b, _, _, _, rfl, _⟩ := id h2
    refine eqIs_ref r fun P w h hok kin e => ?_
    subst e
    exact decide_eq_true (i P w h hok kin h1 h2)
  keep e h := let ⟨a, u, w, z, h1, h2, h3, h4, h5⟩ := h; ⟨a, u, w, z, h1, h2.keep e, c.keep e h3, d.keep e h4, f.keep e h5⟩
end
/-! ### lists of such data -/
section
variable {α : Type} [DecidableEq α] {K : PySem.W.Frag} {H : Hp}
theorem _root_.PySem.Paired.get {β γ : Type} {R : β → γ → Prop} : ∀ {xs : List β} {us : List γ}, Paired R xs us → ∀ {j : Nat} {u : γ}, us[j]? = some u → ∃ x, xs[j]? = some x ∧ R x u
  | _, _, .nil, j, u, e => by simp at e
  | _, _, .cons r t, 0, u, e => by simp at e; subst e; exact ⟨_, rfl, r⟩
  | _, _, .cons r t, j + 1, u, e => PySem.Paired.get t (j := j) (by simpa using e)
theorem _root_.PySem.Paired.get1 {β γ : Type} {R : β → γ → Prop} : ∀ {xs : List β} {us : List γ}, Paired R xs us → ∀ {j : Nat} {x : β}, xs[j]? = some x → ∃ u, us[j]? = some u ∧ R x u
  | _, _, .nil, j, u, e => by simp at e
  | _, _, .cons r t, 0, u, e => by simp at e; subst e; exact ⟨_, rfl, r⟩
  | _, _, .cons r t, j + 1, u, e => PySem.Paired.get1 t (j := j) (by simpa using e)
theorem _root_.PySem.Paired.len {β γ : Type} {R : β → γ → Prop} : ∀ {xs : List β} {us : List γ}, Paired R xs us → xs.length = us.length
  | _, _, .nil => rfl
  | _, _, .cons r t => by simp [PySem.Paired.len t]
theorem _root_.PySem.Paired.app {β γ : Type} {R : β → γ → Prop} : ∀ {xs ys : List β} {us vs : List γ}, Paired R xs us → Paired R ys vs → Paired R (xs ++ ys) (us ++ vs)
  | _, _, _, _, .nil, s => s
  | _, _, _, _, .cons r t, s => .cons r (PySem.Paired.app t s)
theorem range_all_eq {xs ys : List α} {n : Nat} (h1 : xs.length = n) (h2 : ys.length = n) : ((List.range n).all fun j => decide (xs[j]? = ys[j]?)) = decide (xs = ys) := by
  rw [Bool.eq_iff_iff, List.all_eq_true, decide_eq_true_eq]
  constructor
  · intro h
    apply List.ext_getElem?
    intro i
    by_cases hi : i < n
    · exact of_decide_eq_true (h i (List.mem_range.mpr hi))
    · rw [List.getElem?_eq_none (by omega), List.getElem?_eq_none (by omega)]
  · intro h i _
    rw [h]
    exact decide_eq_true rfl
theorem listRc {c : Cod α} {a b : Addr} {us vs : List V} {xs ys : List α} (ha : SqL K H a us) (hb : SqL K H b vs) (px : Paired (c.rp K H) xs us) (py : Paired (c.rp K H) ys vs) :
    RcIs K (c.n + 1) H (.ref a) (.ref b) (decide (xs = ys)) ∧ NeIs K (c.n + 1) H (.ref a) (.ref b) (decide (xs = ys)) := by
  have main : ∀ (P : Program) (w : World) (A : Around) (s : Shared) (u v : Value), A.units + (c.n + 1) < cLine → HOk P w H s.heap → K.In s.heap → RelV (.ref a) u → RelV (.ref b) v →
      SeqAt.RcAt A s u v (decide (xs = ys)) ∧ SeqAt.RcNeAt A s u v (!decide (xs = ys)) := by
    intro P w A s u v hA hok kin r1 r2
    cases r1
    cases r2
    obtain ⟨i1, v1, p1, _⟩ := sqL_raw hok kin ha
    obtain ⟨i2, v2, p2, _⟩ := sqL_raw hok kin hb
    have l1 := v1.length
    have l2 := v2.length
    have m1 := px.len
    have m2 := py.len
    by_cases hl : i1.length = i2.length
    · have items : ∀ j (h1 : j < i1.toArray.size) (h2 : j < i2.toArray.size), SeqAt.EqAt A.in1 s i1.toArray[j] i2.toArray[j] (decide (xs[j]? = ys[j]?)) := fun j h1 h2 => by
        have h1' : j < i1.length := by simpa using h1
        have h2' : j < i2.length := by simpa using h2
        have e1 : us[j]? = some us[j] := List.getElem?_eq_getElem (by omega)
        have e2 : vs[j]? = some vs[j] := List.getElem?_eq_getElem (by omega)
        obtain ⟨u, eu, ru⟩ := v1.get e1
        obtain ⟨v, ev, rv⟩ := v2.get e2
        obtain ⟨x, ex, rx⟩ := px.get e1
        obtain ⟨y, ey, ry⟩ := py.get e2
        have q := c.eq rx ry P w A.in1 s u v (by show A.units + 1 + c.n < cLine; omega) hok kin ru rv
        have z1 : i1.toArray[j] = u := by
          rw [List.getElem?_eq_getElem h1'] at eu
          simpa using Option.some.inj eu
        have z2 : i2.toArray[j] = v := by
          rw [List.getElem?_eq_getElem h2'] at ev
          simpa using Option.some.inj ev
        rw [z1, z2, ex, ey]
        have e : decide ((some x : Option α) = some y) = decide (x = y) := decide_eq_decide.mpr ⟨fun z => Option.some.inj z, fun z => by rw [z]⟩
        rw [e]
        exact q
      have ez : (List.range i1.toArray.size).all (fun j => decide (xs[j]? = ys[j]?)) = decide (xs = ys) := range_all_eq (by rw [List.size_toArray]; omega) (by rw [List.size_toArray]; omega)
      constructor
      · have q := SeqAt.RcAt.lists (A := A) (s := s) p1.isList p2.isList (by simpa using hl) (by omega) items
        rw [ez] at q
        exact q
      · have q := SeqAt.RcNeAt.lists (A := A) (s := s) p1.isList p2.isList (by simpa using hl) (by omega) items
        rw [ez] at q
        exact q
    · have hsz : (i1.toArray.size != i2.toArray.size) = true := by simpa using hl
      have e : decide (xs = ys) = false := decide_eq_false fun z => hl (by rw [← l1, ← l2, ← m1, ← m2, z])
      rw [e]
      exact ⟨SeqAt.RcAt.lists_lengths p1.isList p2.isList hsz (by omega), SeqAt.RcNeAt.lists_lengths p1.isList p2.isList hsz (by omega)⟩
  exact ⟨fun P w A s u v h1 h2 h3 h4 h5 => (main P w A s u v h1 h2 h3 h4 h5).1, fun P w A s u v h1 h2 h3 h4 h5 => (main P w A s u v h1 h2 h3 h4 h5).2⟩
end
section
variable {X : Cx} {α : Type} [DecidableEq α]
theorem hun {c : Nat} {k : Nat} {A : Around} (hr : Room k A) (h : c ≤ 60 := by decide) : A.units + c + 1 < cLine := by
  have := hr.units
  omega
/-- a list of such data -/
def LsOf (c : Cod α) (K : PySem.W.Frag) (H : Hp) (xs : List α) (v : V) : Prop := ∃ a us, v = .ref a ∧ SqL K H a us ∧ Paired (c.rp K H) xs us
theorem op_neL (c : Cod α) (hu : X.A.units + c.n + 1 < cLine) : OpR X (compareOp .NotEq) (fun x y H Q => ∃ xs ys, LsOf c X.K H xs x ∧ LsOf c X.K H ys y ∧ Q (.bl (!decide (xs = ys))) H) := by
  intro pins s σ H x y v u Q I rx ry h
  obtain ⟨xs, ys, ⟨a, us, rfl, ha, px⟩, ⟨b, vs, rfl, hb, py⟩, q⟩ := h
  exact (listRc ha hb px py).2 X.prog X.w X.A s v u (by omega) I.hok I.kIn rx ry X.prog X.w X.xe _ ⟨.bl _, H, I, rfl, q⟩
noncomputable def eqR (c : Cod α) (K : PySem.W.Frag) (H : Hp) (a : α) (u : Value) : Bool := @decide (∃ v, RelV v u ∧ c.rp K H a v) (Classical.propDecidable _)
def rInC (c : Cod α) (K : PySem.W.Frag) : R2 := fun x y H Q => ∃ a p us xs, c.rp K H a x ∧ y = .ref p ∧ (SqL K H p us ∨ SqT K H p us) ∧ Paired (c.rp K H) xs us ∧ Q (.bl (decide (a ∈ xs))) H
def rNinC (c : Cod α) (K : PySem.W.Frag) : R2 := fun x y H Q => ∃ a p us xs, c.rp K H a x ∧ y = .ref p ∧ (SqL K H p us ∨ SqT K H p us) ∧ Paired (c.rp K H) xs us ∧ Q (.bl (!decide (a ∈ xs))) H
end
end L2

/-! a list made by walking, with several names told at each turn -/
namespace L2
open PySem PySem.Spec PyProof.Rows
structure BlkS (N : List Str) (sc scope : Scope) (mm : Nat) (N' : List Str) (fv : List Nat) : Prop where
  nocell : ∀ y ∈ scope.names, y.2 ≠ .cell
  kind : scope.kind = .function
  names : ∀ y ∈ scope.names, y.2 = .local → scope.names.lookup y.1 = some .local
  free : ∀ y ∈ scope.names, y.2 = .free → sc.names.lookup y.1 = some .cell ∨ sc.names.lookup y.1 = some .free
  nd : N'.Nodup
  len : N'.length = fv.length + mm
  at_ : ∀ j, j < fv.length → (N'[j + mm]?).isSome = true ∧ N'[j + mm]? = (fv[j]?).bind (fun i => N[i]?) ∧ (N'[j + mm]?).bind (fun y => scope.names.lookup y) = some .free
def bv (mm : Nat) (fv : List Nat) (σ : St) : St := List.replicate mm none ++ blkVals fv σ
def Ext (σ σ' : St) : Prop := σ.length = σ'.length ∧ ∀ (j : Nat) v, σ[j]? = some (some v) → σ'[j]? = some (some v)
section
variable {prog : Program} {w : World} {A : Around} {R : Result → Shared → Prop} {s : Shared}
end
section
variable {X : Cx} {N' : List Str} {scope : Scope} {mm : Nat} {fv : List Nat}
end
/-- name = [.. for ..] -/
def tSetLCM (j mm : Nat) (g : TG) (wi : TI) (fv : List Nat) (tt : TT) (te : TE) : TS := fun D σ H => wi σ H fun J H1 => ∃ (W : Nat → List V → Hp → Prop) (n : Nat), W 0 [] H1 ∧ n ≤ sizeLine ∧ ∀ i ys H, W i ys H →
  (J.stop i H ∧ ∀ p, H p = none → D.nx (σ.set j (some (.ref p))) (upd H p (.lst ys))) ∨
  (J.go i H ∧ i < n ∧ ∀ x H', J.yld i H x H' → g x (bv mm fv σ) H' fun σ' H'' => Ext (bv mm fv σ) σ' ∧ tt σ' H'' fun c H2 => if c = true then te σ' H2 fun y H3 => W (i + 1) (ys ++ [y]) H3 else W (i + 1) ys H2)
def tLCM (mm : Nat) (g : TG) (wi : TI) (fv : List Nat) (tt : TT) (te : TE) : TE := fun σ H Q => wi σ H fun J H1 => ∃ (W : Nat → List V → Hp → Prop) (n : Nat), W 0 [] H1 ∧ n ≤ sizeLine ∧ ∀ i ys H, W i ys H →
  (J.stop i H ∧ ∀ p, H p = none → Q (.ref p) (upd H p (.lst ys))) ∨
  (J.go i H ∧ i < n ∧ ∀ x H', J.yld i H x H' → g x (bv mm fv σ) H' fun σ' H'' => Ext (bv mm fv σ) σ' ∧ tt σ' H'' fun c H2 => if c = true then te σ' H2 fun y H3 => W (i + 1) (ys ++ [y]) H3 else W (i + 1) ys H2)
/-- two names, told by a tuple -/
def gPair (K : PySem.W.Frag) : TG := fun v σ H Q => ∃ a x y, v = .ref a ∧ SqT K H a [x, y] ∧ Q ((σ.set 0 (some x)).set 1 (some y)) H
end L2

namespace L2
open PySem PySem.Spec PyProof.Rows
section
variable {X : Cx}
/-! ### sorted, of two texts -/
/-! ### a table of the module: texts to numbers or texts -/
def datL : KTD.Dat → Value → Bool
  | .flat d, v => KTD.flatLooks d v
  | _, _ => false
def TabK (K : PySem.W.Frag) (a : Addr) (D : List (Str × KTD.Dat)) : Prop := KTD.tabLook datL (fun b => K.lookup b) a D = true
end
/-! in a walking's block the part of the heap is named: the readings may not hang on the block's own context -/
section
variable {X : Cx} {α : Type} [DecidableEq α]
end
/-! ### functions and methods, bundled -/
structure GF (P : Program) (w : World) (K : PySem.W.Frag) (mg : Str → Option Value) (base : Heap) (CX : CXT) (k : Nat) (x : Str) (ps : List Str) (sp : Sp) where
  f : Addr
  fd : FuncData
  ok : FnOk P w K mg base CX k f fd ps sp
  bd : Binds K fd ps []
  kp : PySem.W.keepIn K (.ref f) = true
  mgx : mg x = some (.ref f)
structure GM (P : Program) (w : World) (K : PySem.W.Frag) (mg : Str → Option Value) (base : Heap) (CX : CXT) (k : Nat) (C : Addr) (m : Str) (ps : List Str) (sp : Sp) where
  f : Addr
  fd : FuncData
  ok : FnOk P w K mg base CX k f fd ps sp
  bd : Binds K fd ps []
  me : Meth K C m f
section
variable {X : Cx} {CX : CXT} {j k : Nat} {x m : Str} {ps : List Str} {sp : Sp} {E : XK} {p pos apos : Pos} {e o : Expr} {es : List Expr} {t : TA} {ta : TE} {C : Addr}
theorem pc (G : GF X.prog X.w X.K X.mg X.base CX j x ps sp) (hr : Room k X.A) (ha : PA X (e :: es) t) (hx : Passes CX X E := by exact pass0) (hk : j ≤ k := by decide) (hg : Gl X x := by rfl)
    (hdb : (x == ("__debug__" : Str)) = false := by decide) (he : starEach (e :: es) X.env = (false, eval e X.env) :: starEach es X.env := by rfl) (hpl : (backTo pos (starEach es X.env)).any (·.1) = false := by rfl) :
    PE X (.Call (.Name x p) (e :: es) [] pos) (tCall sp [] E t) := pe_call G.ok (hr.mono hk) hg G.mgx G.kp G.bd .nil hx ha hdb he hpl
theorem pm {pl : Sem Bool} (G : GM X.prog X.w X.K X.mg X.base CX j C m ps sp) (ho : PE X o ta) (cl : Cls X.K C) (hr : Room k X.A) (ha : PA X (e :: es) t) (hx : Passes CX X E := by exact pass0) (hk : j ≤ k := by decide)
    (hst : starEach (e :: es) X.env = (false, eval e X.env) :: starEach es X.env := by rfl) (hpl : (backTo pos (starEach es X.env)).any (·.1) = false := by rfl)
    (ht : eval (.Call (.Attribute o m apos) (e :: es) [] pos) X.env = (do
      let ov ← eval o X.env
      standAt apos.atName
      let (f, first) ← holding [ov] (getMethod ov m pl)
      callWith pos f first (backTo pos (starEach (e :: es) X.env)) (backToKw pos (keywordEach [] X.env))) := by rfl) :
    PE X (.Call (.Attribute o m apos) (e :: es) [] pos) (tMeth C m sp [] E ta t) := pe_meth ho cl G.me G.ok (hr.mono hk) G.bd .nil hx ha hst hpl ht
theorem pm0 {pl : Sem Bool} (G : GM X.prog X.w X.K X.mg X.base CX j C m ps sp) (ho : PE X o ta) (cl : Cls X.K C) (hr : Room k X.A) (hx : Passes CX X E := by exact pass0) (hk : j ≤ k := by decide)
    (ht : eval (.Call (.Attribute o m apos) [] [] pos) X.env = (do
      let ov ← eval o X.env
      standAt apos.atName
      let (f, first) ← holding [ov] (getMethod ov m pl)
      callWith pos f first (backTo pos (starEach [] X.env)) (backToKw pos (keywordEach [] X.env))) := by rfl) :
    PE X (.Call (.Attribute o m apos) [] [] pos) (tMeth C m sp [] E ta tNil) := pe_meth0 ho cl G.me G.ok (hr.mono hk) G.bd .nil hx ht
end
end L2

set_option maxHeartbeats 1000000
namespace L2
open PySem PySem.Spec PyProof.Rows
/-! ### walking lists, by an invariant -/
section
variable {K : PySem.W.Frag} {a : Addr} {xs : List V} {tt : TT} {te : TE} {bl : St} {Fin : List V → Hp → Prop} {H : Hp}
theorem lc_list (Pv : Nat → List V → Hp → Prop) (h0 : Pv 0 [] H) (hn : xs.length ≤ sizeLine) (hl : ∀ i ys H, i ≤ xs.length → Pv i ys H → SqL K H a xs)
    (hs : ∀ i x ys H, xs[i]? = some x → Pv i ys H → tt (some x :: bl) H fun c H2 => if c = true then te (some x :: bl) H2 fun y H3 => Pv (i + 1) (ys ++ [y]) H3 else Pv (i + 1) ys H2)
    (hd : ∀ ys H, Pv xs.length ys H → Fin ys H) :
    ∃ (W : Nat → List V → Hp → Prop) (n : Nat), W 0 [] H ∧ n ≤ sizeLine ∧ ∀ i ys H, W i ys H → ((Itl K a).stop i H ∧ Fin ys H) ∨
      ((Itl K a).go i H ∧ i < n ∧ ∀ x H', (Itl K a).yld i H x H' → tt (some x :: bl) H' fun c H2 => if c = true then te (some x :: bl) H2 fun y H3 => W (i + 1) (ys ++ [y]) H3 else W (i + 1) ys H2) := by
  refine ⟨fun i ys H => i ≤ xs.length ∧ Pv i ys H, xs.length, ⟨Nat.zero_le _, h0⟩, hn, ?_⟩
  rintro i ys H ⟨hi, p⟩
  have q := hl i ys H hi p
  by_cases hlt : i < xs.length
  · refine .inr ⟨⟨xs, xs[i], q, by simp [hlt]⟩, hlt, fun x H' y => ?_⟩
    obtain ⟨e, y⟩ := y
    subst e
    have z := hs i x ys _ (y xs q) p
    have e1 : (fun (c : Bool) (H2 : Hp) => if c = true then te (some x :: bl) H2 fun y H3 => i + 1 ≤ xs.length ∧ Pv (i + 1) (ys ++ [y]) H3 else i + 1 ≤ xs.length ∧ Pv (i + 1) ys H2) = fun c H2 => if c = true then te (some x :: bl) H2 fun y H3 => Pv (i + 1) (ys ++ [y]) H3 else Pv (i + 1) ys H2 := by
      have e2 : (i + 1 ≤ xs.length) = True := eq_true hlt
      funext c H2
      simp only [e2, true_and]
    show tt _ _ _
    rw [e1]
    exact z
  · have e : i = xs.length := by omega
    subst e
    exact .inl ⟨⟨xs, q, Nat.le_refl _⟩, hd ys H p⟩
theorem tAllT {σ : St} {A B : Hp → Prop} (h : A H) : tAll σ H (fun c H2 => if c = true then A H2 else B H2) := by
  show if true = true then A H else B H
  exact @iteT (A H) (B H) h
theorem lc_range {n : Nat} (Pv : Nat → List V → Hp → Prop) (h0 : Pv 0 [] H) (hn : n ≤ sizeLine)
    (hs : ∀ (i : Nat) ys H, i < n → Pv i ys H → tt (some (.int i) :: bl) H fun c H2 => if c = true then te (some (.int i) :: bl) H2 fun y H3 => Pv (i + 1) (ys ++ [y]) H3 else Pv (i + 1) ys H2)
    (hd : ∀ ys H, Pv n ys H → Fin ys H) :
    ∃ (W : Nat → List V → Hp → Prop) (m : Nat), W 0 [] H ∧ m ≤ sizeLine ∧ ∀ i ys H, W i ys H → ((Itr 0 n).stop i H ∧ Fin ys H) ∨
      ((Itr 0 n).go i H ∧ i < m ∧ ∀ x H', (Itr 0 n).yld i H x H' → tt (some x :: bl) H' fun c H2 => if c = true then te (some x :: bl) H2 fun y H3 => W (i + 1) (ys ++ [y]) H3 else W (i + 1) ys H2) := by
  refine ⟨fun i ys H => i ≤ n ∧ Pv i ys H, n, ⟨Nat.zero_le _, h0⟩, hn, ?_⟩
  rintro i ys H ⟨hi, p⟩
  by_cases hlt : i < n
  · refine .inr ⟨hlt, hlt, fun x H' y => ?_⟩
    obtain ⟨e, y⟩ := y
    subst e
    rw [Int.zero_add] at y
    subst y
    have z := hs i ys _ hlt p
    have e1 : (fun (c : Bool) (H2 : Hp) => if c = true then te (some (.int i) :: bl) H2 fun y H3 => i + 1 ≤ n ∧ Pv (i + 1) (ys ++ [y]) H3 else i + 1 ≤ n ∧ Pv (i + 1) ys H2) = fun c H2 => if c = true then te (some (.int i) :: bl) H2 fun y H3 => Pv (i + 1) (ys ++ [y]) H3 else Pv (i + 1) ys H2 := by
      have e2 : (i + 1 ≤ n) = True := eq_true hlt
      funext c H2
      simp only [e2, true_and]
    show tt _ _ _
    rw [e1]
    exact z
  · have e : i = n := by omega
    subst e
    exact .inl ⟨Nat.le_refl _, hd ys H p⟩
end
end L2
/-! ### locks, as data -/
namespace Lo
open PySem L2
inductive Kd where
  | read | mean | change
  deriving DecidableEq
def kdS : Kd → Str
  | .read => "read"
  | .mean => "mean"
  | .change => "change"
theorem s_rm : ¬ (("read" : Str) = "mean") := by decide +kernel
theorem s_rc : ¬ (("read" : Str) = "change") := by decide +kernel
theorem s_mc : ¬ (("mean" : Str) = "change") := by decide +kernel
theorem kdS_inj : ∀ x y, kdS x = kdS y → x = y
  | .read, .read, _ => rfl
  | .mean, .mean, _ => rfl
  | .change, .change, _ => rfl
  | .read, .mean, h => absurd h s_rm
  | .read, .change, h => absurd h s_rc
  | .mean, .change, h => absurd h s_mc
  | .mean, .read, h => absurd h.symm s_rm
  | .change, .read, h => absurd h.symm s_rc
  | .change, .mean, h => absurd h.symm s_mc
def rank : Kd → Int
  | .read => 0
  | .mean => 1
  | .change => 2
def kdOf (i : Int) : Kd := if i = 0 then .read else if i = 1 then .mean else .change
abbrev Lk := Kd × Int × Int
abbrev Pa := Int × Int
abbrev Pr := Pa × Lk
def share : Kd → Kd → Bool
  | .read, .read => true
  | .read, .mean => true
  | .mean, .read => true
  | _, _ => false
def besideB (a b : Lk) : Bool := (decide (a.2.2 < b.2.1) || decide (b.2.2 < a.2.1)) || share a.1 b.1
def coversB (a b : Lk) : Bool := (decide (a.2.1 ≤ b.2.1) && decide (b.2.2 ≤ a.2.2)) && decide (rank b.1 ≤ rank a.1)
def toldT (k : Lk) : Str × Int × Int := (kdS k.1, k.2)
theorem toldT_inj : ∀ x y, toldT x = toldT y → x = y := fun x y h => by
  obtain ⟨a, b⟩ := x
  obtain ⟨c, d⟩ := y
  have h1 := congrArg Prod.fst h
  have h2 := congrArg Prod.snd h
  exact Prod.ext (kdS_inj _ _ h1) h2
def cLk : Cod Lk := cVia toldT toldT_inj (cT3 cStr cInt cInt)
def cPa : Cod Pa := cT2 cInt cInt
def cPr : Cod Pr := cT2 cPa cLk
theorem cPa_mk {K : PySem.W.Frag} {H : Hp} {a : Addr} {k : Pa} (h : H a = some (.tup [.int k.1, .int k.2])) : cPa.rp K H k (.ref a) := ⟨a, _, _, rfl, .inl h, rfl, rfl⟩
/-! ### what stays -/
def Fix (CL : Addr) : HO → Prop
  | .tup _ => True
  | .ins C _ _ => C ≠ CL
  | _ => False
def FSame (CL : Addr) (H H' : Hp) : Prop := ∀ b o, H b = some o → Fix CL o → H' b = some o
theorem same_new {H : Hp} {p : Addr} {o : HO} (h : H p = none) : Same H (upd H p o) := fun b u e => by
  rw [upd_ne (ne_of_none e h)]
  exact e
/-- all but p stays -/
def Kp (p : Addr) (H H' : Hp) : Prop := ∀ b o, b ≠ p → H b = some o → H' b = some o
theorem Kp.trans {p : Addr} {H H1 H2 : Hp} (a : Kp p H H1) (b : Kp p H1 H2) : Kp p H H2 := fun c o n e => b c o n (a c o n e)
theorem kp_upd {p : Addr} {H : Hp} {o : HO} : Kp p H (upd H p o) := fun b u n e => by
  rw [upd_ne n]
  exact e
/-! ### a lock's object -/
def lf (f l : Int) : List (Str × V) := putF "last" (.int l) (putF "first" (.int f) [])
def LkO (C : Kd → Addr) (H : Hp) (k : Lk) (v : V) : Prop := ∃ a dx, v = .ref a ∧ H a = some (.ins (C k.1) dx (lf k.2.1 k.2.2))
def PrO (C : Kd → Addr) (K : PySem.W.Frag) (H : Hp) (x : Pr) (v : V) : Prop := ∃ a u l, v = .ref a ∧ SqU K H a [u, l] ∧ cPa.rp K H x.1 u ∧ LkO C H x.2 l
/-! ### a house's locks -/
def LS (C : Kd → Addr) (CL : Addr) (K : PySem.W.Frag) (H : Hp) (l p : Addr) (ps : List Pr) : Prop :=
  ∃ dx vs, H l = some (.ins CL dx [("pairs", .ref p)]) ∧ H p = some (.lst vs) ∧ Paired (PrO C K H) ps vs
theorem pp {F : α → β → Prop} {G : α → β → Prop} {xs : List α} {ys : List β} (h : Paired F xs ys) (f : ∀ a b, F a b → G a b) : Paired G xs ys := Paired.mapP h f
/-! ### what waits, what is held -/
def hb (ps : List Pr) (k j : Nat) : Bool := match ps[j]?, ps[k]? with
  | some a, some b => !decide (a.1 = b.1) && !besideB a.2 b.2
  | _, _ => false
def hind (ps : List Pr) (k : Nat) : Option Nat := (List.range k).find? (hb ps k)
def optV : Option Nat → V
  | none => .non
  | some j => .int j
def pick {α : Type} (xs : List α) (ix : List Nat) : List α := ix.filterMap (xs[·]?)
def heldIx (ps : List Pr) : List Nat := (List.range ps.length).filter fun k => (hind ps k).isNone
def waitIx (ps : List Pr) : List Nat := (List.range ps.length).filter fun k => (hind ps k).isSome
def heldL (ps : List Pr) : List Pr := pick ps (heldIx ps)
def waitL (ps : List Pr) : List Pr := pick ps (waitIx ps)
def wpl (ps : List Pr) (p : Pa) (k : Nat) : Bool := match ps[k]? with
  | some a => decide (a.1 = p) && (hind ps k).isSome
  | none => false
def wplace (ps : List Pr) (p : Pa) : Option Nat := (List.range ps.length).find? (wpl ps p)
def covered (ps : List Pr) (p : Pa) (k : Lk) : Bool := ps.any fun x => decide (x.1 = p) && coversB x.2 k
def askPs (ps : List Pr) (p : Pa) (k : Lk) : List Pr := if covered ps p k = true then ps else ps ++ [(p, k)]
def askR (ps : List Pr) (p : Pa) (k : Lk) : Bool := covered ps p k || (hind (ps ++ [(p, k)]) ps.length).isNone
def freePs (ps : List Pr) (p : Pa) : List Pr := ps.filter fun x => !decide (x.1 = p)
def freeR (ps : List Pr) (p : Pa) : List Pa := ((waitL ps).filter fun x => !decide (x.1 = p) && !decide (x.1 ∈ (waitL (freePs ps p)).map (·.1))).map (·.1)
def standsB (ps : List Pr) (p : Pa) (k : Lk) : Bool := (heldL ps).all fun x => decide (x.1 = p) || besideB x.2 k
def behindO (ps : List Pr) (p : Pa) : Option Pa := (wplace ps p).bind fun k => (hind ps k).bind fun j => (ps[j]?).map (·.1)
end Lo

set_option maxHeartbeats 1000000
/-! what the functions about locks do, and what of the top they ask -/
namespace Lo
open PySem L2
/-- a tuple of the module -/
def ModT (K : PySem.W.Frag) (a : Addr) (xs : List V) : Prop := ∃ (o : Obj) (its : Array Value) (n : Nat), K.lookup a = some o ∧ o.cls = .type "tuple" ∧ o.data = .seq its n ∧ its.size ≤ sizeLine ∧ Vals xs its.toList
/-- built-in names that the program leaves alone -/
structure TxB (mg : Str → Option Value) : Prop where
  isi : mg "isinstance" = none
  int : mg "int" = none
  bool : mg "bool" = none
  str : mg "str" = none
  len : mg "len" = none
  range : mg "range" = none
  tuple : mg "tuple" = none
  list : mg "list" = none
  any : mg "any" = none
  all : mg "all" = none
  max : mg "max" = none
  sorted : mg "sorted" = none
structure TxK (K : PySem.W.Frag) (C : Kd → Addr) : Prop where
  cl : ∀ k, Cls K (C k)
  nF : ∀ k, NoAttr K (C k) "first"
  nL : ∀ k, NoAttr K (C k) "last"
def ranksD : List (Str × PyProof.Rows.KTD.Dat) := [("read", .flat (.int 0)), ("mean", .flat (.int 1)), ("change", .flat (.int 2))]
structure TxS (K : PySem.W.Frag) (mg : Str → Option Value) : Prop where
  sh : ∃ aS a0 a1 a2, mg "SHARING" = some (.ref aS) ∧ ModT K aS [.ref a0, .ref a1, .ref a2] ∧ ModT K a0 [.str "read", .str "read"] ∧ ModT K a1 [.str "read", .str "mean"] ∧ ModT K a2 [.str "mean", .str "read"]
structure TxR (K : PySem.W.Frag) (mg : Str → Option Value) : Prop where
  rk : ∃ aR, mg "RANKS" = some (.ref aR) ∧ TabK K aR ranksD
structure TxL (K : PySem.W.Frag) (C : Kd → Addr) (CL : Addr) : Prop where
  cl : Cls K CL
  nP : NoAttr K CL "pairs"
  ne : ∀ k, C k ≠ CL
def kdN : Kd → Str
  | .read => "Read"
  | .mean => "Mean"
  | .change => "Change"
/-! ### promises -/
def spKind (k : Kd) : Sp := fun vs H Q _ => ∃ v, vs = [v] ∧ Q (.str (kdS k)) H
def spLInit (C : Kd → Addr) : Sp := fun vs H Q _ => ∃ a dx k f l, vs = [.ref a, .int f, .int l] ∧ H a = some (.ins (C k) dx []) ∧ Q .non (upd (upd H a (.ins (C k) dx (putF "first" (.int f) []))) a (.ins (C k) dx (lf f l)))
def spTold (C : Kd → Addr) : Sp := fun vs H Q _ => ∃ v k, vs = [v] ∧ LkO C H k v ∧ ∀ a, H a = none → Q (.ref a) (upd H a (.tup [.str (kdS k.1), .int k.2.1, .int k.2.2]))
def spBeside (C : Kd → Addr) : Sp := fun vs H Q _ => ∃ v u k j, vs = [v, u] ∧ LkO C H k v ∧ LkO C H j u ∧ ∀ H', Same H H' → Q (.bl (besideB k j)) H'
def spCovers (C : Kd → Addr) : Sp := fun vs H Q _ => ∃ v u k j, vs = [v, u] ∧ LkO C H k v ∧ LkO C H j u ∧ ∀ H', Same H H' → Q (.bl (coversB k j)) H'
def spLockOf (C : Kd → Addr) (K : PySem.W.Frag) : Sp := fun vs H Q _ => ∃ v k, vs = [v] ∧ cLk.rp K H k v ∧ ∀ u H', Same H H' → LkO C H' k u → Q u H'
section
variable (C : Kd → Addr) (CL : Addr) (K : PySem.W.Frag)
def spLsInit : Sp := fun vs H Q _ => ∃ l dx, vs = [.ref l] ∧ H l = some (.ins CL dx []) ∧ ∀ p H', H p = none → H' p = some (.lst []) → H' l = some (.ins CL dx [("pairs", .ref p)]) → Kp l H H' → Q .non H'
def spHind : Sp := fun vs H Q _ => ∃ l p ps k, vs = [.ref l, .int (k : Nat)] ∧ LS C CL K H l p ps ∧ k < ps.length ∧ ps.length ≤ 1000 ∧ ∀ H', Same H H' → Q (optV (hind ps k)) H'
def spPairs (f : List Pr → List Pr) : Sp := fun vs H Q _ => ∃ l p ps, vs = [.ref l] ∧ LS C CL K H l p ps ∧ ps.length ≤ 1000 ∧ ∀ q H' us, Same H H' → H q = none → H' q = some (.lst us) → Paired (PrO C K H') (f ps) us → Q (.ref q) H'
def spTolds (f : List Pr → List Pr) : Sp := fun vs H Q _ => ∃ l p ps, vs = [.ref l] ∧ LS C CL K H l p ps ∧ ps.length ≤ 1000 ∧ ∀ q H' us, Same H H' → H q = none → H' q = some (.lst us) → Paired (cPr.rp K H') (f ps) us → Q (.ref q) H'
def spWPlace : Sp := fun vs H Q _ => ∃ l p ps v x, vs = [.ref l, v] ∧ LS C CL K H l p ps ∧ ps.length ≤ 1000 ∧ cPa.rp K H x v ∧ ∀ H', Same H H' → Q (optV (wplace ps x)) H'
def spAsk : Sp := fun vs H Q _ => ∃ l p ps v x u k, vs = [.ref l, v, u] ∧ LS C CL K H l p ps ∧ ps.length < 1000 ∧ cPa.rp K H x v ∧ LkO C H k u ∧ wplace ps x = none ∧ ∀ H', LS C CL K H' l p (askPs ps x k) → Kp p H H' → Q (.bl (askR ps x k)) H'
def spFree : Sp := fun vs H Q _ => ∃ l p ps v x, vs = [.ref l, v] ∧ LS C CL K H l p ps ∧ ps.length ≤ 1000 ∧ cPa.rp K H x v ∧ ∀ q p' H' us, LS C CL K H' l p' (freePs ps x) → H p' = none → Kp l H H' → H q = none → H' q = some (.lst us) → Paired (cPa.rp K H') (freeR ps x) us → Q (.ref q) H'
def spStands : Sp := fun vs H Q _ => ∃ l p ps v x u k, vs = [.ref l, v, u] ∧ LS C CL K H l p ps ∧ ps.length ≤ 1000 ∧ cPa.rp K H x v ∧ LkO C H k u ∧ ∀ H', Same H H' → Q (.bl (standsB ps x k)) H'
def spBehind : Sp := fun vs H Q _ => ∃ l p ps v x, vs = [.ref l, v] ∧ LS C CL K H l p ps ∧ ps.length ≤ 1000 ∧ cPa.rp K H x v ∧
  ((behindO ps x = none ∧ ∀ H', Same H H' → Q .non H') ∨ ∃ y, behindO ps x = some y ∧ ∀ u H', Same H H' → cPa.rp K H' y u → Q u H')
end
theorem bnd {n : Nat} (h : n ≤ 1000) : -(2 ^ 62) ≤ (n : Int) ∧ (n : Int) < 2 ^ 62 := by
  constructor <;> omega
theorem small {n : Nat} (h : n ≤ 1000) : n ≤ sizeLine := Nat.le_of_lt (small1000 h)
/-! ### the laws' own -/
def cellAt (ns : List Int) (k : Nat) : Int := (ns[k]?).getD 0
def spCell (K : PySem.W.Frag) : Sp := fun vs H Q _ => ∃ a ns k, vs = [.ref a, .int (k : Nat)] ∧ SqL K H a ((ns : List Int).map V.int) ∧ Q (.int (cellAt ns k)) H
def namesL (c : Int) : List Pa := [(c % 5, c / 5 % 17), (c % 5, c / 5 % 17 + 1), ((c % 5 + 1) % 5, c / 5 % 17), ((c % 5 + 3) % 5, c / 5 % 17 + 2)]
def spNames (K : PySem.W.Frag) : Sp := fun vs H Q _ => ∃ c, vs = [.int c] ∧ ∀ q H' us, Same H H' → H q = none → H' q = some (.lst us) → Paired (cPa.rp K H') (namesL c) us → Q (.ref q) H'
def toldL (c b : Int) : Lk := (kdOf (c % 3), b + c / 3 % 9, b + c / 3 % 9 + c / 27 % 10)
def spLTold (K : PySem.W.Frag) : Sp := fun vs H Q _ => ∃ c b, vs = [.int c, .int b] ∧ ∀ v H', Same H H' → cLk.rp K H' (toldL c b) v → Q v H'
def spLBeside (K : PySem.W.Frag) : Sp := fun vs H Q _ => ∃ v u k j, vs = [v, u] ∧ cLk.rp K H k v ∧ cLk.rp K H j u ∧ ∀ H', Same H H' → Q (.bl (besideB k j)) H'
def spLCovers (K : PySem.W.Frag) : Sp := fun vs H Q _ => ∃ v u k j, vs = [v, u] ∧ cLk.rp K H k v ∧ cLk.rp K H j u ∧ ∀ H', Same H H' → Q (.bl (coversB k j)) H'
def rkN : Kd → Nat
  | .read => 0
  | .mean => 1
  | .change => 2
def srt (a b : Str) : List Str := if b.cps.toList < a.cps.toList then [b, a] else [a, b]
end Lo
namespace Lo
open PySem L2
end Lo
namespace Lo
open PySem L2
section
variable {K : PySem.W.Frag}
theorem kit_ii : PySem.W.kitOne K (.type "int") (.type "int") = some true := rfl
theorem kit_tt : PySem.W.kitOne K (.type "tuple") (.type "tuple") = some true := rfl
theorem kit_ll : PySem.W.kitOne K (.type "list") (.type "list") = some true := rfl
theorem kit_ib : PySem.W.kitOne K (.type "int") (.type "bool") = some false := by kernel_rfl
end
def spWhole : Sp := fun vs H Q _ => ∃ i, vs = [.int i] ∧ Q (.bl true) H
def spNum : Sp := fun vs H Q _ => ∃ c, vs = [.int c] ∧ ∀ i, Q (.int i) H
def spIs : Sp := fun vs H Q _ => ∃ a b, vs = [.bl a, .bl b] ∧ Q (.bl (decide (a = b))) H
structure TxI (K : PySem.W.Frag) (mg : Str → Option Value) (C : Kd → Addr) (CB : Addr) : Prop where
  mgB : mg "Lock" = some (.ref CB)
  ha : ∀ k, PySem.W.findIn K (.ref (C k)) "__class__" = some (some (.builtin "object.__class__"))
  hn : PySem.W.specialIn K (.builtin "object.__class__") "__get__" = some (some (.builtin "getset_descriptor.__get__"))
  htk : PySem.W.takesIn K (.builtin "object.__class__") = some true
  hm : ∀ k, PySem.W.mroIn K (C k) (.type "object") = some true
  isB : ∀ k, PySem.W.kitOne K (.ref (C k)) (.ref CB) = some true
structure TxJ (K : PySem.W.Frag) (C : Kd → Addr) : Prop where
  isK : ∀ k j, PySem.W.kitOne K (.ref (C k)) (.ref (C j)) = some (decide (k = j))
def spLaw (K : PySem.W.Frag) : Sp := fun vs H Q _ => ∃ a ns, vs = [.ref a] ∧ SqL K H a ((ns : List Int).map V.int) ∧ ns.length ≤ 63 ∧ ∀ H', Q (.bl true) H'
end Lo
namespace Lo
open PySem L2
theorem pss_weak {X : Cx} {st : List Stmt} {t : TS} (u : TS) (h : PSs X st t) (hw : ∀ D σ H, u D σ H → t D σ H) : PSs X st u := fun pins s σ H D I q => h pins s σ H D I (hw D σ H q)
end Lo

set_option maxHeartbeats 1000000
namespace Lo
open PySem L2
section
variable {K : PySem.W.Frag} {a : Addr} {tt : TT} {te : TE} {bl : St} {Fin : List V → Hp → Prop} {H : Hp}
end
/-! ### one pact alone -/
end Lo
namespace Lo
open PySem L2
end Lo
namespace Lo
open PySem L2
theorem cut_ints (ns : List Int) (lo hi : Option Int) : ∃ cs : List Int, cutV (ns.map V.int) lo hi = cs.map V.int ∧ cs.length ≤ ns.length := by
  refine ⟨(ns.drop (HT.sIx (ns.map V.int).length 0 lo)).take (HT.sIx (ns.map V.int).length (ns.map V.int).length hi - HT.sIx (ns.map V.int).length 0 lo), ?_, ?_⟩
  · unfold cutV
    rw [List.map_take, List.map_drop]
  · rw [List.length_take, List.length_drop]
    omega
theorem int_at {cs : List Int} {i : Nat} {x : V} (h : (cs.map V.int)[i]? = some x) : ∃ c, x = .int c := by
  rw [List.getElem?_map] at h
  cases e : cs[i]? with
  | none => rw [e] at h; cases h
  | some c => rw [e] at h; exact ⟨c, (Option.some.inj h).symm⟩
end Lo

set_option maxHeartbeats 1000000
/-! the list of pairs, by what stands ahead -/
namespace Lo
open PySem L2
def clear (pre : List Pr) (x : Pr) : Bool := pre.all fun a => decide (a.1 = x.1) || besideB a.2 x.2
def heldR : List Pr → List Pr → List Pr
  | _, [] => []
  | pre, x :: r => if clear pre x = true then x :: heldR (pre ++ [x]) r else heldR (pre ++ [x]) r
def waitR : List Pr → List Pr → List Pr
  | _, [] => []
  | pre, x :: r => if clear pre x = true then waitR (pre ++ [x]) r else x :: waitR (pre ++ [x]) r
def Ok2 (a b : Pr) : Prop := a.1 = b.1 ∨ besideB a.2 b.2 = true
/-! ### tuples that are told -/
section
variable {X : Cx}
end
end Lo

set_option maxHeartbeats 1000000
/-! a house's locks beside lists of the law's own -/
namespace Lo
open PySem L2
section
variable {C : Kd → Addr} {CL : Addr} {K : PySem.W.Frag} {H H' : Hp} {l pl pl' d : Addr} {ps ps' : List Pr} {own : List (Addr × List V)} {xs ys : List V}
def HS (C : Kd → Addr) (CL : Addr) (K : PySem.W.Frag) (l pl : Addr) (ps : List Pr) (own : List (Addr × List V)) (H : Hp) : Prop :=
  LS C CL K H l pl ps ∧ (∀ q ∈ own, H q.1 = some (.lst q.2)) ∧ (∀ q ∈ own, q.1 ≠ pl) ∧ (own.map (·.1)).Nodup
end
/-- names and base are told; n names more to come -/
def uN (n : Nat) (K : PySem.W.Frag) : TS := fun D σ H => ∃ a ns nl nus names b, σ = [some (.ref a), some (.ref nl), some (.int b)] ++ List.replicate n none ∧ SqL K H a ((ns : List Int).map V.int) ∧ ns.length ≤ 63 ∧ H nl = some (.lst nus) ∧ Paired (cPa.rp K H) names nus ∧ names.length = 4 ∧ ∀ H', D.rt (.bl true) H'
end Lo

set_option maxHeartbeats 1000000
/-! who is behind whom, by a cut of the list -/
namespace Lo
open PySem L2
/-- x waits, and the first that hinders it is y's -/
def Beh (ps : List Pr) (x y : Pa) : Prop := ∃ (pre1 pre2 post : List Pr) (h z : Pr), ps = (pre1 ++ h :: pre2) ++ z :: post ∧ z.1 = x ∧ h.1 = y ∧ y ≠ x ∧ besideB h.2 z.2 = false ∧ clear pre1 z = true ∧ x ∉ (waitL (pre1 ++ h :: pre2)).map (·.1)
/-! ### None or a pact -/
def orp (K : PySem.W.Frag) (H : Hp) : Option Pa → V → Prop
  | none, v => v = .non
  | some y, v => cPa.rp K H y v
section
variable {X : Cx}
end
end Lo

set_option maxHeartbeats 1000000
/-! cuts, numbers -/
namespace Lo
open PySem L2
/-- k-th to wait is x's -/
def wat (ps : List Pr) (x : Pa) (k : Nat) : Bool := ((waitL ps)[k]?).any fun z => decide (z.1 = x)
/-- whom a pact is behind stays, unless one of the two was freed -/
def Lasts (fo : Option Pa) (ps ps' : List Pr) : Prop := ∀ x y, behindO ps x = some y → fo ≠ some y → fo ≠ some x → behindO ps' x = some y
/-- what is known of whom the pacts were behind -/
def Kn (K : PySem.W.Frag) (H : Hp) (names : List Pa) (kus : List V) (i : Nat) (ps ps' : List Pr) : Prop :=
  kus.length = names.length ∧ ∀ j x u, names[j]? = some x → kus[j]? = some u → orp K H (if j < i then behindO ps' x else behindO ps x) u
def spBehindO (C : Kd → Addr) (CL : Addr) (K : PySem.W.Frag) : Sp := fun vs H Q _ => ∃ l p ps v x, vs = [.ref l, v] ∧ LS C CL K H l p ps ∧ ps.length ≤ 1000 ∧ cPa.rp K H x v ∧ ∀ u H', Same H H' → orp K H' (behindO ps x) u → Q u H'
def _root_.L2.GM.imp {P : Program} {w : World} {K : PySem.W.Frag} {mg : Str → Option Value} {base : Heap} {CX : CXT} {k : Nat} {C : Addr} {m : Str} {ps : List Str} {sp sp' : Sp} (G : GM P w K mg base CX k C m ps sp) (h : ∀ vs H Q E, sp' vs H Q E → sp vs H Q E) : GM P w K mg base CX k C m ps sp' := ⟨G.f, G.fd, G.ok.imp h, G.bd, G.me⟩
end Lo

set_option maxHeartbeats 1000000
/-! what a freeing lets in -/
namespace Lo
open PySem L2
/-! ### two lists of the law's own that change -/
section
variable {C : Kd → Addr} {CL : Addr} {K : PySem.W.Frag} {H H' : Hp} {l pl : Addr} {ps : List Pr} {own : List (Addr × List V)}
def Kq (a b : Addr) (H H' : Hp) : Prop := ∀ c o, c ≠ a → c ≠ b → H c = some o → H' c = some o
end
/-- the pairs that wait behind a freeing -/
def goneB (ps : List Pr) (p : Pa) (x : Pr) : Bool := decide (x.1 ∈ (waitL (freePs ps p)).map (·.1))
def notP (p : Pa) (x : Pr) : Bool := !decide (x.1 = p)
end Lo

set_option maxHeartbeats 1000000
namespace L2
open PySem PySem.Spec PyProof.Rows
/-! ### lists of pairs as tables -/
section
variable {κ : Type} [DecidableEq κ]
def valV (kvs : List (κ × V)) (k : κ) : Option V := (kvs.find? fun kv => decide (kv.1 = k)).map (·.2)
/-- in its place, or at the end -/
def putK (kvs : List (κ × V)) (k : κ) (v : V) : List (κ × V) :=
  if (kvs.any fun kv => decide (kv.1 = k)) = true then kvs.map (fun kv => if kv.1 = k then (kv.1, v) else kv) else kvs ++ [(k, v)]
def dropK (kvs : List (κ × V)) (k : κ) : List (κ × V) := kvs.filter fun kv => decide (kv.1 ≠ k)

theorem valV_pos {p : κ × V} {r : List (κ × V)} {k : κ} (e : p.1 = k) : valV (p :: r) k = some p.2 := by simp [valV, List.find?_cons, e]
theorem valV_neg {p : κ × V} {r : List (κ × V)} {k : κ} (e : ¬ p.1 = k) : valV (p :: r) k = valV r k := by simp [valV, List.find?_cons, e]
theorem valV_any (k : κ) : ∀ kvs : List (κ × V), (kvs.any fun kv => decide (kv.1 = k)) = (valV kvs k).isSome
  | [] => rfl
  | p :: r => by
    rw [List.any_cons]
    by_cases e : p.1 = k
    · simp only [valV_pos e, decide_eq_true e, Bool.true_or, Option.isSome_some]
    · rw [valV_neg e, decide_eq_false e, Bool.false_or]; exact valV_any k r
theorem length_putK (kvs : List (κ × V)) (k : κ) (v : V) : (putK kvs k v).length ≤ kvs.length + 1 := by
  unfold putK
  split
  · rw [List.length_map]; omega
  · rw [List.length_append, List.length_cons, List.length_nil]; omega
theorem putK_new {kvs : List (κ × V)} {k : κ} (v : V) (h : valV kvs k = none) : putK kvs k v = kvs ++ [(k, v)] := by
  unfold putK
  rw [valV_any, h]
  exact if_neg (by decide)

theorem RelO.isSome_eq {o : Option V} {u : Option Value} (r : RelO o u) : o.isSome = u.isSome := by
  cases o with
  | none => cases u with
    | none => rfl
    | some _ => exact (show False from r).elim
  | some _ => cases u with
    | none => exact (show False from r).elim
    | some _ => rfl
/-- raw tables of the same keys -/
theorem KV.val {kvs : List (κ × V)} {vs : List (κ × Value)} (r : KV kvs vs) (k : κ) : RelO (valV kvs k) (valueAt vs k) := by
  unfold KV at r
  induction r with
  | nil => exact True.intro
  | @cons p q ps qs h t ih =>
    obtain ⟨h1, h2⟩ := h
    by_cases e : p.1 = k
    · have e' : q.1 = k := h1.symm.trans e
      have b : valueAt (q :: qs) k = some q.2 := by simp [valueAt, List.find?_cons, e']
      rw [valV_pos e, b]; exact h2
    · have e' : ¬ q.1 = k := fun z => e (h1.trans z)
      have b : valueAt (q :: qs) k = valueAt qs k := by simp [valueAt, List.find?_cons, e']
      rw [valV_neg e, b]; exact ih
theorem KV.any {kvs : List (κ × V)} {vs : List (κ × Value)} (r : KV kvs vs) (k : κ) : (kvs.any fun kv => decide (kv.1 = k)) = vs.any fun kv => decide (kv.1 = k) := by
  unfold KV at r
  induction r with
  | nil => rfl
  | cons h t ih => rw [List.any_cons, List.any_cons, ih, h.1]
theorem KV.repl {kvs : List (κ × V)} {vs : List (κ × Value)} (r : KV kvs vs) (k : κ) {y : V} {u : Value} (ry : RelV y u) :
    KV (kvs.map fun kv => if kv.1 = k then (kv.1, y) else kv) (vs.map fun kv => if kv.1 = k then (kv.1, u) else kv) := by
  unfold KV at r ⊢
  induction r with
  | nil => exact .nil
  | @cons p q ps qs h t ih =>
    rw [List.map_cons, List.map_cons]
    refine .cons ?_ ih
    obtain ⟨h1, h2⟩ := h
    by_cases e : p.1 = k
    · rw [if_pos e, if_pos (h1.symm.trans e)]; exact ⟨h1, ry⟩
    · rw [if_neg e, if_neg (fun z => e (h1.trans z))]; exact ⟨h1, h2⟩
theorem KV.put {kvs : List (κ × V)} {vs : List (κ × Value)} (r : KV kvs vs) (k : κ) {y : V} {u : Value} (ry : RelV y u) : KV (putK kvs k y) (stored vs k u) := by
  unfold putK stored
  rw [r.any k]
  by_cases e : (vs.any fun kv => decide (kv.1 = k)) = true
  · rw [if_pos e, if_pos e]; exact r.repl k ry
  · rw [if_neg e, if_neg e]; exact Paired.snoc r ⟨rfl, ry⟩
theorem KV.length {kvs : List (κ × V)} {vs : List (κ × Value)} (r : KV kvs vs) : kvs.length = vs.length := Paired.length r
end


/-! ### a tracked dict, its keys ints and texts or tuples of these -/
theorem kV_is {P : Program} {w : World} {k : Key} {u : Value} (r : RelV (kV k) u) : (mixKind P w).is k u = true := by
  cases k with
  | inl i => obtain ⟨t, e⟩ := (show ∃ t, u = Value.int i t from r); subst e; exact mixKind_int P w i t
  | inr x => obtain ⟨t, e⟩ := (show ∃ t, u = Value.str x t from r); subst e; exact mixKind_str P w x t
theorem items_are {P : Program} {w : World} : ∀ {ks : List Key} {us : List Value}, Vals (ks.map kV) us → ItemsAre (mixKind P w) ks us
  | [], _, r => by rw [List.map_nil] at r; cases r; exact .nil
  | k :: ks, _, r => by
    rw [List.map_cons] at r
    cases r with
    | cons h t => exact .cons (kV_is h) (items_are t)

/-- raw entries of a dict with tuple keys -/
abbrev KT (H : Hp) : List (List Key × V) → List (List Key × Addr × Value) → Prop := Paired fun p q => p.1 = q.1 ∧ H q.2.1 = some (.tup (p.1.map kV)) ∧ RelV p.2 q.2.2
theorem KT.val {H : Hp} {kvs : List (List Key × V)} {xs : List (List Key × Addr × Value)} (r : KT H kvs xs) (k : List Key) : RelO (valV kvs k) ((atKey xs k).map (·.2)) := by
  induction r with
  | nil => exact True.intro
  | @cons p q ps qs h t ih =>
    obtain ⟨h1, _, h2⟩ := h
    by_cases e : p.1 = k
    · have e' : q.1 = k := h1.symm.trans e
      have b : atKey (q :: qs) k = some q.2 := by simp [atKey, List.find?_cons, e']
      rw [valV_pos e, b]; exact h2
    · have e' : ¬ q.1 = k := fun z => e (h1.trans z)
      have b : atKey (q :: qs) k = atKey qs k := by simp [atKey, List.find?_cons, e']
      rw [valV_neg e, b]; exact ih
theorem KT.repl {H : Hp} {kvs : List (List Key × V)} {xs : List (List Key × Addr × Value)} (r : KT H kvs xs) (k : List Key) {y : V} {u : Value} (ry : RelV y u) :
    KT H (kvs.map fun kv => if kv.1 = k then (kv.1, y) else kv) (xs.map (putAt k u)) := by
  induction r with
  | nil => exact .nil
  | @cons p q ps qs h t ih =>
    rw [List.map_cons, List.map_cons]
    refine .cons ?_ ih
    obtain ⟨h1, h2, h3⟩ := h
    unfold putAt
    by_cases e : p.1 = k
    · rw [if_pos e, if_pos (h1.symm.trans e)]; exact ⟨h1, h2, ry⟩
    · rw [if_neg e, if_neg (fun z => e (h1.trans z))]; exact ⟨h1, h2, h3⟩
theorem KT.put {H : Hp} {kvs : List (List Key × V)} {xs : List (List Key × Addr × Value)} (r : KT H kvs xs) (k : List Key) {b : Addr} {y : V} {u : Value} (hb : H b = some (.tup (k.map kV))) (ry : RelV y u) :
    KT H (putK kvs k y) (storedH xs k b u) := by
  have e : (kvs.any fun kv => decide (kv.1 = k)) = (atKey xs k).isSome := by
    rw [valV_any, (r.val k).isSome_eq, Option.isSome_map]
  unfold putK storedH
  rw [e]
  by_cases q : (atKey xs k).isSome = true
  · rw [if_pos q, if_pos q]; exact r.repl k ry
  · rw [if_neg q, if_neg q]; exact Paired.snoc r ⟨rfl, hb, ry⟩
theorem KT.keeps {H H' : Hp} {kvs : List (List Key × V)} {xs : List (List Key × Addr × Value)} (r : KT H kvs xs) (ht : ∀ b ys, H b = some (.tup ys) → H' b = some (.tup ys)) : KT H' kvs xs :=
  Paired.mapP r fun _ _ z => ⟨z.1, ht _ _ z.2.1, z.2.2⟩

section
variable {P : Program} {w : World} {H : Hp} {h : Heap} {a : Addr}
theorem rd_of {u : HO} (ok : HOk P w H h) (e : Rd H a u) : ObjOk P w H h a u := e.ok ok
theorem dk_rd {kvs : List (Key × V)} (ok : HOk P w H h) (e : Rd H a (.dK kvs)) : kvs.length ≤ sizeLine ∧ (a == sysModules) = false ∧ ∃ vs, KV kvs vs ∧ h.DictOf (mixKind P w) a vs :=
  show ObjOk P w H h a (.dK kvs) from rd_of ok e
theorem dk_of {kvs : List (Key × V)} (ok : HOk P w H h) (e : H a = some (.dK kvs)) : kvs.length ≤ sizeLine ∧ (a == sysModules) = false ∧ ∃ vs, KV kvs vs ∧ h.DictOf (mixKind P w) a vs := dk_rd ok (.inl e)
/-- a tracked tuple of ints and texts is a key -/
theorem key_of {ks : List Key} (ok : HOk P w H h) (e : H a = some (.tup (ks.map kV))) : (tupleKind (mixKind P w)).is h ks a := by
  obtain ⟨_, its, r, o, h1, h2, n, h3⟩ := (show ObjOk P w H h a (.tup (ks.map kV)) from ok a _ e)
  exact ⟨o, its.toArray, n, h1, h2, h3, by simpa using items_are r⟩
theorem dt_rd {kvs : List (List Key × V)} (ok : HOk P w H h) (e : Rd H a (.dT kvs)) : kvs.length ≤ sizeLine ∧ (a == sysModules) = false ∧
    ∃ xs, KT H kvs xs ∧ h.DictOfH (tupleKind (mixKind P w)) a xs := by
  obtain ⟨z, y, xs, r, o, es, ep, h1, h2, h3, h4, h5⟩ := (show ObjOk P w H h a (.dT kvs) from rd_of ok e)
  refine ⟨z, y, xs, r, o, es, ep, h1, h2, h3, h4, fun x hx => ?_, h5⟩
  have all : ∀ {l : List (List Key × V)} {m : List (List Key × Addr × Value)}, KT H l m → ∀ x ∈ m, (tupleKind (mixKind P w)).is h x.1 x.2.1 := by
    intro l m q
    induction q with
    | nil => intro x hx; exact nomatch hx
    | @cons p q ps qs hq t ih =>
      intro x hx
      rcases List.mem_cons.mp hx with e | hx
      · subst e
        exact key_of ok (by rw [← hq.1]; exact hq.2.1)
      · exact ih x hx
  exact all r x hx
theorem dt_of {kvs : List (List Key × V)} (ok : HOk P w H h) (e : H a = some (.dT kvs)) : kvs.length ≤ sizeLine ∧ (a == sysModules) = false ∧
    ∃ xs, KT H kvs xs ∧ h.DictOfH (tupleKind (mixKind P w)) a xs := dt_rd ok (.inl e)
end

/-- what the dict at a holds at the key y -/
def DGet (H : Hp) (a : Addr) (y : V) (r : Option V) : Prop :=
  (∃ kvs k, Rd H a (.dK kvs) ∧ y = kV k ∧ r = valV kvs k) ∨ ∃ kvs k b, Rd H a (.dT kvs) ∧ y = .ref b ∧ H b = some (.tup (k.map kV)) ∧ r = valV kvs k
/-- the heap behind a[y] = v -/
def DPut (H : Hp) (a : Addr) (y v : V) (H' : Hp) : Prop :=
  (∃ kvs k, H a = some (.dK kvs) ∧ y = kV k ∧ kvs.length < sizeLine ∧ H' = upd H a (.dK (putK kvs k v))) ∨
  ∃ kvs k b, H a = some (.dT kvs) ∧ y = .ref b ∧ H b = some (.tup (k.map kV)) ∧ kvs.length < sizeLine ∧ H' = upd H a (.dT (putK kvs k v))
theorem DGet.t {H : Hp} {a b : Addr} {kvs : List (List Key × V)} {k : List Key} (e : H a = some (.dT kvs)) (eb : H b = some (.tup (k.map kV))) : DGet H a (.ref b) (valV kvs k) := .inr ⟨kvs, k, b, .inl e, rfl, eb, rfl⟩
theorem DPut.t {H : Hp} {a b : Addr} {kvs : List (List Key × V)} {k : List Key} {v : V} (e : H a = some (.dT kvs)) (eb : H b = some (.tup (k.map kV))) (hl : kvs.length < sizeLine) :
    DPut H a (.ref b) v (upd H a (.dT (putK kvs k v))) := .inr ⟨kvs, k, b, e, rfl, eb, hl, rfl⟩


section
variable {X : Cx} {pins : List (Addr × Obj)} {σ : St} {H : Hp} {s : Shared} {a : Addr} {y v : V} {u r : Value} {o : Option V} {A : Around} {E : Value → Shared → Prop}

theorem Inv.big (I : Inv X pins σ H s) : sysModules < s.heap.objs.size := by
  have h : mainGlobals < s.heap.objs.size := (I.mod.glob.keeps I.bk).lt
  exact Nat.lt_trans (by decide) h

/-- d[y], there -/
theorem d_getItem {Q : Value → Shared → Prop} (hu : A.units + 1 < cLine) (I : Inv X pins σ H s) (g : DGet H a y (some v)) (ry : RelV y u) (h : ∀ w' s', Inv X pins σ H s' → RelV v w' → Q w' s') :
    wpAny (model X.prog X.w) A (getItem (.ref a) u) Q E s := by
  rcases g with ⟨kvs, k, e, ey, l⟩ | ⟨kvs, k, b, e, ey, eb, l⟩
  · subst ey
    obtain ⟨z, hd, vs, rel, dd⟩ := dk_rd I.hok e
    obtain ⟨w', hw, rw'⟩ := RelO.some_of (v := v) (o := valueAt vs k) (by rw [l]; exact rel.val k)
    exact wpAny_getItem_of (kV_is ry) dd.mapOf hw (h w' _ (I.tok _) rw')
  · subst ey
    cases (show u = Value.ref b from ry)
    obtain ⟨z, hd, xs, rel, dd⟩ := dt_rd I.hok e
    obtain ⟨w', hw, rw'⟩ := RelO.some_of (v := v) (o := (atKey xs k).map (·.2)) (by rw [l]; exact rel.val k)
    obtain ⟨p, hp, hp2⟩ := Option.map_eq_some_iff.mp hw
    refine wpAny_getItem_heap (tupleKind_room_in1 hu) (key_of I.hok eb) dd hp ?_
    rw [hp2]
    exact h w' _ (I.tok _) rw'
/-- y in d -/
theorem d_in {Q : Value → Shared → Prop} (hu : A.units + 1 < cLine) (I : Inv X pins σ H s) (g : DGet H a y o) (ry : RelV y u) (h : ∀ s', Inv X pins σ H s' → Q (.bool o.isSome) s') :
    wpAny (model X.prog X.w) A (compareOp .In u (.ref a)) Q E s := by
  rcases g with ⟨kvs, k, e, ey, l⟩ | ⟨kvs, k, b, e, ey, eb, l⟩
  · subst ey
    obtain ⟨z, hd, vs, rel, dd⟩ := dk_rd I.hok e
    refine wpAny_in_of (kV_is ry) hd dd.mapOf ?_
    rw [← (rel.val k).isSome_eq, ← l]
    exact h _ (I.tok _)
  · subst ey
    cases (show u = Value.ref b from ry)
    obtain ⟨z, hd, xs, rel, dd⟩ := dt_rd I.hok e
    refine wpAny_in_heap (tupleKind_room_in1 hu) (key_of I.hok eb) hd dd ?_
    have q := (rel.val k).isSome_eq
    rw [Option.isSome_map] at q
    rw [← q, ← l]
    exact h _ (I.tok _)
/-- a dict's object is replaced -/
theorem d_write {h' : Heap} {t' : Nat} {ob : HO} (I : Inv X pins σ H s) (mu : Mut (H a)) (hs : Heap.SameBut a s.heap h') (he : ∃ q, h'.get? a = some q) (new : ObjOk X.prog X.w (upd H a ob) h' a ob) :
    Inv X pins σ (upd H a ob) { s with heap := h', toks := t' } :=
  I.write (x := a) (e := a) mu (.inl rfl) (fun b q hb z => (hs.2 b hb).trans z) he new
theorem dk_new {P : Program} {w : World} {H' : Hp} {h' : Heap} {kvs : List (Key × V)} {vs : List (Key × Value)} (z : kvs.length ≤ sizeLine) (hd : (a == sysModules) = false) (rel : KV kvs vs) (dd : h'.DictOf (mixKind P w) a vs) :
    ObjOk P w H' h' a (.dK kvs) := ⟨z, hd, vs, rel, dd⟩
/-- d[y] = v -/
theorem d_setItem {H' : Hp} {Q : Unit → Shared → Prop} (hu : A.units + 1 < cLine) (I : Inv X pins σ H s) (g : DPut H a y v H') (ry : RelV y u) (rv : RelV v r) (h : ∀ s', Inv X pins σ H' s' → Q () s') :
    wpAny (model X.prog X.w) A (setItem (.ref a) u r) Q E s := by
  rcases g with ⟨kvs, k, e, ey, l, eH⟩ | ⟨kvs, k, b, e, ey, eb, l, eH⟩
  · subst ey eH
    obtain ⟨z, hd, vs, rel, dd⟩ := dk_of I.hok e
    have hz : vs.length ≤ sizeLine := by rw [← rel.length]; exact z
    have hl : (putK kvs k v).length ≤ sizeLine := by have := length_putK kvs k v; omega
    refine wpAny_setItem_pairs (hsz := hz) (kV_is ry) dd fun h' dd' hs => h _ ?_
    have he : ∃ q, h'.get? a = some q := let ⟨q, _, _, hq, _⟩ := dd'; ⟨q, hq⟩
    exact d_write I (by rw [e]; exact True.intro) hs he (dk_new hl hd (rel.put k rv) dd')
  · subst ey eH
    cases (show u = Value.ref b from ry)
    obtain ⟨z, hd, xs, rel, dd⟩ := dt_of I.hok e
    have hz : xs.length ≤ sizeLine := by rw [← Paired.length rel]; exact z
    have hl : (putK kvs k v).length ≤ sizeLine := by have := length_putK kvs k v; omega
    refine wpAny_setItem_heap (hsz := hz) (tupleKind_room_in1 hu) (key_of I.hok eb) dd fun h' dd' hs => h _ ?_
    obtain ⟨q, es, ep, hq, h2, h3, h4, _, h5⟩ := dd'
    refine d_write I (by rw [e]; exact True.intro) hs ⟨q, hq⟩ ⟨hl, hd, _, (rel.put k eb rv).keeps fun c ys ec => ?_, q, es, ep, hq, h2, h3, h4, h5⟩
    rw [upd_ne (ne_of ec e (fun z => nomatch z))]
    exact ec
end

section
variable {X : Cx} {pins : List (Addr × Obj)} {σ : St} {H : Hp} {s : Shared} {a : Addr} {kvs : List (Key × V)} {k : Key} {u : Value} {A : Around} {E : Value → Shared → Prop}
end


/-! ### readings and rules -/
/-- the element of a subscription, not a slice -/
def NoSl (i : Expr) : Prop := ∀ ov iv, subscripted i false ov iv = operate [ov, iv] (getItem ov iv)
theorem subD_of {prog : Program} {w : World} {A : Around} {E : Value → Shared → Prop} {s : Shared} {env : Env} {value slice : Expr} {pos : Pos} {T id : String} {Q : Value → Shared → Prop}
    (hl : typeLookup (.type T) "__getitem__" = pure (some (.builtin id))) (hs : NoSl slice)
    (h : wpAny (model prog w) A (eval value env) (fun o s₁ => wpAny (model prog w) A (eval slice env) (fun i s₂ => s₂.TypeIs o T ∧ wpAny (model prog w) A (getItem o i) Q E s₂) E s₁) E s) :
    wpAny (model prog w) A (eval (.Subscript value slice pos) env) Q E s := by
  refine Subscript_ (wpAny_mono h (fun o s₁ h₁ => wpAny_mono h₁ (fun i s₂ h₂ => ?_) fun _ _ x => x) fun _ _ x => x)
  obtain ⟨hT, h₂⟩ := h₂
  unfold subscriptTail
  refine wpAny_bind ?_
  rw [getitemInPython_of_ne hT.not_modules]
  refine wpAny_bind (wpAny_specialOf hT hl ?_)
  have fin : wpAny (model prog w) A (subscripted slice false o i) (fun r s₃ => wpAny (model prog w) A (letTemporaryGo value o r >>= fun _ => pure r) Q E s₃) E s₂ := by
    rw [hs o i]
    exact wpAny_operating (wpAny_mono h₂ (fun r s₃ h₃ => wpAny_bind (wpAny_letTemporaryGo (wpAny_pure h₃))) fun _ _ x => x)
  first
    | exact wpAny_pure (wpAny_bind fin)
    | exact wpAny_bind (wpAny_pure (wpAny_bind fin))
    | exact wpAny_bind fin

theorem dict_typeIs {X : Cx} {pins : List (Addr × Obj)} {σ : St} {H : Hp} {s : Shared} {a : Addr} {y : V} {o : Option V} (I : Inv X pins σ H s) (g : DGet H a y o) : s.TypeIs (.ref a) "dict" := by
  rcases g with ⟨kvs, k, e, _, _⟩ | ⟨kvs, k, b, e, _, _, _⟩
  · obtain ⟨_, _, vs, _, dd⟩ := dk_rd I.hok e
    exact dd.typeIs
  · obtain ⟨_, _, xs, _, dd⟩ := dt_rd I.hok e
    exact dd.typeIs
/-- d[y] -/
def tDGet (td ty : TE) : TE := fun σ H Q => td σ H fun x H1 => ty σ H1 fun y H2 => ∃ a v, x = .ref a ∧ DGet H2 a y (some v) ∧ Q v H2
/-- y in d, y not in d -/
def tDIn (ty td : TE) : TE := fun σ H Q => ty σ H fun y H1 => td σ H1 fun x H2 => ∃ a o, x = .ref a ∧ DGet H2 a y o ∧ Q (.bl o.isSome) H2
def tDNotIn (ty td : TE) : TE := fun σ H Q => ty σ H fun y H1 => td σ H1 fun x H2 => ∃ a o, x = .ref a ∧ DGet H2 a y o ∧ Q (.bl (!o.isSome)) H2
/-- d[y] = v -/
def sDPut (td ty tv : TE) : TS := fun D σ H => tv σ H fun v H1 => td σ H1 fun x H2 => ty σ H2 fun y H3 => ∃ a H4, x = .ref a ∧ DPut H3 a y v H4 ∧ D.nx σ H4
/-- d[y] op= v -/
def sDAug (td ty tv : TE) (rd : V → V → Hp → VK → Prop) : TS := fun D σ H => td σ H fun x H1 => ty σ H1 fun y H2 => ∃ a v, x = .ref a ∧ DGet H2 a y (some v) ∧
  tv σ H2 fun y2 H3 => rd v y2 H3 fun z H4 => ∃ H5, DPut H4 a y z H5 ∧ D.nx σ H5
/-- del d[y] -/
def sDDel (td ty : TE) : TS := fun D σ H => td σ H fun x H1 => ty σ H1 fun y H2 => ∃ a kvs k, x = .ref a ∧ H2 a = some (.dK kvs) ∧ y = kV k ∧ (valV kvs k).isSome = true ∧ D.nx σ (upd H2 a (.dK (dropK kvs k)))

section
variable {X : Cx} {o i e value : Expr} {pos pos' tpos : Pos} {td ty tv : TE}
theorem pe_dget (hu : X.A.units + 1 < cLine) (ho : PE X o td) (hi : PE X i ty) (hs : NoSl i) : PE X (.Subscript o i pos) (tDGet td ty) := by
  intro pins s σ H Q I h
  refine subD_of PySem.F.slot_dict_getitem.lookup hs (thn (ho pins s σ H _ I h) fun u s1 ⟨x, H1, I1, rx, q1⟩ => thn (hi pins s1 σ H1 _ I1 q1) fun iv s2 ⟨y, H2, I2, ry, a, v, ex, g, q2⟩ => ?_)
  subst ex
  obtain rfl : u = Value.ref a := rx
  exact ⟨dict_typeIs I2 g, d_getItem hu I2 g ry fun w' s3 I3 rw' => ⟨v, H2, I3, rw', q2⟩⟩
theorem pc_din (hu : X.A.units + 1 < cLine) (hi : PE X i ty) (ho : PE X o td) : PC X .In i o (tDIn ty td) := by
  intro pins s σ H Q I h
  refine thn (hi pins s σ H _ I h) fun iv s1 ⟨y, H1, I1, ry, q1⟩ => thn (ho pins s1 σ H1 _ I1 q1) fun u s2 ⟨x, H2, I2, rx, a, ov, ex, g, q2⟩ => ?_
  subst ex
  obtain rfl : u = Value.ref a := rx
  exact d_in hu I2 g ry fun s3 I3 => ⟨.bl ov.isSome, H2, I3, rfl, q2⟩
theorem ps_dput (hu : X.A.units + 1 < cLine) (ho : PE X o td) (hi : PE X i ty) (hv : PE X value tv) (hs : swapsWith value (some (.Subscript o i pos')) pos.line X.env = pure false) :
    PS X (.Assign [.Subscript o i pos'] value pos) (sDPut td ty tv) := by
  intro pins s σ H D I h
  refine wpAny_Assign_Subscript (thn (hv pins s σ H _ I h) fun r s1 ⟨v, H1, I1, rv, q1⟩ => thn (ho pins s1 σ H1 _ I1 q1) fun u s2 ⟨x, H2, I2, rx, q2⟩ => thn (hi pins s2 σ H2 _ I2 q2) fun iv s3 ⟨y, H3, I3, ry, a, H4, ex, g, q3⟩ => ?_) hs
  subst ex
  obtain rfl : u = Value.ref a := rx
  exact d_setItem hu I3 g ry rv fun s4 I4 => ⟨σ, H4, I4, q3⟩
end


/-! ### displays -/
theorem dt_empty {P : Program} {w : World} {H : Hp} (h : Heap) (hb : sysModules < h.objs.size) : ObjOk P w H (h.push { cls := .type "dict", data := .dict #[] }) h.objs.size (.dT []) :=
  ⟨Nat.zero_le _, beq_eq_false_iff_ne.mpr (Ne.symm (Nat.ne_of_lt hb)), [], .nil, _, #[], 0, Heap.get?_push_size _ rfl, ⟨rfl, rfl, rfl⟩, rfl, rfl, List.nodup_nil⟩
/-- {}, to be a dict of the kind that is wanted -/
def tDNewK : TE := fun _ H Q => ∀ p, H p = none → Q (.ref p) (upd H p (.dK []))
def tDNewT : TE := fun _ H Q => ∀ p, H p = none → Q (.ref p) (upd H p (.dT []))
section
variable {X : Cx} {pos : Pos}
theorem pe_dnewT : PE X (.Dict [] [] pos) tDNewT := fun pins s σ H Q I h =>
  wpAny_Dict_empty ⟨.ref s.heap.objs.size, _, I.laid (a := s.heap.objs.size) (o := .dT []) (t' := s.toks) (fun _ _ q => Heap.get?_push_of_some _ q) (Nat.le_refl _) (dt_empty s.heap I.big), rfl, h _ (I.hok.fresh (Nat.le_refl _))⟩
end

/-- the pairs of a display, from the left -/
def tPairs : List (TE × TE) → St → Hp → (List (V × V) → Hp → Prop) → Prop
  | [], _, H, Q => Q [] H
  | (tk, tv) :: r, σ, H, Q => tk σ H fun x H1 => tv σ H1 fun y H2 => tPairs r σ H2 fun ps H3 => Q ((x, y) :: ps) H3
abbrev VV : List (V × V) → List (Value × Value) → Prop := Paired fun p q => RelV p.1 q.1 ∧ RelV p.2 q.2
def PPs (X : Cx) (pos : Pos) (keys : List (Option Expr)) (values : List Expr) (trs : List (TE × TE)) : Prop :=
  ∀ (pins : List (Addr × Obj)) (s : Shared) (σ : St) (H : Hp) (Q : List (V × V) → Hp → Prop), Inv X pins σ H s → tPairs trs σ H Q →
    wpAny (model X.prog X.w) X.A (evalPairs (pairTrees keys values X.env pos)) (fun vs s' => ∃ ps H', Inv X pins σ H' s' ∧ VV ps vs ∧ Q ps H') X.xe s
def mergeK (kvs more : List (Key × V)) : List (Key × V) := more.foldl (fun acc kv => putK acc kv.1 kv.2) kvs
/-- {k: v, ..} with keys ints and texts; the new dict stands empty while the pairs are made -/
def tDisp (trs : List (TE × TE)) : TE := fun σ H Q => ∀ p, H p = none → tPairs trs σ (upd H p (.dK [])) fun ps H2 => H2 p = some (.dK []) ∧ ∃ kvs : List (Key × V), ps = kvs.map (fun kv => (kV kv.1, kv.2)) ∧ kvs.length ≤ 15 ∧ Q (.ref p) (upd H2 p (.dK (mergeK [] kvs)))
/-! ### methods -/
/-- a method call o.m(e) of a built-in, with one argument: what must be seen of the text -/
structure M1 (X : Cx) (o : Expr) (m : Str) (apos : Pos) (e : Expr) (cpos : Pos) : Prop where
  base : attributeBase o m X.env (eval o X.env) = eval o X.env
  few : ((backTo cpos (starEach [e] X.env)).all (fun x => !x.1) && (backToKw cpos (keywordEach [] X.env)).all (fun x => x.1.isSome)
    && decide (([e] : List Expr).length + ([] : List Keyword).length + (if ([] : List Keyword).isEmpty then 0 else 1) < 30)) = true
  line : (apos.endLine == cpos.line) = true
  trees : backTo cpos (starEach [e] X.env) = [(false, eval e X.env)]
structure M2 (X : Cx) (o : Expr) (m : Str) (apos : Pos) (e f : Expr) (cpos : Pos) : Prop where
  base : attributeBase o m X.env (eval o X.env) = eval o X.env
  few : ((backTo cpos (starEach [e, f] X.env)).all (fun x => !x.1) && (backToKw cpos (keywordEach [] X.env)).all (fun x => x.1.isSome)
    && decide (([e, f] : List Expr).length + ([] : List Keyword).length + (if ([] : List Keyword).isEmpty then 0 else 1) < 30)) = true
  line : (apos.endLine == cpos.line) = true
  trees : backTo cpos (starEach [e, f] X.env) = [(false, eval e X.env), (false, eval f X.env)]

/-- a is a dict, whatever its keys -/
def IsD (H : Hp) (a : Addr) : Prop := (∃ kvs, Rd H a (.dK kvs)) ∨ ∃ kvs, Rd H a (.dT kvs)
theorem isD_at {X : Cx} {pins : List (Addr × Obj)} {σ : St} {H : Hp} {s : Shared} {a : Addr} (I : Inv X pins σ H s) (d : IsD H a) :
    s.TypeIs (.ref a) "dict" ∧ (∀ b, Value.ref a = .ref b → ∃ ob, s.heap.get? b = some ob ∧ ob.dict = none) ∧ (a == sysModules) = false := by
  rcases d with ⟨kvs, e⟩ | ⟨kvs, e⟩
  · obtain ⟨_, hd, vs, _, dd⟩ := dk_rd I.hok e
    refine ⟨dd.typeIs, fun b q => ?_, hd⟩
    cases q
    obtain ⟨ob, _, _, h1, h2, _⟩ := dd
    exact ⟨ob, h1, h2.2.1⟩
  · obtain ⟨_, hd, xs, _, dd⟩ := dt_rd I.hok e
    refine ⟨dd.typeIs, fun b q => ?_, hd⟩
    cases q
    obtain ⟨ob, _, _, h1, h2, _⟩ := dd
    exact ⟨ob, h1, h2.2.1⟩

section
variable {X : Cx} {pins : List (Addr × Obj)} {σ : St} {H : Hp} {s : Shared} {a : Addr} {y d : V} {u r : Value} {o : Option V} {A : Around} {E : Value → Shared → Prop}
end

def tDGet1 (td ty : TE) : TE := fun σ H Q => td σ H fun x H1 => ∃ a, x = .ref a ∧ IsD H1 a ∧ ty σ H1 fun y H2 => ∃ o, DGet H2 a y o ∧ Q (o.getD .non) H2
def tDGet2 (td ty tx : TE) : TE := fun σ H Q => td σ H fun x H1 => ∃ a, x = .ref a ∧ IsD H1 a ∧ ty σ H1 fun y H2 => tx σ H2 fun z H3 => ∃ o, DGet H3 a y o ∧ Q (o.getD z) H3
/-- d.pop(k): there; d.pop(k, x): there or not -/
def tDPop1 (td ty : TE) : TE := fun σ H Q => td σ H fun x H1 => ∃ a, x = .ref a ∧ IsD H1 a ∧ ty σ H1 fun y H2 => ∃ kvs k v, H2 a = some (.dK kvs) ∧ y = kV k ∧ valV kvs k = some v ∧ Q v (upd H2 a (.dK (dropK kvs k)))
def tDPop2 (td ty tx : TE) : TE := fun σ H Q => td σ H fun x H1 => ∃ a, x = .ref a ∧ IsD H1 a ∧ ty σ H1 fun y H2 => tx σ H2 fun z H3 => ∃ kvs k, H3 a = some (.dK kvs) ∧ y = kV k ∧
  (∀ v, valV kvs k = some v → Q v (upd H3 a (.dK (dropK kvs k)))) ∧ (valV kvs k = none → Q z H3)
section
variable {X : Cx} {o e f : Expr} {apos cpos : Pos} {td ty tx : TE}
end

end L2

set_option maxHeartbeats 1000000
/-! names that are keys, and what hinders -/
namespace Lo
open PySem L2
/-- a pact's name, made at run time -/
def sPa (_ : PySem.W.Frag) (H : Hp) (x : Pa) (v : V) : Prop := ∃ a, v = .ref a ∧ H a = some (.tup [.int x.1, .int x.2])
theorem sPa.c {K : PySem.W.Frag} {H : Hp} {x : Pa} {v : V} (h : sPa K H x v) : cPa.rp K H x v := by
  obtain ⟨a, rfl, e⟩ := h
  exact ⟨a, _, _, rfl, .inl e, rfl, rfl⟩
theorem sPa.keep {K : PySem.W.Frag} {H H' : Hp} {x : Pa} {v : V} (e : TSame H H') (h : sPa K H x v) : sPa K H' x v := by
  obtain ⟨a, rfl, q⟩ := h
  exact ⟨a, rfl, e _ _ q⟩
def sPr (K : PySem.W.Frag) (H : Hp) (x : Pr) (v : V) : Prop := ∃ a pu tu, v = .ref a ∧ SqU K H a [pu, tu] ∧ sPa K H x.1 pu ∧ cLk.rp K H x.2 tu
theorem sPr.c {K : PySem.W.Frag} {H : Hp} {x : Pr} {v : V} (h : sPr K H x v) : cPr.rp K H x v := by
  obtain ⟨a, pu, tu, rfl, e, p, t⟩ := h
  exact ⟨a, pu, tu, rfl, e, p.c, t⟩
theorem sPr.keep {K : PySem.W.Frag} {H H' : Hp} {x : Pr} {v : V} (e : TSame H H') (h : sPr K H x v) : sPr K H' x v := by
  obtain ⟨a, pu, tu, rfl, q, p, t⟩ := h
  exact ⟨a, pu, tu, rfl, q.keep e, p.keep e, cLk.keep e t⟩
def pk (x : Pa) : List Key := [.inl x.1, .inl x.2]
theorem pk_inj {x y : Pa} (h : pk x = pk y) : x = y := by
  unfold pk at h
  simp only [List.cons.injEq, Sum.inl.injEq, and_true] at h
  exact Prod.ext h.1 h.2
/-- those that hinder a lock, from the left -/
def hins (xs : List Pr) (p : Pa) (k : Lk) : List Pa := (xs.filter fun x => !decide (x.1 = p) && !besideB x.2 k).map (·.1)
def cSub {α : Type} [DecidableEq α] (c : Cod α) (R : PySem.W.Frag → Hp → α → V → Prop) (h : ∀ {K H x v}, R K H x v → c.rp K H x v) (keep : ∀ {K : PySem.W.Frag} {H H' : Hp} {x : α} {v : V}, TSame H H' → R K H x v → R K H' x v) : Cod α where
  n := c.n
  rp := R
  inj h1 h2 h3 h4 := c.inj h1 h2 (h h3) (h h4)
  eq h1 h2 := c.eq (h h1) (h h2)
  rc h1 h2 := c.rc (h h1) (h h2)
  ne h1 h2 := c.ne (h h1) (h h2)
  keep := keep
def cPrS : Cod Pr := cSub cPr sPr (fun h => h.c) (fun e h => h.keep e)
def cPaS : Cod Pa := cSub cPa sPa (fun h => h.c) (fun e h => h.keep e)
def uNS (n : Nat) (K : PySem.W.Frag) : TS := fun D σ H => ∃ a ns nl nus names b, σ = [some (.ref a), some (.ref nl), some (.int b)] ++ List.replicate n none ∧ SqL K H a ((ns : List Int).map V.int) ∧ ns.length ≤ 63 ∧ H nl = some (.lst nus) ∧ Paired (sPa K H) names nus ∧ names.length = 4 ∧ ∀ H', D.rt (.bl true) H'
/-! ### two houses -/
section
variable {C : Kd → Addr} {CL : Addr} {K : PySem.W.Frag} {H H' : Hp}
def Kr (l pl q : Addr) (H H' : Hp) : Prop := ∀ b o, b ≠ l → b ≠ pl → b ≠ q → H b = some o → H' b = some o
def Ho (C : Kd → Addr) (CL : Addr) (K : PySem.W.Frag) (H : Hp) (l pl q : Addr) (ps : List Pr) (us : List V) : Prop := LS C CL K H l pl ps ∧ H q = some (.lst us) ∧ Paired (sPr K H) ps us ∧ ((waitL ps).map (·.1)).Nodup
def W18 (C : Kd → Addr) (CL : Addr) (K : PySem.W.Frag) (l0 pl0 q0 : Addr) (ps0 : List Pr) (us0 : List V) (l1 pl1 q1 : Addr) (ps1 : List Pr) (us1 : List V) (own : List (Addr × List V)) (H : Hp) : Prop :=
  Ho C CL K H l0 pl0 q0 ps0 us0 ∧ Ho C CL K H l1 pl1 q1 ps1 us1 ∧ l0 ≠ l1 ∧ (∀ x ∈ own, H x.1 = some (.lst x.2)) ∧ (q0 ≠ pl0 ∧ q1 ≠ pl1 ∧ pl0 ≠ pl1 ∧ pl0 ≠ q1 ∧ q0 ≠ pl1 ∧ q0 ≠ q1) ∧ ∀ x ∈ own, x.1 ≠ pl0 ∧ x.1 ≠ q0 ∧ x.1 ≠ pl1 ∧ x.1 ≠ q1
variable {l0 pl0 q0 l1 pl1 q1 : Addr} {ps0 ps1 : List Pr} {us0 us1 : List V} {own : List (Addr × List V)}
end
section
variable {X : Cx}
end
end Lo

/-! dicts whose keys are tuples of a name and a number; setdefault where the keys lie in the heap -/
namespace L2
open PySem
theorem ik (P : Program) (w : World) (i : Int) (t : Tok) : (intKind P w).is i (.int i t) = true := by simp [intKind, Value.isInt]
/-- a name and a number -/
abbrev NKey := (Int × Int) × Int
def NestAt (h : Heap) (k : NKey) (a : Addr) : Prop := ∃ b t1 t2 t3, h.IsTuple a #[.ref b, .int k.2 t3] ∧ h.IsTuple b #[.int k.1.1 t1, .int k.1.2 t2]
theorem tupAt_inj {h : Heap} {a : Addr} {xs ys : Array Value} (p : h.IsTuple a xs) (q : h.IsTuple a ys) : xs = ys := by
  obtain ⟨o, e, _, n, d⟩ := p
  obtain ⟨o', e', _, n', d'⟩ := q
  cases e.symm.trans e'
  rw [d] at d'
  injection d'
theorem tupAt_stays {h h' : Heap} {a d : Addr} {xs : Array Value} {o : Obj} {es ep} (p : h.IsTuple a xs) (e : h.get? d = some o) (c : o.data = .dict es ep) (hs : Heap.SameBut d h h') : h'.IsTuple a xs := by
  obtain ⟨o', e', c', n, d'⟩ := p
  refine ⟨o', (hs.2 a ?_).trans e', c', n, d'⟩
  intro z
  subst z
  cases e'.symm.trans e
  rw [c] at d'
  cases d'
theorem nest_inj {h : Heap} {a : Addr} {x y : NKey} (p : NestAt h x a) (q : NestAt h y a) : x = y := by
  obtain ⟨b, t1, t2, t3, p1, p2⟩ := p
  obtain ⟨c, u1, u2, u3, q1, q2⟩ := q
  have e1 := tupAt_inj p1 q1
  simp only [Array.mk.injEq, List.cons.injEq, Value.ref.injEq, Value.int.injEq, and_true] at e1
  obtain ⟨e0, e1, _⟩ := e1
  subst e0
  have e2 := tupAt_inj p2 q2
  simp only [Array.mk.injEq, List.cons.injEq, Value.int.injEq, and_true] at e2
  exact Prod.ext (Prod.ext e2.1.1 e2.2.1) e1
variable {prog : Program} {w : World} {A : Around} {E : Value → Shared → Prop} {s : Shared}
theorem nameKey {h : Heap} {b : Addr} {i j : Int} {t u : Tok} (p : h.IsTuple b #[.int i t, .int j u]) : IsTupleKey (intKind prog w) h [i, j] b := by
  obtain ⟨o, e, c, n, d⟩ := p
  exact ⟨o, _, n, e, c, d, .cons (ik prog w i t) (.cons (ik prog w j u) .nil)⟩
def nestHash (k : NKey) : Int := reduceHash (Builtin.Tuple.tupleHashOf [reduceHash (Builtin.Tuple.tupleHashOf [hashInt k.1.1, hashInt k.1.2]), hashInt k.2])
theorem nest_hash {k : NKey} {a : Addr} {Q : Int → Shared → Prop} (hu : A.units + 1 < cLine) (x : NestAt s.heap k a) (q : Q (nestHash k) { s with toks := s.toks + 5 }) :
    wpAny (model prog w) A (pyHash (.ref a)) Q E s := by
  obtain ⟨b, t1, t2, t3, p1, p2⟩ := x
  have ty : s.TypeIs (.ref a) "tuple" := let ⟨o, e, c, _⟩ := p1; ⟨o, e, c⟩
  obtain ⟨o, e, _, n, d⟩ := p1
  unfold pyHash
  first | unfold pyHashByItsType | skip
  first | refine wpAny_bind (wpAny_cRoomFor_or (.inr (by omega)) ?_) | skip
  refine wpAny_bind (wpAny_specialOf ty F.slot_tuple_hash.lookup ?_)
  have hne : ¬ ((some (Value.builtin "tuple.__hash__") == some Value.none) = true) := by rw [beq_builtin_none]; decide
  rw [if_neg hne]
  refine wpAny_bind (wpAny_specialOf ty F.slot_tuple_hash.lookup ?_)
  refine wpAny_bind (wpAny_callSpecialIfBoundUnlessNone?_slot ty F.slot_tuple_hash (wpAny_call_entry F.slot_tuple_hash ty F.entry_tuple_hash ?_ (F.args_tuple_hash_1 _)))
  show wpAny _ _ (Builtin.Tuple.tupleItemsOf (.ref a) >>= fun _ => _) _ _ s
  refine wpAny_bind (wpAny_tupleItemsOf e d ?_)
  refine wpAny_bind ?_
  rw [← Array.forIn_toList]
  refine wpAny_forIn_list _
    (fun rest (c : Array Int) s' => (rest = [.ref b, .int k.2 t3] ∧ c = #[] ∧ s' = s) ∨ (rest = [.int k.2 t3] ∧ c = #[tupleKeyHash (intKind prog w) [k.1.1, k.1.2]] ∧ s' = { s with toks := s.toks + 3 }) ∨
      (rest = [] ∧ c = #[tupleKeyHash (intKind prog w) [k.1.1, k.1.2], (intKind prog w).hash k.2] ∧ s' = { s with toks := s.toks + 4 })) _ ?_ ?_ _ _ (.inl ⟨rfl, rfl, rfl⟩)
  · rintro y rest c s' (⟨e1, rfl, rfl⟩ | ⟨e1, rfl, rfl⟩ | ⟨e1, _⟩)
    · injection e1 with e1 e2
      subst e1 e2
      refine wpAny_bind (wpAny_pyHash_tuple (knd := intKind prog w) (ks := [k.1.1, k.1.2]) (by show A.units + 1 < cLine; exact hu) (nameKey p2) ?_)
      first
        | exact wpAny_pure (.inr (.inl ⟨rfl, rfl, rfl⟩))
        | exact wpAny_bind (wpAny_pure (wpAny_pure (.inr (.inl ⟨rfl, rfl, rfl⟩))))
    · injection e1 with e1 e2
      subst e1 e2
      refine wpAny_bind ((intKind prog w).pyHash (ik prog w k.2 t3) ?_)
      first
        | exact wpAny_pure (.inr (.inr ⟨rfl, rfl, rfl⟩))
        | exact wpAny_bind (wpAny_pure (wpAny_pure (.inr (.inr ⟨rfl, rfl, rfl⟩))))
    · cases e1
  · rintro c s' (⟨e1, _⟩ | ⟨e1, _⟩ | ⟨_, rfl, rfl⟩)
    · cases e1
    · cases e1
    show wpAny _ _ (retInt (Builtin.Tuple.tupleHashOf [tupleKeyHash (intKind prog w) [k.1.1, k.1.2], (intKind prog w).hash k.2])) _ _ _
    refine wpAny_ret_mkInt ?_
    have q : Q (reduceHash (Builtin.Tuple.tupleHashOf [tupleKeyHash (intKind prog w) [k.1.1, k.1.2], (intKind prog w).hash k.2])) { s with toks := s.toks + 5 } := q
    unfold reduceHash at q
    generalize Builtin.Tuple.tupleHashOf [tupleKeyHash (intKind prog w) [k.1.1, k.1.2], (intKind prog w).hash k.2] = H0 at q ⊢
    show wpAny _ _ (if (decide (-(2 : Int) ^ 63 ≤ H0) && decide (H0 < 2 ^ 63)) = true then _ else _) Q E _
    by_cases hr : (decide (-(2 : Int) ^ 63 ≤ H0) && decide (H0 < 2 ^ 63)) = true
    · rw [if_pos hr] at q ⊢
      exact wpAny_pure (by simpa [Nat.add_assoc] using q)
    · rw [if_neg hr] at q ⊢
      exact wpAny_bind (wpAny_rule (wpAny_pure (by simpa [Nat.add_assoc] using q)))
theorem quiet_tup {n : Nat} {a : Addr} {its : Array Value} {Q : Bool → Shared → Prop} (p : s.heap.IsTuple a its) (hi : ∀ v ∈ its.toList, ∀ R : Bool → Shared → Prop, R true s → wpAny (model prog w) A (eqIsQuiet n v) R E s) (q : Q true s) :
    wpAny (model prog w) A (eqIsQuiet (n + 1) (.ref a)) Q E s := by
  have ty : s.TypeIs (.ref a) "tuple" := let ⟨o, e, c, _⟩ := p; ⟨o, e, c⟩
  obtain ⟨o, e, _, m, d⟩ := p
  unfold eqIsQuiet
  refine wpAny_bind (wpAny_specialOf ty F.slot_tuple_eq.lookup ?_)
  refine wpAny_bind (wpAny_isInstance ty isSubtype_tuple_tuple ?_)
  simp only [Bool.not_true, Bool.false_eq_true, if_false]
  refine wpAny_bind (wpAny_seqItems e d ?_)
  refine wpAny_bind ?_
  show wpAny _ _ (forIn its _ _) _ _ s
  rw [← Array.forIn_toList]
  refine wpAny_forIn_list _ (fun rest r s' => r.1 = none ∧ s' = s ∧ ∀ v ∈ rest, v ∈ its.toList) _ ?_ ?_ _ _ ⟨rfl, rfl, fun _ h => h⟩
  · rintro v rest r s' ⟨hr, rfl, hall⟩
    refine wpAny_bind (hi v (hall v List.mem_cons_self) _ ?_)
    simp only [Bool.not_true, Bool.false_eq_true, if_false]
    exact wpAny_pure ⟨rfl, rfl, fun u hu' => hall u (List.mem_cons_of_mem _ hu')⟩
  · rintro ⟨r1, r2⟩ s' ⟨hr, rfl, _⟩
    simp only at hr
    subst hr
    exact wpAny_pure q
theorem quiet_val {n : Nat} {v : Value} {R : Bool → Shared → Prop} (h : carriedByValue v = true) (q : R true s) : wpAny (model prog w) A (eqIsQuiet n v) R E s := by
  rw [eqIsQuiet_byValue n h]
  exact wpAny_pure q
theorem nest_quiet {k : NKey} {a : Addr} {Q : Bool → Shared → Prop} (x : NestAt s.heap k a) (q : Q true s) : wpAny (model prog w) A (eqIsQuiet 8 (.ref a)) Q E s := by
  obtain ⟨b, t1, t2, t3, p1, p2⟩ := x
  refine quiet_tup (n := 7) p1 (fun v hv R hR => ?_) q
  have hv' : v ∈ [Value.ref b, .int k.2 t3] := hv
  rcases List.mem_cons.mp hv' with e | hv'
  · subst e
    refine quiet_tup (n := 6) p2 (fun v hv R hR => ?_) hR
    have hv' : v ∈ [Value.int k.1.1 t1, .int k.1.2 t2] := hv
    rcases List.mem_cons.mp hv' with e | hv'
    · subst e; exact quiet_val rfl hR
    · rcases List.mem_cons.mp hv' with e | hv'
      · subst e; exact quiet_val rfl hR
      · cases hv'
  · rcases List.mem_cons.mp hv' with e | hv'
    · subst e; exact quiet_val rfl hR
    · cases hv'
theorem two_at {α : Type} {a b : α} {j : Nat} (h : j < (#[a, b] : Array α).size) : (j = 0 ∧ (#[a, b] : Array α)[j] = a) ∨ (j = 1 ∧ (#[a, b] : Array α)[j] = b) := by
  have h' : j < 2 := h
  match j, h' with
  | 0, _ => exact .inl ⟨rfl, rfl⟩
  | 1, _ => exact .inr ⟨rfl, rfl⟩
theorem name_eqAt {b c : Addr} {i j i' j' : Int} {t u t' u' : Tok} (hu : A.units < cLine) (p : s.heap.IsTuple b #[.int i t, .int j u]) (q : s.heap.IsTuple c #[.int i' t', .int j' u']) :
    SeqAt.EqAt A s (.ref b) (.ref c) (decide (i = i') && decide (j = j')) := by
  by_cases e : b = c
  · subst e
    have e2 := tupAt_inj p q
    simp only [Array.mk.injEq, List.cons.injEq, Value.int.injEq, and_true] at e2
    rw [decide_eq_true e2.1.1, decide_eq_true e2.2.1]
    exact SeqAt.EqAt.same _
  · refine SeqAt.EqAt.of_refs e ?_
    have z := SeqAt.RcAt.tuples (A := A) (s := s) (e := fun n => if n = 0 then decide (i = i') else decide (j = j')) p q hu (fun n h1 h2 => by
      rcases two_at h1 with ⟨n0, e1⟩ | ⟨n0, e1⟩ <;> rcases two_at h2 with ⟨m0, e2⟩ | ⟨m0, e2⟩ <;> first | (exfalso; omega) | skip
      · rw [e1, e2]; subst n0; show SeqAt.EqAt _ _ _ _ (decide (i = i')); rw [← Bool.beq_eq_decide_eq]; exact SeqAt.EqAt.int_int _ t _ t'
      · rw [e1, e2]; subst n0; show SeqAt.EqAt _ _ _ _ (decide (j = j')); rw [← Bool.beq_eq_decide_eq]; exact SeqAt.EqAt.int_int _ u _ u')
    have ez : ((List.range (min (#[Value.int i t, .int j u] : Array Value).size (#[Value.int i' t', .int j' u'] : Array Value).size)).all (fun n => if n = 0 then decide (i = i') else decide (j = j')) && (#[Value.int i t, .int j u] : Array Value).size == (#[Value.int i' t', .int j' u'] : Array Value).size) = (decide (i = i') && decide (j = j')) := by
      show ((decide (i = i') && (decide (j = j') && true)) && true) = _
      rw [Bool.and_true, Bool.and_true]
    rw [ez] at z
    exact z
theorem nest_eqAt {x y : NKey} {a c : Addr} (hu : A.units + 1 < cLine) (p : NestAt s.heap x a) (q : NestAt s.heap y c) : SeqAt.EqAt A s (.ref a) (.ref c) (decide (x = y)) := by
  by_cases e : a = c
  · subst e
    rw [decide_eq_true (nest_inj p q)]
    exact SeqAt.EqAt.same _
  · refine SeqAt.EqAt.of_refs e ?_
    obtain ⟨b, t1, t2, t3, p1, p2⟩ := p
    obtain ⟨d, u1, u2, u3, q1, q2⟩ := q
    have z := SeqAt.RcAt.tuples (A := A) (s := s) (e := fun n => if n = 0 then (decide (x.1.1 = y.1.1) && decide (x.1.2 = y.1.2)) else decide (x.2 = y.2)) p1 q1 (by omega) (fun n h1 h2 => by
      rcases two_at h1 with ⟨n0, e1⟩ | ⟨n0, e1⟩ <;> rcases two_at h2 with ⟨m0, e2⟩ | ⟨m0, e2⟩ <;> first | (exfalso; omega) | skip
      · rw [e1, e2]; subst n0; exact name_eqAt (by show A.units + 1 < cLine; exact hu) p2 q2
      · rw [e1, e2]; subst n0; show SeqAt.EqAt _ _ _ _ (decide (x.2 = y.2)); rw [← Bool.beq_eq_decide_eq]; exact SeqAt.EqAt.int_int _ t3 _ u3)
    have ez : ((List.range (min (#[Value.ref b, .int x.2 t3] : Array Value).size (#[Value.ref d, .int y.2 u3] : Array Value).size)).all (fun n => if n = 0 then (decide (x.1.1 = y.1.1) && decide (x.1.2 = y.1.2)) else decide (x.2 = y.2)) && (#[Value.ref b, .int x.2 t3] : Array Value).size == (#[Value.ref d, .int y.2 u3] : Array Value).size) = decide (x = y) := by
      show (((decide (x.1.1 = y.1.1) && decide (x.1.2 = y.1.2)) && (decide (x.2 = y.2) && true)) && true) = _
      rw [Bool.and_true, Bool.and_true, ← Bool.decide_and, ← Bool.decide_and]
      exact decide_eq_decide.mpr ⟨fun z => Prod.ext (Prod.ext z.1.1 z.1.2) z.2, fun z => by rw [z]; exact ⟨⟨rfl, rfl⟩, rfl⟩⟩
    rw [ez] at z
    exact z
def nestKind (prog : Program) (w : World) : HeapKind prog w NKey where
  is := NestAt
  hash := nestHash
  draws := fun _ => 5
  room := fun A => A.units + 1 < cLine
  inj := fun hx hy => nest_inj hx hy
  keeps := fun x e c hs => let ⟨b, t1, t2, t3, p1, p2⟩ := x; ⟨b, t1, t2, t3, tupAt_stays p1 e c hs, tupAt_stays p2 e c hs⟩
  pyHash := fun hu hk h => nest_hash hu hk h
  eqBool := fun hu hx hy h => nest_eqAt hu hx hy _ _ _ _ h
  quiet := fun hk h => nest_quiet hk h
/-! ### setdefault -/
section
variable {κ : Type} [DecidableEq κ] {knd : HeapKind prog w κ} {d a : Addr}
theorem dictSetDefault_heap {xs : List (κ × Addr × Value)} {k : κ} {v : Value} {Q : Value → Shared → Prop} (hu : knd.room A) (hkey : knd.is s.heap k a) (hm : s.heap.DictOfH knd d xs)
    (h1 : ∀ p, atKey xs k = some p → Q p.2 { s with toks := s.toks + knd.draws k })
    (h2 : atKey xs k = none → ∀ h', h'.DictOfH knd d (xs ++ [(k, a, v)]) → Heap.SameBut d s.heap h' → Q v { s with heap := h', toks := s.toks + knd.draws k }) (hsz : xs.length ≤ sizeLine) :
    wpAny (model prog w) A (dictSetDefault d (.ref a) v) Q E s := by
  obtain ⟨o, es, ep, ho, hc, hd, he, his, hn⟩ := hm
  unfold dictSetDefault
  try with_reducible refine wpAny_holding ?_
  refine wpAny_bind (knd.pyHash hu hkey ?_)
  refine wpAny_bind (wpAny_dictFind_heap (s := { s with toks := s.toks + knd.draws k }) hu hkey ho hd he his hn (fun hno => ?_) (fun j p hj => ?_))
  · have e0 := atKey_none_of_get hno
    have nk : k ∉ xs.map (·.1) := not_mem_keys_of_get hno
    refine wpAny_bind (wpAny_rule (wpAny_bind (wpAny_updateDictKeys (hz := by have e := size_of_entries he; omega) (s := { s with toks := s.toks + knd.draws k }) ho hd (wpAny_pure (h2 e0 _ ⟨_, _, ep + 1, Heap.get?_update_self _ ho (Obj.isFreed_of_dict (Obj.data_mapDictKeys hd _)),
      hc.mapDictKeys _, Obj.data_mapDictKeys hd _, ?_, fun x hx => ?_, ?_⟩ (Heap.SameBut.update ..))))))
    · simp [he, entryOfKey]
    · rcases List.mem_append.mp hx with hx | hx
      · exact knd.keeps (his x hx) ho hd (Heap.SameBut.update ..)
      · have e1 := List.mem_singleton.mp hx
        subst e1
        exact knd.keeps hkey ho hd (Heap.SameBut.update ..)
    · rw [List.map_append, List.nodup_append]
      refine ⟨hn, by simp, fun x hx y hy e1 => ?_⟩
      have hy' : y = k := by simpa using hy
      exact nk (hy' ▸ e1 ▸ hx)
  · refine wpAny_bind (wpAny_dictEntries (s := { s with toks := s.toks + knd.draws k }) ho hd ?_)
    rw [entry_at he j, hj]
    exact wpAny_bind (wpAny_rule (wpAny_pure (h1 p (atKey_of_get hn hj))))
theorem meetsH_setdefault (knd : HeapKind prog w κ) (d a : Addr) (hd : (d == sysModules) = false) (v : Value) :
    MeetsIn prog w (Builtin.«dict.setdefault» ⟨[.ref d, .ref a, v], []⟩) (fun A R s => knd.room A.in1 ∧ ∃ k xs, knd.is s.heap k a ∧ s.heap.DictOfH knd d xs ∧ xs.length ≤ sizeLine ∧
      (∀ p, atKey xs k = some p → R (.ok (.ret p.2)) { s with toks := s.toks + knd.draws k }) ∧
      (atKey xs k = none → ∀ h', h'.DictOfH knd d (xs ++ [(k, a, v)]) → Heap.SameBut d s.heap h' → R (.ok (.ret v)) { s with heap := h', toks := s.toks + knd.draws k })) :=
  .of_wp fun A R s ⟨hu, k, xs, hkey, hm, hz, h1, h2⟩ => by
    unfold Builtin.«dict.setdefault»
    refine wpAny_bind ?_
    unfold Builtin.Dict.keyAndDefault
    refine wpAny_bind (wpAny_notOrdered_dict hm.typeIs ?_)
    show wpAny _ _ (pure (d, Value.ref a, some v)) _ _ s
    refine wpAny_pure ?_
    show wpAny _ _ (if (d == sysModules) = true then _ else (dictSetDefault d (.ref a) v >>= fun _ => _)) _ _ s
    have hne : ¬ ((d == sysModules) = true) := by rw [hd]; decide
    rw [if_neg hne]
    exact wpAny_bind (dictSetDefault_heap hu hkey hm (fun p hp => wpAny_pure ⟨_, rfl, h1 p hp⟩) (fun e0 h' hm' hs' => wpAny_pure ⟨_, rfl, h2 e0 h' hm' hs'⟩) hz)
end
end L2

set_option maxHeartbeats 1000000
/-! enumerate; dicts of names and numbers; setdefault -/
namespace L2
open PySem PySem.Spec PyProof.Rows
/-- the list at a with its places, a new pair at each turn -/
def Ite (K : PySem.W.Frag) (a : Addr) : It :=
  ⟨fun i H => ∃ xs x, SqL K H a xs ∧ xs[i]? = some x, fun i H x H' => ∃ t y, x = .ref t ∧ H t = none ∧ H' = upd H t (.tup [.int (i : Nat), y]) ∧ ∀ xs, SqL K H a xs → xs[i]? = some y, fun i H => ∃ xs, SqL K H a xs ∧ xs.length ≤ i⟩
theorem turn_enum {P : Program} {w : World} {K : PySem.W.Frag} {elts : List Expr} {kk : Nat} {pos : Pos} (a it en : Addr) (hei : en ≠ it) :
    Turn P w K (.Tuple elts kk pos) (Ite K a) [en, it] en (fun i h => (∃ old, IsEnum h en it (i : Nat) old) ∧ h.IsListIter it a i) where
  mem := by simp
  obj := fun i h st b hb => by
    obtain ⟨⟨old, e1⟩, o, e2, c, d⟩ := st
    rcases List.mem_cons.mp hb with z | hb
    · subst z
      exact ⟨_, e1, fun v z => by have z' : Data.fields _ = Data.cell v := z; cases z'⟩
    · have z : b = it := by simpa using hb
      subst z
      exact ⟨o, e2, fun v z => by rw [d] at z; cases z⟩
  keep := fun i h h' st k => by
    obtain ⟨⟨old, e1⟩, e2⟩ := st
    exact ⟨⟨old, k en (by simp) _ e1⟩, e2.at fun o e => k it (by simp) o e⟩
  item := by
    intro X hP hw hK hc i pins s σ H E I hf st hg
    subst hP hw hK
    obtain ⟨⟨old, he⟩, hit⟩ := st
    obtain ⟨xs, x, hq, hx⟩ := hg
    obtain ⟨its, rv, p, hz⟩ := I.list hq
    obtain ⟨u, hu, ru⟩ := rv.get hx
    obtain ⟨f0, f1, f2, f3, f4, f5⟩ := hf en (by simp)
    obtain ⟨g0, g1, g2, g3, g4, g5⟩ := hf it (by simp)
    refine wpAny_pyNext_enum_item he hit p.isList (x := u) (by simpa using hu) hei fun h1 ho hit1 hT hsz hk => ⟨_, rfl, ?_⟩
    refine wpAny_letOwnedTupleGo_enum ho fun h2 he2 hs2 => ?_
    have hn : H s.heap.objs.size = none := I.hok.fresh (Nat.le_refl _)
    have helt : en < s.heap.objs.size := Heap.lt_size he
    have hilt : it < s.heap.objs.size := by obtain ⟨_, z, _⟩ := id hit; exact Heap.lt_size z
    have kp : ∀ b o, b ≠ en → b ≠ it → s.heap.get? b = some o → h2.get? b = some o := fun b o n1 n2 e => (hs2.2 b n1).trans (hk b o n1 n2 e)
    have hT2 : h2.get? s.heap.objs.size = some { cls := .type "tuple", data := .seq #[.int (i : Nat) s.toks, u] } := (hs2.2 _ (Nat.ne_of_gt helt)).trans hT
    have nb : ∀ b o, H b = some o → b ≠ en ∧ b ≠ it := fun b o e => ⟨(fun z => by rw [z, f0] at e; cases e), (fun z => by rw [z, g0] at e; cases e)⟩
    refine ⟨.ref s.heap.objs.size, upd H s.heap.objs.size (.tup [.int (i : Nat), x]), ?_, rfl, ⟨_, x, rfl, hn, rfl, fun ys hy => by rw [I.list_inj hy hq]; exact hx⟩, ⟨⟨_, by simpa using he2⟩, hit1.at fun o e => (hs2.2 it (Ne.symm hei)).trans e⟩, fun b hb => ?_⟩
    · show Inv X pins σ (upd H s.heap.objs.size (.tup [.int (i : Nat), x])) { s with heap := h2, gens := s.gens, drawn := s.drawn, toks := s.toks + 1 }
      refine I.step (h' := h2) (g' := s.gens) (d' := s.drawn) (t' := s.toks + 1) (ch := [en, it]) (fun b hb => ?_) (fun b o _ _ hc e _ => ?_) (fun b o _ _ hc e _ => ⟨o.slots, ?_⟩) (fun b o hc e n => ?_)
        (fun b o hc e => ⟨o, ?_⟩) (fun b ys e => ?_) (fun b o v e => ?_) (fun b ps e => ⟨#[], ?_⟩) (fun m hm => ?_) (fun b v e => ?_) I.bare
      · rcases List.mem_cons.mp hb with z | hb
        · subst z; exact ⟨f3, f1, f4, f5⟩
        · have z : b = it := by simpa using hb
          subst z; exact ⟨g3, g1, g4, g5⟩
      · exact kp b o (fun z => hc (by simp [z])) (fun z => hc (by simp [z])) e
      · exact kp b o (fun z => hc (by simp [z])) (fun z => hc (by simp [z])) e
      · rw [upd_ne (Nat.ne_of_lt (Heap.lt_size e))]; exact n
      · exact kp b o (fun z => hc (by simp [z])) (fun z => hc (by simp [z])) e
      · rw [upd_ne (ne_of_none e hn)]; exact e
      · rw [upd_ne (ne_of_none e hn)]; exact e
      · rw [upd_ne (ne_of_none e hn), e]; simp
      · obtain ⟨o, es, ep, ho', r⟩ := hm
        exact ⟨o, es, ep, kp _ o (Ne.symm f1) (Ne.symm g1) ho', r⟩
      · by_cases hb : b = s.heap.objs.size
        · subst hb
          rw [upd_same] at e
          cases e
          exact ⟨by show 2 ≤ sizeLine; decide, [.int (i : Nat) s.toks, u], .cons ⟨_, rfl⟩ (.cons ru .nil), _, hT2, rfl, _, rfl⟩
        · rw [upd_ne hb] at e
          refine (I.hok b v e).stay (fun c o hc q => ?_) (fun c q => ?_) fun c ys q => ?_
          · rcases hc with z | z
            · subst z; exact kp _ o (nb _ _ e).1 (nb _ _ e).2 q
            · exact kp _ o (nb _ _ z).1 (nb _ _ z).2 q
          · rw [upd_ne (ne_of_none q hn)]; exact q
          · rw [upd_ne (ne_of_none q hn)]; exact q
    · have hb' : b < s.heap.objs.size := by
        rcases List.mem_cons.mp hb with z | hb
        · rw [z]; exact helt
        · have z : b = it := by simpa using hb
          rw [z]; exact hilt
      rw [upd_ne (Nat.ne_of_lt hb')]
      exact (hf b hb).1
  done := by
    intro X hP hw hK hc i pins s σ H E I hf st hg
    subst hP hw hK
    obtain ⟨⟨old, he⟩, hit⟩ := st
    obtain ⟨xs, hq, hx⟩ := hg
    obtain ⟨its, rv, p, hz⟩ := I.list hq
    obtain ⟨f0, f1, f2, f3, f4, f5⟩ := hf it (by simp)
    have hl := rv.length
    exact wpAny_pyNext_enum_end (I.ok.hd hc) he hit p.isList (by simp; omega) fun h' eb => ⟨rfl, I.turned (t' := s.toks) (fun b o hb e => eb b o hb e) f0 f1 f3 f4 f5⟩
  self := fun _ _ _ _ _ st h => by
    obtain ⟨⟨old, he⟩, _⟩ := st
    exact wpAny_pyIter_enum he h
def iEnum (K : PySem.W.Frag) (ta : TA) : TI := fun σ H R => ta σ H fun vs H1 => ∃ a, vs = [.ref a] ∧ (∃ xs, SqL K H1 a xs) ∧ R (Ite K a) H1
theorem pi_enum {X : Cx} {elts : List Expr} {kk : Nat} {tpos : Pos} {a : Expr} {ta : TA} {p pos : Pos} (hg : Gl X "enumerate") (hm : X.mg "enumerate" = none) (ha : PA X [a] ta) (hs : starEach [a] X.env = [(false, eval a X.env)] := by rfl) :
    PI X (.Tuple elts kk tpos) (.Call (.Name "enumerate" p) [a] [] pos) (iEnum X.K ta) := by
  intro pins s σ H R I h
  refine Call_ (ld_blt I hg hm boot_enumerate (PyProof.Rows.callWith_type1 (thn (ha pos pins s σ H _ I h) fun us s1 ⟨vs, H1, I1, r1, q1⟩ => ?_) hs rfl))
  obtain ⟨l, e, ⟨xs, hq⟩, q⟩ := q1
  subst e
  obtain ⟨u, rfl, ru⟩ := vals1 r1
  cases (show u = Value.ref l from ru)
  obtain ⟨its, rv, pl, hz⟩ := I1.list hq
  refine call_enumerate_list pl.isList fun h' he hit hz' hk => wpAny_pyIter_enum he ?_
  refine ⟨s1.heap.objs.size + 1, [s1.heap.objs.size + 1, s1.heap.objs.size], _, Ite X.K l, H1, rfl, I1.kept (t' := s1.toks) hk, turn_enum l _ _ (Nat.succ_ne_self _), ⟨⟨_, he⟩, hit⟩, fun b hb => ?_, q⟩
  have hb' : s1.heap.objs.size ≤ b := by
    rcases List.mem_cons.mp hb with z | hb
    · rw [z]; exact Nat.le_succ _
    · have z : b = s1.heap.objs.size := by simpa using hb
      rw [z]; exact Nat.le_refl _
  exact I1.fpOk hb' (I1.hok.fresh hb')
theorem for_enum {K : PySem.W.Frag} {a : Addr} {xs : List V} {g : TG} {tb : TS} {D : Ends} {σ : St} {H : Hp} (Pv : Nat → St → Hp → Prop) (h0 : Pv 0 σ H) (hl : ∀ i σ H, i ≤ xs.length → Pv i σ H → SqL K H a xs)
    (hs : ∀ i x t σ H, xs[i]? = some x → Pv i σ H → H t = none → g (.ref t) σ (upd H t (.tup [.int (i : Nat), x])) fun σ2 H2 => tb { D with nx := Pv (i + 1), ct := Pv (i + 1), bk := D.nx } σ2 H2) (hd : ∀ σ H, Pv xs.length σ H → D.nx σ H) :
    ∃ W : Nat → Nat → St → Hp → Prop, (∃ m, W 0 m σ H) ∧ ∀ i m σ H, W i m σ H →
      ((Ite K a).stop i H ∧ D.nx σ H) ∨ ((Ite K a).go i H ∧ ∃ N : St → Hp → Prop, (∀ σ' H', N σ' H' → ∃ m', m' < m ∧ W (i + 1) m' σ' H') ∧ ∀ x H', (Ite K a).yld i H x H' → g x σ H' fun σ2 H2 => tb { D with nx := N, ct := N, bk := D.nx } σ2 H2) := by
  refine ⟨fun i m σ H => m = xs.length - i ∧ i ≤ xs.length ∧ Pv i σ H, ⟨xs.length, by simp, Nat.zero_le _, h0⟩, ?_⟩
  rintro i m σ H ⟨rfl, hi, p⟩
  have q := hl i σ H hi p
  by_cases hlt : i < xs.length
  · refine .inr ⟨⟨xs, xs[i], q, by simp [hlt]⟩, Pv (i + 1), fun σ' H' p' => ⟨xs.length - (i + 1), by omega, rfl, hlt, p'⟩, fun x H' y => ?_⟩
    obtain ⟨t, z, e1, e2, e3, y⟩ := y
    subst e1 e3
    exact hs i z t σ _ (y xs q) p e2
  · have e : i = xs.length := by omega
    subst e
    exact .inl ⟨⟨xs, q, Nat.le_refl _⟩, hd σ H p⟩
/-! ### a dict of names and numbers -/
/-- the key k lies at b -/
def NKeyAt (H : Hp) (k : NKey) (b : Addr) : Prop := ∃ c, H b = some (.tup [.ref c, .int k.2]) ∧ H c = some (.tup [.int k.1.1, .int k.1.2])
theorem NKeyAt.keep {H H' : Hp} {k : NKey} {b : Addr} (e : TSame H H') (h : NKeyAt H k b) : NKeyAt H' k b := by
  obtain ⟨c, h1, h2⟩ := h
  exact ⟨c, e _ _ h1, e _ _ h2⟩
theorem NKeyAt.at {P : Program} {w : World} {H : Hp} {h : Heap} {k : NKey} {b : Addr} (ok : HOk P w H h) (q : NKeyAt H k b) : NestAt h k b := by
  obtain ⟨c, h1, h2⟩ := q
  obtain ⟨_, its, r, p⟩ := (show ObjOk P w H h b (.tup [.ref c, .int k.2]) from ok b _ h1)
  obtain ⟨_, its', r', p'⟩ := (show ObjOk P w H h c (.tup [.int k.1.1, .int k.1.2]) from ok c _ h2)
  obtain ⟨u1, u2, rfl, e1, e2⟩ := r.two
  obtain ⟨v1, v2, rfl, e3, e4⟩ := r'.two
  cases (show u1 = Value.ref c from e1)
  obtain ⟨t, rfl⟩ := e2
  obtain ⟨t1, rfl⟩ := e3
  obtain ⟨t2, rfl⟩ := e4
  exact ⟨c, t1, t2, t, p, p'⟩
abbrev NEnt := NKey × Addr × Addr
def nraw (xs : List NEnt) : List (NKey × Addr × Value) := xs.map fun x => (x.1, x.2.1, Value.ref x.2.2)
def ndOf (a : Addr) (xs : List NEnt) (h : Heap) : Prop := (a == sysModules) = false ∧ ∃ o es ep, h.get? a = some o ∧ o.ExactDict ∧ o.data = .dict es ep ∧ es.toList = (nraw xs).map fun x => ⟨nestHash x.1, .ref x.2.1, x.2.2⟩
/-- the dict at a -/
def NDt (a : Addr) (xs : List NEnt) : HO := .ext (ndOf a xs)
def NOk (H : Hp) (xs : List NEnt) : Prop := (∀ x ∈ xs, NKeyAt H x.1 x.2.1) ∧ (xs.map (·.1)).Nodup
theorem NOk.keep {H H' : Hp} {xs : List NEnt} (e : TSame H H') (h : NOk H xs) : NOk H' xs := ⟨fun x hx => (h.1 x hx).keep e, h.2⟩
def nget (xs : List NEnt) (k : NKey) : Option Addr := (xs.find? fun x => decide (x.1 = k)).map (·.2.2)
def nput (xs : List NEnt) (k : NKey) (b r : Addr) : List NEnt := if (nget xs k).isSome = true then xs.map (fun x => if x.1 = k then (x.1, x.2.1, r) else x) else xs ++ [(k, b, r)]
theorem nget_raw (xs : List NEnt) (k : NKey) : (atKey (nraw xs) k).map (·.2) = (nget xs k).map Value.ref := by
  unfold atKey nraw nget
  rw [List.find?_map]
  cases e : List.find? ((fun x : NKey × Addr × Value => decide (x.1 = k)) ∘ fun x : NEnt => (x.1, x.2.1, Value.ref x.2.2)) xs with
  | none =>
    have e' : List.find? (fun x : NEnt => decide (x.1 = k)) xs = none := e
    rw [e']; rfl
  | some y =>
    have e' : List.find? (fun x : NEnt => decide (x.1 = k)) xs = some y := e
    rw [e']; rfl
theorem nput_raw (xs : List NEnt) (k : NKey) (b r : Addr) : nraw (nput xs k b r) = storedH (nraw xs) k b (.ref r) := by
  have e : (atKey (nraw xs) k).isSome = (nget xs k).isSome := by
    have := congrArg Option.isSome (nget_raw xs k)
    rw [Option.isSome_map, Option.isSome_map] at this
    exact this
  unfold nput storedH
  rw [e]
  by_cases h : (nget xs k).isSome = true
  · rw [if_pos h, if_pos h]
    unfold nraw
    rw [List.map_map, List.map_map]
    refine List.map_congr_left fun x _ => ?_
    show (fun x : NEnt => (x.1, x.2.1, Value.ref x.2.2)) (if x.1 = k then (x.1, x.2.1, r) else x) = putAt k (.ref r) (x.1, x.2.1, Value.ref x.2.2)
    unfold putAt
    by_cases hx : x.1 = k
    · rw [if_pos hx, if_pos hx]
    · rw [if_neg hx, if_neg hx]
  · rw [if_neg h, if_neg h]
    unfold nraw
    rw [List.map_append]
    rfl
theorem nput_len (xs : List NEnt) (k : NKey) (b r : Addr) : (nput xs k b r).length ≤ xs.length + 1 := by
  unfold nput
  split
  · rw [List.length_map]; omega
  · rw [List.length_append]; exact Nat.le_refl _
theorem NOk.put {H : Hp} {xs : List NEnt} {k : NKey} {b : Addr} (r : Addr) (h : NOk H xs) (hb : NKeyAt H k b) : NOk H (nput xs k b r) := by
  unfold nput
  by_cases c : (nget xs k).isSome = true
  · rw [if_pos c]
    refine ⟨fun x hx => ?_, ?_⟩
    · obtain ⟨y, hy, e⟩ := List.mem_map.mp hx
      subst e
      by_cases hk : y.1 = k
      · rw [if_pos hk]; exact h.1 y hy
      · rw [if_neg hk]; exact h.1 y hy
    · rw [List.map_map]
      have : ((fun x : NEnt => x.1) ∘ fun x : NEnt => if x.1 = k then (x.1, x.2.1, r) else x) = fun x => x.1 := by
        funext x
        show (if x.1 = k then (x.1, x.2.1, r) else x).1 = x.1
        split <;> rfl
      rw [this]
      exact h.2
  · rw [if_neg c]
    refine ⟨fun x hx => ?_, ?_⟩
    · rcases List.mem_append.mp hx with hx | hx
      · exact h.1 x hx
      · have := List.mem_singleton.mp hx
        subst this
        exact hb
    · rw [List.map_append, List.nodup_append]
      refine ⟨h.2, by simp, fun x hx y hy e => c ?_⟩
      have hy' : y = k := by simpa using hy
      subst hy'
      subst e
      obtain ⟨z, hz, e⟩ := List.mem_map.mp hx
      unfold nget
      rw [Option.isSome_map, List.find?_isSome]
      exact ⟨z, hz, decide_eq_true e⟩
section
variable {X : Cx} {pins : List (Addr × Obj)} {σ : St} {H : Hp} {s : Shared} {a b r : Addr} {xs : List NEnt} {k : NKey} {A : Around} {E : Value → Shared → Prop}
theorem nd_of (I : Inv X pins σ H s) (e : H a = some (NDt a xs)) (ok : NOk H xs) : (a == sysModules) = false ∧ s.heap.DictOfH (nestKind X.prog X.w) a (nraw xs) := by
  obtain ⟨⟨h0, o, es, ep, h1, h2, h3, h4⟩, _⟩ := (show ObjOk X.prog X.w H s.heap a (NDt a xs) from I.hok a _ e)
  refine ⟨h0, o, es, ep, h1, h2, h3, h4, fun x hx => ?_, ?_⟩
  · unfold nraw at hx
    obtain ⟨y, hy, rfl⟩ := List.mem_map.mp hx
    exact (ok.1 y hy).at I.hok
  · unfold nraw
    rw [List.map_map]
    exact ok.2
theorem nd_stay {a : Addr} {xs : List NEnt} : ∀ h1 h2 : Heap, ndOf a xs h1 → (∀ o, h1.get? a = some o → h2.get? a = some o) → ndOf a xs h2 := fun h1 h2 q k => by
  obtain ⟨h0, o, es, ep, e, r⟩ := q
  exact ⟨h0, o, es, ep, k _ e, r⟩
theorem nd_set {Q : Unit → Shared → Prop} (hu : A.units + 2 < cLine) (I : Inv X pins σ H s) (e : H a = some (NDt a xs)) (ok : NOk H xs) (hb : NKeyAt H k b) (hl : xs.length ≤ sizeLine) (q : ∀ s', Inv X pins σ (upd H a (NDt a (nput xs k b r))) s' → Q () s') :
    wpAny (model X.prog X.w) A (setItem (.ref a) (.ref b) (.ref r)) Q E s := by
  obtain ⟨h0, dd⟩ := nd_of I e ok
  refine wpAny_setItem_heap (knd := nestKind X.prog X.w) (k := k) (hsz := by unfold nraw; rw [List.length_map]; exact hl) (by show A.units + 1 + 1 < cLine; exact hu) (hb.at I.hok) dd fun h' dd' hs => q _ ?_
  obtain ⟨o, es, ep, h1, h2, h3, h4, _, _⟩ := dd'
  refine d_write I (by rw [e]; exact True.intro) hs ⟨o, h1⟩ ⟨⟨h0, o, es, ep, h1, h2, h3, ?_⟩, ⟨o, h1⟩, nd_stay⟩
  rw [h4, nput_raw]
  rfl
end
def tDNewN : TE := fun _ H Q => ∀ p, H p = none → Q (.ref p) (upd H p (NDt p []))
def ov : Option Addr → V
  | none => .non
  | some r => .ref r
def tNGet (td ty : TE) : TE := fun σ H Q => td σ H fun x H1 => ∃ a xs, x = .ref a ∧ H1 a = some (NDt a xs) ∧ ty σ H1 fun y H2 => ∃ b k, y = .ref b ∧ H2 a = some (NDt a xs) ∧ NOk H2 xs ∧ NKeyAt H2 k b ∧ Q (ov (nget xs k)) H2
def sNPut (td ty tv : TE) : TS := fun D σ H => tv σ H fun v H1 => td σ H1 fun x H2 => ty σ H2 fun y H3 => ∃ a b r xs k, v = .ref r ∧ x = .ref a ∧ y = .ref b ∧ H3 a = some (NDt a xs) ∧ NOk H3 xs ∧ NKeyAt H3 k b ∧ xs.length ≤ sizeLine ∧ D.nx σ (upd H3 a (NDt a (nput xs k b r)))
/-- d.setdefault(k, v), its keys tuples -/
def tDDef (td ty tx : TE) : TE := fun σ H Q => td σ H fun x H1 => ∃ a, x = .ref a ∧ IsD H1 a ∧ ty σ H1 fun y H2 => tx σ H2 fun z H3 => ∃ kvs k b, H3 a = some (.dT kvs) ∧ y = .ref b ∧ H3 b = some (.tup (k.map kV)) ∧ kvs.length < sizeLine ∧
  (∀ v, valV kvs k = some v → Q v H3) ∧ (valV kvs k = none → Q z (upd H3 a (.dT (kvs ++ [(k, z)]))))
section
variable {X : Cx} {o e f i value : Expr} {apos cpos pos pos' : Pos} {td ty tx tv : TE}
theorem pe_dnewN : PE X (.Dict [] [] pos) tDNewN := fun pins s σ H Q I h =>
  wpAny_Dict_empty ⟨.ref s.heap.objs.size, _, I.laid (a := s.heap.objs.size) (o := NDt s.heap.objs.size []) (t' := s.toks) (fun _ _ q => Heap.get?_push_of_some _ q) (Nat.le_refl _)
    ⟨⟨beq_eq_false_iff_ne.mpr (Ne.symm (Nat.ne_of_lt I.big)), _, #[], 0, Heap.get?_push_size _ rfl, ⟨rfl, rfl, rfl⟩, rfl, rfl⟩, ⟨_, Heap.get?_push_size _ rfl⟩, nd_stay⟩, rfl, h _ (I.hok.fresh (Nat.le_refl _))⟩
theorem ps_nput (hu : X.A.units + 2 < cLine) (ho : PE X o td) (hi : PE X i ty) (hv : PE X value tv) (hs : swapsWith value (some (.Subscript o i pos')) pos.line X.env = pure false) :
    PS X (.Assign [.Subscript o i pos'] value pos) (sNPut td ty tv) := by
  intro pins s σ H D I h
  refine wpAny_Assign_Subscript (thn (hv pins s σ H _ I h) fun r s1 ⟨v, H1, I1, rv, q1⟩ => thn (ho pins s1 σ H1 _ I1 q1) fun u s2 ⟨x, H2, I2, rx, q2⟩ => thn (hi pins s2 σ H2 _ I2 q2) fun iv s3 ⟨y, H3, I3, ry, a, b, r', xs, k, ev, ex, ey, g1, g2, g3, g4, q3⟩ => ?_) hs
  subst ev ex ey
  obtain rfl : u = Value.ref a := rx
  obtain rfl : iv = Value.ref b := ry
  obtain rfl : r = Value.ref r' := rv
  exact nd_set hu I3 g1 g2 g3 g4 fun s4 I4 => ⟨σ, _, I4, q3⟩
theorem pe_ddef (hu : X.A.units + 1 < cLine) (ho : PE X o td) (he : PE X e ty) (hf : PE X f tx) (m : M2 X o "setdefault" apos e f cpos) : PE X (.Call (.Attribute o "setdefault" apos) [e, f] [] cpos) (tDDef td ty tx) := by
  intro pins s σ H Q I h
  refine wpAny_Call_method m.base m.few m.line PySem.F.plainAttrs_dict PySem.F.slot_dict_setdefault PySem.F.type_dict_setdefault (thn (ho pins s σ H _ I h) fun u s1 ⟨x, H1, I1, rx, a, ex, d, q1⟩ => ?_)
  subst ex
  obtain rfl : u = Value.ref a := rx
  obtain ⟨t1, t2, _⟩ := isD_at I1 d
  refine ⟨t1, t2, ?_⟩
  rw [m.trees]
  refine Calls.callWith_builtin rfl (Calls.evalArgs_plain (Calls.spliced_cons (thn (he pins s1 σ H1 _ I1 q1) fun iv s2 ⟨y, H2, I2, ry, q2⟩ =>
    Calls.spliced_cons (thn (hf pins s2 σ H2 _ I2 q2) fun fv s3 ⟨z, H3, I3, rz, kvs, k, b, ea, ey, eb, hl, q3, q4⟩ => Calls.spliced_nil ?_))))
  subst ey
  obtain rfl : iv = Value.ref b := ry
  obtain ⟨hz, hd, xs, rel, dd⟩ := dt_of I3.hok ea
  have hz' : xs.length ≤ sizeLine := by rw [← Paired.length rel]; exact hz
  refine call_meetsIn PySem.F.slot_dict_setdefault dd.typeIs PySem.F.entry_dict_setdefault (PySem.F.args_dict_setdefault_3 _ _ _) (meetsH_setdefault (tupleKind (mixKind X.prog X.w)) a b hd fv) ⟨tupleKind_room_in1 hu, k, xs, key_of I3.hok eb, dd, hz', fun p hp => ?_, fun hn h' dd' hs => ?_⟩
  · have rv := rel.val k
    rw [hp] at rv
    cases l : valV kvs k with
    | none => rw [l] at rv; exact (show False from rv).elim
    | some v =>
      rw [l] at rv
      exact ⟨v, H3, I3.tok _, rv, q3 v l⟩
  · have rv := rel.val k
    rw [hn] at rv
    have l : valV kvs k = none := by
      cases l : valV kvs k with
      | none => rfl
      | some v => rw [l] at rv; exact (show False from rv).elim
    refine ⟨z, _, ?_, rz, q4 l⟩
    obtain ⟨q, es, ep, hq, h2, h3, h4, _, h5⟩ := dd'
    have rel' : KT H3 (kvs ++ [(k, z)]) (xs ++ [(k, b, fv)]) := Paired.snoc rel ⟨rfl, eb, rz⟩
    refine d_write I3 (by rw [ea]; exact True.intro) hs ⟨q, hq⟩ ⟨by rw [List.length_append]; exact hl, hd, _, rel'.keeps fun c ys ec => ?_, q, es, ep, hq, h2, h3, h4, h5⟩
    rw [upd_ne (ne_of ec ea (fun z => nomatch z))]
    exact ec
end
section
variable {X : Cx}
end
end L2

set_option maxHeartbeats 1000000
/-! what stands, as data -/
namespace Lo
open PySem L2
/-- a list of changes: a tuple of pairs -/
def ChAt (K : PySem.W.Frag) (H : Hp) (ch : List Pa) (v : V) : Prop := ∃ d us, v = .ref d ∧ SqU K H d us ∧ Paired (cPa.rp K H) ch us
theorem ChAt.keep {K : PySem.W.Frag} {H H' : Hp} {ch : List Pa} {v : V} (e : TSame H H') (h : ChAt K H ch v) : ChAt K H' ch v := by
  obtain ⟨d, us, rfl, h1, h2⟩ := h
  exact ⟨d, us, rfl, h1.keep e, pp h2 fun _ _ z => cPa.keep e z⟩
/-- a row -/
inductive Rw where
  | beg (p : Pa) (t : Str) | work (p : Pa) | ready (p : Pa) (ch : List Pa) | fin (p : Pa) (o : Str) | over (p : Pa)
  | walk (p : Pa) (i : Int) (ch : List Pa) | undo (p : Pa) (i : Int) (ch : List Pa) | void (p : Pa) (i : Int)
def Rw.nm : Rw → Pa
  | .beg p _ => p
  | .work p => p
  | .ready p _ => p
  | .fin p _ => p
  | .over p => p
  | .walk p _ _ => p
  | .undo p _ _ => p
  | .void p _ => p
def Rw.wd : Rw → Str
  | .beg _ _ => "begin"
  | .work _ => "work"
  | .ready _ _ => "ready"
  | .fin _ _ => "end"
  | .over _ => "over"
  | .walk _ _ _ => "walked"
  | .undo _ _ _ => "undone"
  | .void _ _ => "void"
/-- what lies behind the word and the name -/
def Rw.more (K : PySem.W.Frag) (H : Hp) : Rw → List V → Prop
  | .beg _ t, us => us = [.str t]
  | .work _, us => us = []
  | .ready _ ch, us => ∃ a b d, us = [a, b, d] ∧ ChAt K H ch d
  | .fin _ o, us => ∃ a, us = [.str o, a]
  | .over _, us => us = []
  | .walk _ i ch, us => ∃ c h, us = [.int i, c, h] ∧ ChAt K H ch c
  | .undo _ i ch, us => ∃ c, us = [.int i, c] ∧ ChAt K H ch c
  | .void _ i, us => us = [.int i]
def RwAt (K : PySem.W.Frag) (H : Hp) (w : Rw) (r : Addr) : Prop := ∃ pv us, H r = some (.tup (.str w.wd :: pv :: us)) ∧ sPa K H w.nm pv ∧ w.more K H us
theorem RwAt.keep {K : PySem.W.Frag} {H H' : Hp} {w : Rw} {r : Addr} (e : TSame H H') (h : RwAt K H w r) : RwAt K H' w r := by
  obtain ⟨pv, us, h1, h2, h3⟩ := h
  refine ⟨pv, us, e _ _ h1, h2.keep e, ?_⟩
  cases w with
  | beg p t => exact h3
  | work p => exact h3
  | ready p ch => obtain ⟨a, b, d, e1, e2⟩ := h3; exact ⟨a, b, d, e1, e2.keep e⟩
  | fin p o => exact h3
  | over p => exact h3
  | walk p i ch => obtain ⟨a, b, e1, e2⟩ := h3; exact ⟨a, b, e1, e2.keep e⟩
  | undo p i ch => obtain ⟨a, e1, e2⟩ := h3; exact ⟨a, e1, e2.keep e⟩
  | void p i => exact h3
/-- what the rows so far tell -/
structure Sd where
  cells : List Int
  begins : List (Pa × Str)
  worked : List Pa
  ready : List (Pa × Addr × List Pa)
  ends : List (Pa × Str)
  walks : List NEnt
  overs : List Pa
def Sd.new (cs : List Int) : Sd := ⟨cs, [], [], [], [], [], []⟩
def dW (ps : List Pa) : List (List Key × V) := ps.map fun p => (pk p, V.bl true)
def dR (rs : List (Pa × Addr × List Pa)) : List (List Key × V) := rs.map fun x => (pk x.1, V.ref x.2.1)
def dE (es : List (Pa × Str)) : List (List Key × V) := es.map fun x => (pk x.1, V.str x.2)
theorem val_map {α : Type} (xs : List α) (k : α → Pa) (f : α → V) (p : Pa) : valV (xs.map fun x => (pk (k x), f x)) (pk p) = (xs.find? fun x => decide (k x = p)).map f := by
  induction xs with
  | nil => rfl
  | cons x r ih =>
    rw [List.map_cons]
    by_cases h : k x = p
    · rw [valV_pos (by rw [h]), List.find?_cons, decide_eq_true h]
      rfl
    · rw [valV_neg (fun z => h (pk_inj z)), ih, List.find?_cons, decide_eq_false h]
def addP (ps : List Pa) (p : Pa) : List Pa := if p ∈ ps then ps else ps ++ [p]
theorem find_mem (ps : List Pa) (p : Pa) : (ps.find? fun x => decide (x = p)) = if p ∈ ps then some p else none := by
  by_cases h : p ∈ ps
  · rw [if_pos h]
    cases e : ps.find? fun x => decide (x = p) with
    | none => exact absurd (decide_eq_true rfl) (List.find?_eq_none.mp e p h)
    | some y =>
      have : y = p := by simpa using List.find?_some e
      rw [this]
  · rw [if_neg h, List.find?_eq_none]
    intro x hx c
    exact h ((of_decide_eq_true c) ▸ hx)
theorem val_dW (ps : List Pa) (p : Pa) : valV (dW ps) (pk p) = if p ∈ ps then some (.bl true) else none := by
  unfold dW
  rw [val_map ps (fun p => p) (fun _ => V.bl true) p, find_mem]
  split <;> rfl
theorem put_dW (ps : List Pa) (p : Pa) : putK (dW ps) (pk p) (.bl true) = dW (addP ps p) := by
  unfold addP
  by_cases h : p ∈ ps
  · rw [if_pos h]
    unfold putK
    rw [valV_any, val_dW, if_pos h, if_pos (show (some (V.bl true)).isSome = true from rfl)]
    unfold dW
    rw [List.map_map]
    refine List.map_congr_left fun x _ => ?_
    show (if pk x = pk p then (pk x, V.bl true) else (pk x, V.bl true)) = _
    rw [ite_self]
  · rw [if_neg h, putK_new _ (by rw [val_dW, if_neg h])]
    unfold dW
    rw [List.map_append]
    rfl
def rdOf (rs : List (Pa × Addr × List Pa)) (p : Pa) : Option (Pa × Addr × List Pa) := rs.find? fun x => decide (x.1 = p)
theorem val_dR (rs : List (Pa × Addr × List Pa)) (p : Pa) : valV (dR rs) (pk p) = (rdOf rs p).map fun x => V.ref x.2.1 := val_map rs (fun x => x.1) (fun x => V.ref x.2.1) p
theorem put_dR (rs : List (Pa × Addr × List Pa)) (p : Pa) (r : Addr) (ch : List Pa) (h : rdOf rs p = none) : putK (dR rs) (pk p) (.ref r) = dR (rs ++ [(p, r, ch)]) := by
  rw [putK_new _ (by rw [val_dR, h]; rfl)]
  unfold dR
  rw [List.map_append]
  rfl
def endOf (es : List (Pa × Str)) (p : Pa) : Option Str := (es.find? fun x => decide (x.1 = p)).map (·.2)
theorem val_dE (es : List (Pa × Str)) (p : Pa) : valV (dE es) (pk p) = (endOf es p).map V.str := by
  unfold dE endOf
  rw [val_map es (fun x => x.1) (fun x => V.str x.2) p, Option.map_map]
  rfl
def setE (es : List (Pa × Str)) (p : Pa) (o : Str) : List (Pa × Str) := if (endOf es p).isSome = true then es else es ++ [(p, o)]
/-- the cells behind changes -/
def apply (cs : List Int) (ch : List Pa) : List Int := ch.foldl (fun cs c => cs.set c.1.toNat c.2) cs
theorem apply_len (ch : List Pa) : ∀ cs : List Int, (apply cs ch).length = cs.length := by
  induction ch with
  | nil => intro cs; rfl
  | cons c r ih =>
    intro cs
    show (apply (cs.set c.1.toNat c.2) r).length = cs.length
    rw [ih, List.length_set]
theorem apply_snoc (cs : List Int) (ch : List Pa) (c : Pa) : apply cs (ch ++ [c]) = (apply cs ch).set c.1.toNat c.2 := by
  unfold apply
  rw [List.foldl_append]
  rfl
/-- the changes of a row -/
def Sd.chs (d : Sd) : Rw → List Pa
  | .fin p o => if o = "done" then ((rdOf d.ready p).map fun x => x.2.2).getD [] else []
  | .walk _ _ ch => ch
  | .undo _ _ ch => ch
  | _ => []
def Sd.keep (d : Sd) (r b : Addr) (w : Rw) : Sd :=
  let cs := apply d.cells (d.chs w)
  match w with
  | .beg p t => { d with cells := cs, begins := d.begins ++ [(p, t)] }
  | .work p => { d with cells := cs, worked := addP d.worked p }
  | .ready p ch => { d with cells := cs, ready := d.ready ++ [(p, r, ch)] }
  | .fin p o => { d with cells := cs, ends := setE d.ends p o }
  | .over p => { d with cells := cs, overs := addP d.overs p }
  | .walk p i _ => { d with cells := cs, walks := nput d.walks (p, i) b r }
  | .undo p i _ => { d with cells := cs, walks := nput d.walks (p, i) b r }
  | .void p i => { d with cells := cs, walks := nput d.walks (p, i) b r }
/-- the row may be kept -/
def Sd.fits (d : Sd) (w : Rw) : Prop := (∀ c ∈ d.chs w, 0 ≤ c.1 ∧ c.1 < d.cells.length) ∧ ∀ p ch, w = .ready p ch → rdOf d.ready p = none
/-- all is small -/
structure Sd.Small (d : Sd) (n : Nat) : Prop where
  bg : d.begins.length ≤ n
  wk : d.worked.length ≤ n
  rd : d.ready.length ≤ n
  en : d.ends.length ≤ n
  wa : d.walks.length ≤ n
  ov : d.overs.length ≤ n
theorem addP_len (ps : List Pa) (p : Pa) : (addP ps p).length ≤ ps.length + 1 := by
  unfold addP
  split
  · omega
  · rw [List.length_append]; exact Nat.le_refl _
theorem setE_len (ps : List (Pa × Str)) (p : Pa) (o : Str) : (setE ps p o).length ≤ ps.length + 1 := by
  unfold setE
  split
  · omega
  · rw [List.length_append]; exact Nat.le_refl _
theorem Sd.Small.keep {d : Sd} {n : Nat} (r b : Addr) (w : Rw) (h : d.Small n) : (d.keep r b w).Small (n + 1) := by
  obtain ⟨h1, h2, h3, h4, h5, h6⟩ := h
  have a1 := fun p => addP_len d.worked p
  have a2 := fun p => addP_len d.overs p
  have a3 := fun p o => setE_len d.ends p o
  have a4 := fun k => nput_len d.walks k b r
  cases w with
  | beg p t => exact ⟨by show (d.begins ++ [(p, t)]).length ≤ n + 1; rw [List.length_append]; show d.begins.length + 1 ≤ n + 1; omega, Nat.le_succ_of_le h2, Nat.le_succ_of_le h3, Nat.le_succ_of_le h4, Nat.le_succ_of_le h5, Nat.le_succ_of_le h6⟩
  | work p => exact ⟨Nat.le_succ_of_le h1, Nat.le_trans (a1 p) (by omega), Nat.le_succ_of_le h3, Nat.le_succ_of_le h4, Nat.le_succ_of_le h5, Nat.le_succ_of_le h6⟩
  | ready p ch => exact ⟨Nat.le_succ_of_le h1, Nat.le_succ_of_le h2, by show (d.ready ++ [(p, r, ch)]).length ≤ n + 1; rw [List.length_append]; show d.ready.length + 1 ≤ n + 1; omega, Nat.le_succ_of_le h4, Nat.le_succ_of_le h5, Nat.le_succ_of_le h6⟩
  | fin p o => exact ⟨Nat.le_succ_of_le h1, Nat.le_succ_of_le h2, Nat.le_succ_of_le h3, Nat.le_trans (a3 p o) (by omega), Nat.le_succ_of_le h5, Nat.le_succ_of_le h6⟩
  | over p => exact ⟨Nat.le_succ_of_le h1, Nat.le_succ_of_le h2, Nat.le_succ_of_le h3, Nat.le_succ_of_le h4, Nat.le_succ_of_le h5, Nat.le_trans (a2 p) (by omega)⟩
  | walk p i ch => exact ⟨Nat.le_succ_of_le h1, Nat.le_succ_of_le h2, Nat.le_succ_of_le h3, Nat.le_succ_of_le h4, Nat.le_trans (a4 (p, i)) (by omega), Nat.le_succ_of_le h6⟩
  | undo p i ch => exact ⟨Nat.le_succ_of_le h1, Nat.le_succ_of_le h2, Nat.le_succ_of_le h3, Nat.le_succ_of_le h4, Nat.le_trans (a4 (p, i)) (by omega), Nat.le_succ_of_le h6⟩
  | void p i => exact ⟨Nat.le_succ_of_le h1, Nat.le_succ_of_le h2, Nat.le_succ_of_le h3, Nat.le_succ_of_le h4, Nat.le_trans (a4 (p, i)) (by omega), Nat.le_succ_of_le h6⟩
theorem keep_cells (d : Sd) (r b : Addr) (w : Rw) : (d.keep r b w).cells = apply d.cells (d.chs w) := by cases w <;> rfl
/-! ### in the heap -/
/-- where the parts lie -/
structure Ad where
  (l dx cl bg wk rd en wa ov : Addr)
def Ad.own (A : Ad) : List Addr := [A.cl, A.bg, A.wk, A.rd, A.en, A.wa, A.ov]
def sf (A : Ad) : List (Str × V) := putF "overs" (.ref A.ov) (putF "walks" (.ref A.wa) (putF "ends" (.ref A.en) (putF "readies" (.ref A.rd) (putF "worked" (.ref A.wk) (putF "begins" (.ref A.bg) (putF "cells" (.ref A.cl) []))))))
theorem sf_ov (A : Ad) : (sf A).lookup ("overs" : Str) = some (.ref A.ov) := by
  unfold sf
  rw [lookup_putF, if_pos rfl]
theorem sf_wa (A : Ad) : (sf A).lookup ("walks" : Str) = some (.ref A.wa) := by
  unfold sf
  rw [lookup_putF, if_neg (by decide +kernel), lookup_putF, if_pos rfl]
theorem sf_en (A : Ad) : (sf A).lookup ("ends" : Str) = some (.ref A.en) := by
  unfold sf
  rw [lookup_putF, if_neg (by decide +kernel), lookup_putF, if_neg (by decide +kernel), lookup_putF, if_pos rfl]
theorem sf_rd (A : Ad) : (sf A).lookup ("readies" : Str) = some (.ref A.rd) := by
  unfold sf
  rw [lookup_putF, if_neg (by decide +kernel), lookup_putF, if_neg (by decide +kernel), lookup_putF, if_neg (by decide +kernel), lookup_putF, if_pos rfl]
theorem sf_wk (A : Ad) : (sf A).lookup ("worked" : Str) = some (.ref A.wk) := by
  unfold sf
  rw [lookup_putF, if_neg (by decide +kernel), lookup_putF, if_neg (by decide +kernel), lookup_putF, if_neg (by decide +kernel), lookup_putF, if_neg (by decide +kernel), lookup_putF, if_pos rfl]
theorem sf_bg (A : Ad) : (sf A).lookup ("begins" : Str) = some (.ref A.bg) := by
  unfold sf
  rw [lookup_putF, if_neg (by decide +kernel), lookup_putF, if_neg (by decide +kernel), lookup_putF, if_neg (by decide +kernel), lookup_putF, if_neg (by decide +kernel), lookup_putF, if_neg (by decide +kernel), lookup_putF, if_pos rfl]
theorem sf_cl (A : Ad) : (sf A).lookup ("cells" : Str) = some (.ref A.cl) := by
  unfold sf
  rw [lookup_putF, if_neg (by decide +kernel), lookup_putF, if_neg (by decide +kernel), lookup_putF, if_neg (by decide +kernel), lookup_putF, if_neg (by decide +kernel), lookup_putF, if_neg (by decide +kernel), lookup_putF, if_neg (by decide +kernel), lookup_putF, if_pos rfl]
theorem sf_no {A : Ad} {m : Str} (h : decide (m ∈ (["overs", "walks", "ends", "readies", "worked", "begins", "cells"] : List Str)) = false) : (sf A).lookup m = none := by
  have h' : m ∉ (["overs", "walks", "ends", "readies", "worked", "begins", "cells"] : List Str) := of_decide_eq_false h
  simp only [List.mem_cons, List.not_mem_nil, or_false, not_or] at h'
  obtain ⟨h1, h2, h3, h4, h5, h6, h7⟩ := h'
  unfold sf
  rw [lookup_putF, if_neg h1, lookup_putF, if_neg h2, lookup_putF, if_neg h3, lookup_putF, if_neg h4, lookup_putF, if_neg h5, lookup_putF, if_neg h6, lookup_putF, if_neg h7]
  rfl
def cPS : Cod (Pa × Str) := cT2 cPa cStr
def conts (A : Ad) (us : List V) (d : Sd) : List (Addr × HO) := [(A.cl, .lst (d.cells.map V.int)), (A.bg, .lst us), (A.wk, .dT (dW d.worked)), (A.rd, .dT (dR d.ready)), (A.en, .dT (dE d.ends)), (A.wa, NDt A.wa d.walks), (A.ov, .dT (dW d.overs))]
structure StU (CS : Addr) (K : PySem.W.Frag) (H : Hp) (A : Ad) (d : Sd) (us : List V) : Prop where
  ins : H A.l = some (.ins CS A.dx (sf A))
  co : ∀ x ∈ conts A us d, H x.1 = some x.2
  bg : Paired (cPS.rp K H) d.begins us
  rd : ∀ x ∈ d.ready, RwAt K H (.ready x.1 x.2.2) x.2.1
  wa : NOk H d.walks
  nd : A.own.Nodup
def St (CS : Addr) (K : PySem.W.Frag) (H : Hp) (A : Ad) (d : Sd) : Prop := ∃ us, StU CS K H A d us
def KpS (A : Ad) (H H' : Hp) : Prop := ∀ b o, b ∉ A.own → H b = some o → H' b = some o
theorem KpS.of {A : Ad} {H H' : Hp} (h : Same H H') : KpS A H H' := fun b o _ e => h b o e
theorem KpS.trans {A : Ad} {H H1 H2 : Hp} (a : KpS A H H1) (b : KpS A H1 H2) : KpS A H H2 := fun c o n e => b c o n (a c o n e)
theorem kps_upd {A : Ad} {H : Hp} {a : Addr} {o : HO} (h : a ∈ A.own) : KpS A H (upd H a o) := fun b u n e => by
  rw [upd_ne (fun (z : b = a) => n (by rw [z]; exact h))]
  exact e
section
variable {CS : Addr} {K : PySem.W.Frag} {H H' : Hp} {A : Ad} {d : Sd} {us : List V}
theorem StU.cl (h : StU CS K H A d us) : H A.cl = some (.lst (d.cells.map V.int)) := h.co (A.cl, _) (by simp [conts])
theorem StU.bgl (h : StU CS K H A d us) : H A.bg = some (.lst us) := h.co (A.bg, _) (by simp [conts])
theorem StU.wk (h : StU CS K H A d us) : H A.wk = some (.dT (dW d.worked)) := h.co (A.wk, _) (by simp [conts])
theorem StU.rdd (h : StU CS K H A d us) : H A.rd = some (.dT (dR d.ready)) := h.co (A.rd, _) (by simp [conts])
theorem StU.en (h : StU CS K H A d us) : H A.en = some (.dT (dE d.ends)) := h.co (A.en, _) (by simp [conts])
theorem StU.wad (h : StU CS K H A d us) : H A.wa = some (NDt A.wa d.walks) := h.co (A.wa, NDt A.wa d.walks) (by unfold conts; exact List.mem_cons_of_mem _ (List.mem_cons_of_mem _ (List.mem_cons_of_mem _ (List.mem_cons_of_mem _ (List.mem_cons_of_mem _ List.mem_cons_self)))))
theorem StU.ov (h : StU CS K H A d us) : H A.ov = some (.dT (dW d.overs)) := h.co (A.ov, _) (by simp [conts])
theorem StU.own (h : StU CS K H A d us) {b : Addr} (hb : b ∈ A.own) : ∃ o, H b = some o ∧ (∀ xs, o ≠ .tup xs) ∧ (∀ C dx fs, o ≠ .ins C dx fs) := by
  have hb' : b ∈ (conts A us d).map (·.1) := hb
  obtain ⟨x, hx, rfl⟩ := List.mem_map.mp hb'
  refine ⟨_, h.co x hx, fun xs => ?_, fun C dx fs => ?_⟩
  · simp only [conts, List.mem_cons, List.not_mem_nil, or_false] at hx
    rcases hx with e | e | e | e | e | e | e <;> subst e <;> exact fun z => nomatch z
  · simp only [conts, List.mem_cons, List.not_mem_nil, or_false] at hx
    rcases hx with e | e | e | e | e | e | e <;> subst e <;> exact fun z => nomatch z
theorem StU.ts (h : StU CS K H A d us) (k : KpS A H H') : TSame H H' := fun b xs e => k b _ (fun hb => by
  obtain ⟨o, e1, n, _⟩ := h.own hb
  rw [e] at e1
  exact n xs (Option.some.inj e1).symm) e
theorem StU.nl (h : StU CS K H A d us) : A.l ∉ A.own := fun hb => by
  obtain ⟨o, e1, _, n⟩ := h.own hb
  rw [h.ins] at e1
  exact n _ _ _ (Option.some.inj e1).symm
theorem StU.keep (h : StU CS K H A d us) (e : Same H H') : StU CS K H' A d us :=
  ⟨e _ _ h.ins, fun x hx => e _ _ (h.co x hx), pp h.bg fun _ _ z => cPS.keep e.ts z, fun x hx => (h.rd x hx).keep e.ts, h.wa.keep e.ts, h.nd⟩
theorem St.keep (h : St CS K H A d) (e : Same H H') : St CS K H' A d := let ⟨us, q⟩ := h; ⟨us, q.keep e⟩
theorem St.ts (h : St CS K H A d) (k : KpS A H H') : TSame H H' := let ⟨_, q⟩ := h; q.ts k
theorem St.ins (h : St CS K H A d) : H A.l = some (.ins CS A.dx (sf A)) := let ⟨_, q⟩ := h; q.ins
theorem own_set {own : List (Addr × HO)} (nd : (own.map (·.1)).Nodup) (h : ∀ x ∈ own, H x.1 = some x.2) {i : Nat} {a : Addr} {o o' : HO} (hi : own[i]? = some (a, o)) : ∀ x ∈ own.set i (a, o'), upd H a o' x.1 = some x.2 := by
  intro x hx
  obtain ⟨j, hj⟩ := List.mem_iff_getElem?.mp hx
  rw [List.getElem?_set] at hj
  by_cases e : i = j
  · rw [if_pos e] at hj
    split at hj
    · cases hj
      exact upd_same
    · cases hj
  · rw [if_neg e] at hj
    have hm := List.mem_of_getElem? hj
    have ne : x.1 ≠ a := fun z => e (by
      have e1 : (own.map (·.1))[i]? = some a := by rw [List.getElem?_map, hi]; rfl
      have e2 : (own.map (·.1))[j]? = some a := by rw [List.getElem?_map, hj]; show some x.1 = some a; rw [z]
      exact (List.getElem?_inj (List.getElem?_eq_some_iff.mp e1).1 nd).mp (e1.trans e2.symm))
    rw [upd_ne ne]
    exact h x hm
theorem StU.put (h : StU CS K H A d us) (i : Nat) {a : Addr} {o o' : HO} {d' : Sd} {us' : List V} (hi : (conts A us d)[i]? = some (a, o)) (hc : (conts A us d).set i (a, o') = conts A us' d') (hb : Paired (cPS.rp K H) d'.begins us')
    (hr : ∀ x ∈ d'.ready, RwAt K H (.ready x.1 x.2.2) x.2.1) (hw : NOk H d'.walks) : StU CS K (upd H a o') A d' us' ∧ KpS A H (upd H a o') := by
  have ha : a ∈ A.own := by
    have : a ∈ (conts A us d).map (·.1) := List.mem_map.mpr ⟨_, List.mem_of_getElem? hi, rfl⟩
    exact this
  have k : KpS A H (upd H a o') := kps_upd ha
  have t := h.ts k
  refine ⟨⟨k _ _ h.nl h.ins, ?_, pp hb fun _ _ z => cPS.keep t z, fun x hx => (hr x hx).keep t, hw.keep t, h.nd⟩, k⟩
  rw [← hc]
  exact own_set (own := conts A us d) h.nd h.co hi
end
/-- what the top gives of the class -/
structure TxD (K : PySem.W.Frag) (CS : Addr) : Prop where
  cl : Cls K CS
  nc : NoAttr K CS "cells"
  nb : NoAttr K CS "begins"
  nw : NoAttr K CS "worked"
  nr : NoAttr K CS "readies"
  ne : NoAttr K CS "ends"
  na : NoAttr K CS "walks"
  no : NoAttr K CS "overs"
section
variable (CS : Addr) (K : PySem.W.Frag)
def spSInit : Sp := fun vs H Q _ => ∃ l dx c cs, vs = [.ref l, .ref c] ∧ H l = some (.ins CS dx []) ∧ H c = some (.lst ((cs : List Int).map V.int)) ∧ cs.length ≤ 1000 ∧
  ∀ A H', A.l = l → St CS K H' A (Sd.new cs) → (∀ b ∈ A.own, H b = none) → Kp l H H' → Q .non H'
def spChg : Sp := fun vs H Q _ => ∃ A d r w, vs = [.ref A.l, .ref r] ∧ St CS K H A d ∧ RwAt K H w r ∧ ∀ v H', Same H H' → ChAt K H' (d.chs w) v → Q v H'
def spKeep : Sp := fun vs H Q _ => ∃ A d r w, vs = [.ref A.l, .ref r] ∧ St CS K H A d ∧ RwAt K H w r ∧ d.Small 900 ∧ d.cells.length ≤ 900 ∧ d.fits w ∧
  ∀ b H', St CS K H' A (d.keep r b w) → KpS A H H' → Q .non H'
def spCellAt : Sp := fun vs H Q _ => ∃ A d j c, vs = [.ref A.l, .int (j : Nat)] ∧ St CS K H A d ∧ d.cells[j]? = some c ∧ Q (.int c) H
def spCells : Sp := fun vs H Q _ => ∃ A d, vs = [.ref A.l] ∧ St CS K H A d ∧ ∀ p H', Same H H' → H p = none → H' p = some (.lst (d.cells.map V.int)) → Q (.ref p) H'
def spWAt : Sp := fun vs H Q _ => ∃ A d v p i, vs = [.ref A.l, v, .int i] ∧ St CS K H A d ∧ sPa K H p v ∧ ∀ H', Same H H' → Q (ov (nget d.walks (p, i))) H'
def spOver : Sp := fun vs H Q _ => ∃ A d v p, vs = [.ref A.l, v] ∧ St CS K H A d ∧ sPa K H p v ∧ ∀ H', Same H H' → Q (.bl (decide (p ∈ d.overs))) H'
end
theorem Sd.Small.mono {d : Sd} {n m : Nat} (h : d.Small n) (le : n ≤ m) : d.Small m := ⟨Nat.le_trans h.bg le, Nat.le_trans h.wk le, Nat.le_trans h.rd le, Nat.le_trans h.en le, Nat.le_trans h.wa le, Nat.le_trans h.ov le⟩
theorem St.kp {CS q : Addr} {K : PySem.W.Frag} {H H' : Hp} {A : Ad} {d : Sd} (h : St CS K H A d) (k : Kp q H H') (n : q ∉ A.own) (t : TSame H H') (nl : A.l ≠ q) : St CS K H' A d := by
  obtain ⟨us, h⟩ := h
  refine ⟨us, k _ _ nl h.ins, fun x hx => k _ _ (fun z => n ?_) (h.co x hx), pp h.bg fun _ _ z => cPS.keep t z, fun x hx => (h.rd x hx).keep t, h.wa.keep t, h.nd⟩
  rw [← z]
  exact List.mem_map.mpr ⟨x, hx, rfl⟩
/-- the script's list, apart from N -/
def Scr (K : PySem.W.Frag) (H : Hp) (a : Addr) (xs : List V) (N : List Addr) : Prop := (∀ H', SqL K H' a xs) ∨ ∃ o, H a = some o ∧ a ∉ N ∧ ∀ H', H' a = some o → SqL K H' a xs
section
variable {K : PySem.W.Frag} {H H' : Hp} {a q : Addr} {xs : List V} {N : List Addr}
theorem Scr.seq (h : Scr K H a xs N) : SqL K H a xs := h.elim (fun z => z H) fun ⟨_, e, _, z⟩ => z H e
theorem Scr.mk (h : SqL K H a xs) (hN : ∀ b ∈ N, H b = none) : Scr K H a xs N := by
  rcases h with (h | ⟨o, h⟩) | h
  · exact .inr ⟨_, h, (fun z => by rw [hN a z] at h; cases h), fun H' e => .inl (.inl e)⟩
  · exact .inr ⟨_, h, (fun z => by rw [hN a z] at h; cases h), fun H' e => .inl (.inr ⟨o, e⟩)⟩
  · exact .inl fun H' => .inr h
theorem Scr.kp (h : Scr K H a xs N) (k : ∀ b o, b ∉ N → H b = some o → H' b = some o) : Scr K H' a xs N := h.elim .inl fun ⟨o, e, n, z⟩ => .inr ⟨o, k _ _ n e, n, z⟩
theorem Scr.less (h : Scr K H a xs (q :: N)) : Scr K H a xs N := h.elim .inl fun ⟨o, e, n, z⟩ => .inr ⟨o, e, fun w => n (List.mem_cons_of_mem _ w), z⟩
end
theorem ints_pd {K : PySem.W.Frag} {H : Hp} : ∀ xs : List Int, Paired (cInt.rp K H) xs (xs.map V.int)
  | [] => .nil
  | _ :: xs => .cons rfl (ints_pd xs)
theorem ints_ls {K : PySem.W.Frag} {H : Hp} {p : Addr} {xs : List Int} (h : H p = some (.lst (xs.map V.int))) : LsOf cInt K H xs (.ref p) := ⟨p, _, rfl, SqL.of h, ints_pd xs⟩
theorem fewF {f : Str} {v : V} {fs : List (Str × V)} {n : Nat} (h : fs.length < n) : (putF f v fs).length < n + 1 := by
  have := length_putF f v fs
  omega
theorem fld_new {H : Hp} {l p dx C : Addr} {fs fs' : List (Str × V)} {o : HO} (hl : H l = some (.ins C dx fs)) (hp : H p = none) :
    (upd H p o) l = some (.ins C dx fs) ∧ (upd (upd H p o) l (.ins C dx fs')) l = some (.ins C dx fs') ∧ (upd (upd H p o) l (.ins C dx fs')) p = some o ∧ Kp l H (upd (upd H p o) l (.ins C dx fs')) := by
  have n : l ≠ p := ne_of_none hl hp
  exact ⟨by rw [upd_ne n]; exact hl, upd_same, by rw [upd_ne (Ne.symm n), upd_same], fun b u hb e => by rw [upd_ne hb, upd_ne (ne_of_none e hp)]; exact e⟩
theorem none_back {H H' : Hp} {l b : Addr} {o : HO} (k : Kp l H H') (hl : H' l = some o) (hb : H' b = none) : H b = none := by
  cases e : H b with
  | none => rfl
  | some u =>
    have n : b ≠ l := fun z => by rw [z, hl] at hb; cases hb
    rw [k b u n e] at hb
    cases hb
theorem hun1 {k : Nat} {A : Around} (hr : Room k A) : A.units + 1 < cLine := hun (c := 0) hr
theorem hun2 {k : Nat} {A : Around} (hr : Room k A) : A.units + 2 < cLine := hun (c := 1) hr
theorem ixN_in {n : Nat} {i : Int} (h0 : 0 ≤ i) (h1 : i < n) : ixN n i = some i.toNat := by
  unfold ixN
  rw [if_pos h0, if_pos h1]
theorem at0 {x : V} {us : List V} : atI (x :: us) (0 : Int) = some x := atI_nat (j := 0) rfl
theorem at1 {x y : V} {us : List V} : atI (x :: y :: us) (1 : Int) = some y := atI_nat (j := 1) rfl
theorem at2 {x y z : V} {us : List V} : atI (x :: y :: z :: us) (2 : Int) = some z := atI_nat (j := 2) rfl
end Lo

/-! a list made by walking, stored at once in a local name -/
namespace L2
open PySem PySem.Spec PyProof.Rows
set_option maxHeartbeats 1600000 in
theorem ps_lcset {X : Cx} {iy : Nat} {y : Str} {py spos : Pos} {elt iter : Expr} {x : Str} {px : Pos} {ifs : List Expr} {scope : Scope} {pos : Pos} {N' : List Str} {fv : List Nat} {wi : TI} {tt : TT} {te : TE}
    (S : BlkScope X.N X.env.scope scope x N' fv) (hc : X.calm = true) (hi : PI X (.Name x px) iter wi)
    (ht : ∀ C fp s H, PTs (X.blk N' scope C fp s H) ifs tt) (he : ∀ C fp s H, PE (X.blk N' scope C fp s H) elt te)
    (hN : X.N.Nodup) (hiy : X.N[iy]? = some y) (hxl : Loc X.env.scope y) (hsw : swapsWith (.ListComp elt [⟨.Name x px, iter, ifs, 0⟩] scope pos) (some (.Name y py)) spos.line X.env = pure true := by rfl)
    (hs : ∀ x, foldedSetIterable iter X.env x = pure x := by intro _; rfl) (hf : X.fn y = true ∨ X.env.scope.names.lookup y = some .local := by first | exact .inl rfl | exact .inr rfl | assumption) :
    PS X (.Assign [.Name y py] (.ListComp elt [⟨.Name x px, iter, ifs, 0⟩] scope pos) spos) (tAsg (tLC wi fv tt te) (gName iy)) := by
  intro pins s σ H DE I h
  rw [exec_Assign_Name_used _ _ _ _ hsw]
  refine wpAny_bind (wpAny_standAt (wpAny_bind ?_))
  show wpAny _ X.A (do let _ ← comprehension (.ListComp elt [⟨.Name x px, iter, ifs, 0⟩] scope pos) scope X.env _ (newList []) false (eval iter X.env) (some (assign (.Name y py) X.env))) _ _ s
  refine wpAny_bind (wpAny_mono (wpAny_comprehension_free (use := some (assign (.Name y py) X.env)) (Q := fun _ s' => SP X pins DE .next s') rfl hs (closureFor_free fun y hy hk => I.ok.has y.1 (S.free y hy hk)) S.kind S.names
    (wpAny_mono (hi pins s σ H _ I h) (fun xv s1 h1 => wpAny_mono h1 (fun itv s2 h2 => ?_) fun _ _ e => e) fun _ _ e => e)) (fun _ s' hq => wpAny_pure (wpAny_pure hq)) fun _ _ e => e)
  obtain ⟨it, fp, tn, J, H2, rfl, I2, T, st2, f2, W, n, w0, hn, turn⟩ := h2
  refine wpAny_newObj_type (wpAny_newFunctionEnv S.nocell (by intro y hy; simp at hy) (fun h1 hns hsb => ?_) S.kind)
  dsimp only at hns hsb ⊢
  generalize hH : s2.heap.push { cls := .type "list", dict := none, data := .seq ([] : List Value).toArray } = G at hns hsb ⊢
  have hG : G.objs.size = s2.heap.objs.size + 1 := by rw [← hH, Heap.size_push]
  have kpG : ∀ b o, s2.heap.get? b = some o → G.get? b = some o := fun b o e => hH ▸ Heap.get?_push_of_some _ e
  have kp1 : ∀ b o, b < G.objs.size → G.get? b = some o → h1.get? b = some o := fun b o lt e => hsb.extBut b o (Nat.ne_of_lt lt) (Heap.get?_push_of_some _ e)
  have kp : ∀ b o, s2.heap.get? b = some o → h1.get? b = some o := fun b o e => kp1 b o (by rw [hG]; exact Nat.lt_succ_of_lt (Heap.lt_size e)) (kpG b o e)
  have hD : h1.PlainList s2.heap.objs.size #[] := ⟨_, kp1 _ _ (by rw [hG]; exact Nat.lt_succ_self _) (hH ▸ Heap.get?_push_size _ rfl)⟩
  have hDC : s2.heap.objs.size ≠ G.objs.size := by rw [hG]; exact Nat.ne_of_lt (Nat.lt_succ_self _)
  have hC : s2.heap.objs.size ≤ G.objs.size := by rw [hG]; exact Nat.le_succ _
  have hfo : ∀ b ∈ fp, b < s2.heap.objs.size := fun b hb => by obtain ⟨o, e, _⟩ := T.obj 0 _ st2 b hb; exact Heap.lt_size e
  -- what is true of the iterator's records in the block
  have stat : ∀ {H' : Hp} {pl : List (Addr × Obj)}, (∀ b ∈ fp, H' b = none) → (∀ p ∈ pl, p.1 ∉ fp) → ∀ b ∈ fp, FpOk (X.blk N' scope G.objs.size fp s2 H2) pl H' b := fun {H' pl} hn hpl b hb => by
    obtain ⟨_, g1, g2, g3, g4, g5⟩ := f2 b hb
    refine ⟨hn b hb, Nat.ne_of_lt (Nat.lt_of_lt_of_le (hfo b hb) hC), fun z => ?_, .inl hb, fun y c e => g4 y c (cloOf_lookup_sub e), fun p hp e => ?_⟩
    · rcases List.mem_cons.mp (I2.stkSub b z) with q | q
      · exact g1 q
      · exact g2 q
    · exact hpl p hp (e ▸ hb)
  have hDf : s2.heap.objs.size ∉ fp := fun z => absurd (hfo _ z) (Nat.lt_irrefl _)
  have hlc : (X.blk N' scope G.objs.size fp s2 H2).env.scope.names.lookup x = some .local := lookup_relabel_local S.loc
  have hcl : ∀ y c, (X.blk N' scope G.objs.size fp s2 H2).env.cells.lookup y = some c → c ≠ s2.heap.objs.size := fun y c e z => by
    obtain ⟨v, q⟩ := I2.cell y c (cloOf_lookup_sub e)
    exact absurd q.lt (by rw [z]; exact Nat.lt_irrefl _)
  have pin1 : ∀ {s' : Shared} {H' : Hp} {ob : Obj} {i : Nat} {ys : List V}, Inv (X.blk N' scope G.objs.size fp s2 H2) [] (none :: blkVals fv σ) H' s' → s'.heap.get? s2.heap.objs.size = some ob → (∀ v, ob.data ≠ .cell v) → H' s2.heap.objs.size = none →
      Inv (X.blk N' scope G.objs.size fp s2 H2) [(s2.heap.objs.size, ob)] (none :: blkVals fv σ) H' s' := fun {s' H' ob i ys} J1 e d f => J1.pins_of fun p hp => by
    have z : p = (s2.heap.objs.size, ob) := by simpa using hp
    subst z
    refine ⟨e, f, hDC, fun z => ?_, d⟩
    rcases List.mem_cons.mp (I2.stkSub _ z) with q | q
    · exact absurd I2.lt (by rw [← q]; exact Nat.lt_irrefl _)
    · exact I2.nofs (Nat.le_refl _) q
  have loop : ∀ s3 : Shared, s3 = { s2 with heap := h1, toks := s2.toks + ([] : List (Str × Value)).length } →
      codeAny (model X.prog X.w) X.A (.compLoop (.ListComp elt [⟨.Name x px, iter, ifs, 0⟩] scope pos) 0 (.ref it) (.ref s2.heap.objs.size) (X.blk N' scope G.objs.size fp s2 H2).env)
        (compPost (model X.prog X.w) X.A X.xe (some (assign (.Name y py) X.env)) (fun _ s' => SP X pins DE .next s') (.ref s2.heap.objs.size) G.objs.size) s3 := by
    rintro s3 rfl
    refine codeAny_compLoop_tests (fun k s' => ∃ i ys H' its, k = n + 1 - i ∧ i ≤ n ∧ ys.length ≤ i ∧ Vals ys its ∧ s'.heap.PlainList s2.heap.objs.size its.toArray ∧
      Inv (X.blk N' scope G.objs.size fp s2 H2) [] (none :: blkVals fv σ) H' s' ∧ H' s2.heap.objs.size = none ∧ tn i s'.heap ∧ (∀ b ∈ fp, H' b = none) ∧ W i ys H') ?_ (n + 1)
      ⟨0, [], H2, [], rfl, Nat.zero_le _, Nat.le_refl _, .nil, hD, blk_inv S I2 f2 hfo hC kp hns (fun p hp => nomatch hp), I2.hok.fresh (Nat.le_refl _), T.keep _ _ _ st2 fun b _ o e => kp b o e, fun b hb => (f2 b hb).1, w0⟩
    rintro k s4 ⟨i, ys, H4, its, rfl, hin, hyi, rv, pl4, I4, fD4, st4, ff4, w4⟩
    obtain ⟨cnt, eD⟩ := id pl4
    have I4p := pin1 (i := i) (ys := ys) I4 eD (fun v z => by cases z) fD4
    have np : ∀ p ∈ [(s2.heap.objs.size, ({ cls := .type "list", data := .seq its.toArray cnt } : Obj))], p.1 ∉ fp := fun p hp => by
      have z : p = (s2.heap.objs.size, ({ cls := .type "list", data := .seq its.toArray cnt } : Obj)) := by simpa using hp
      subst z; exact hDf
    rcases turn i ys H4 w4 with ⟨stop, fin⟩ | ⟨go, hi2, step⟩
    · refine wpAny_mono (T.done (X.blk N' scope G.objs.size fp s2 H2) rfl rfl rfl hc i _ s4 _ H4 _ I4p (stat ff4 np) st4 stop) (fun r s5 ⟨hr, I5⟩ => ?_) fun _ _ e => e
      subst hr
      obtain ⟨m5, hm5, _⟩ := I5.loc
      have eD5 : s5.heap.get? s2.heap.objs.size = some { cls := .type "list", data := .seq its.toArray cnt } := (I5.pin _ (List.mem_append_right _ List.mem_cons_self)).1
      have IF : Inv X pins σ (upd H4 s2.heap.objs.size (.lst ys)) s5 := by
        have sb : Heap.SameBut G.objs.size s5.heap s5.heap := ⟨rfl, fun _ _ => rfl⟩
        have ltC : ∀ {b : Addr} {o : Obj}, s2.heap.get? b = some o → b ≠ G.objs.size := fun {b o} e => Nat.ne_of_lt (Nat.lt_of_lt_of_le (Heap.lt_size e) hC)
        have fD2 : H2 s2.heap.objs.size = none := I2.hok.fresh (Nat.le_refl _)
        have ltD : ∀ {b : Addr} {o : Obj}, s2.heap.get? b = some o → b ≠ s2.heap.objs.size := fun {b o} e => Nat.ne_of_lt (Heap.lt_size e)
        have B := I5.base
        refine I2.call' (s' := s5) (ch := fp) I5.os ⟨fun b o e nb hb hx => ?_, fun b o e nb hb hx => ?_, fun b o e nb hx => ?_, fun b o e hx => ?_, fun b xs e => ?_, fun b o u e => ?_, fun b ps e => ?_⟩ ?_ I5.bare fun b hb => ?_
        · exact sb.extBut b o (ltC e) (B.keep b o e nb hb hx)
        · obtain ⟨sl, q⟩ := B.slot b o e nb hb hx
          exact ⟨sl, sb.extBut b _ (ltC e) q⟩
        · rw [upd_ne (ltD e)]; exact B.free b o e nb hx
        · obtain ⟨o', q⟩ := B.there b o e hx
          exact ⟨o', sb.extBut b o' (ltC e) q⟩
        · have e' : H2 b = some (.tup xs) := e
          rw [upd_ne (ne_of_none e' fD2)]; exact B.tups b xs e
        · have e' : H2 b = some (.frz o u) := e
          rw [upd_ne (ne_of_none e' fD2)]; exact B.frzs b o u e
        · have e' : H2 b = some (.tbl ps) := e
          rw [upd_ne (ne_of_none e' fD2)]; exact B.tbls b ps e
        · intro b u e
          by_cases hb : b = s2.heap.objs.size
          · subst hb
            rw [upd_same] at e
            cases e
            exact ⟨Nat.le_trans hyi (Nat.le_trans hin hn), its, cnt, rv, sb.extBut _ _ hDC eD5⟩
          · rw [upd_ne hb] at e
            have fC : H4 G.objs.size = none := I5.free
            refine (I5.hok b u e).stay (fun c v hc' q => sb.extBut c v ?_ q) (fun c q => by rw [upd_ne (ne_of_none q fD4)]; exact q) fun c xs q => by rw [upd_ne (ne_of_none q fD4)]; exact q
            rcases hc' with z | z
            · subst z; exact ne_of_none e fC
            · exact ne_of_none z fC
        · obtain ⟨_, g1, g2, g3, g4, g5⟩ := f2 b hb
          exact ⟨g3, g1, g4, g5⟩
      obtain ⟨f0, f1, f2', f3, f4, f5⟩ := I2.fpOk (H' := H2) hC (I2.hok.fresh hC)
      show wpAny _ _ (assign (.Name y py) X.env (.ref s2.heap.objs.size)) _ _ s5
      refine wpAny_assign_Name (store_ok2 IF hN hiy hxl (v := .ref s2.heap.objs.size) rfl (fun s6 I6 ⟨a6, sb6, ha6⟩ => ?_) hf)
      have nC : G.objs.size ≠ a6 := fun z => by
        rcases ha6 with e | e
        · exact f1 (z.trans e)
        · exact f4 _ _ e z.symm
      have fC : (upd H4 s2.heap.objs.size (.lst ys)) G.objs.size = none := by
        rw [upd_ne (Ne.symm hDC)]
        exact I5.free
      exact ⟨m5, hm5.sameBut sb6 nC, fun h' sb' => ⟨_, _, I6.turned (t' := s6.toks) (it := G.objs.size) (fun b o hb e => (sb'.2 b hb).trans e) fC f1 f3 f4 f5, fin _ fD4⟩⟩
    · refine wpAny_mono (T.item (X.blk N' scope G.objs.size fp s2 H2) rfl rfl rfl hc i _ s4 _ H4 _ I4p (stat ff4 np) st4 go) (fun r s5 ⟨u, hr, h5⟩ => ?_) fun _ _ e => e
      subst hr
      show wpAny _ _ (letOwnedTupleGo (.Name x px) (.ref it) u >>= fun _ => assign (.Name x px) (X.blk N' scope G.objs.size fp s2 H2).env u) _ _ s5
      refine wpAny_bind (wpAny_mono h5 (fun _ s6 ⟨xv, H6, I6, r6, y6, st6, ff6⟩ => ?_) fun _ _ e => e)
      have I6' := I6.pinned (stat ff6 np) (T.obj _ _ st6)
      have out : ∀ {σ' : St} {H' : Hp} {s' : Shared}, Inv (X.blk N' scope G.objs.size fp s2 H2) ([(s2.heap.objs.size, ({ cls := .type "list", data := .seq its.toArray cnt } : Obj))] ++ pinsAt fp s6.heap) σ' H' s' →
          s'.heap.PlainList s2.heap.objs.size its.toArray ∧ H' s2.heap.objs.size = none ∧ (∀ b ∈ fp, H' b = none) ∧ (∀ b ∈ fp, ∀ o, s6.heap.get? b = some o → s'.heap.get? b = some o) := fun {σ' H' s'} J1 => by
        have q := J1.pin (s2.heap.objs.size, ({ cls := .type "list", data := .seq its.toArray cnt } : Obj)) (List.mem_append_right _ (List.mem_append_left _ List.mem_cons_self))
        refine ⟨⟨cnt, q.1⟩, q.2.1, fun b hb => ?_, fun b hb o e => (J1.pin (b, o) (List.mem_append_right _ (List.mem_append_right _ (mem_pinsAt hb e)))).1⟩
        obtain ⟨o, e, d⟩ := T.obj _ _ st6 b hb
        exact (J1.pin (b, o) (List.mem_append_right _ (List.mem_append_right _ (mem_pinsAt hb e)))).2.1
      refine nox ((pg_name (X := X.blk N' scope G.objs.size fp s2 H2) (i := 0) S.nd S.hd (.inl hlc) (.inr hlc)) _ s6 _ H6 xv u (fun σ' H' => σ' = some xv :: blkVals fv σ ∧ H' = H6) I6' r6 ⟨rfl, rfl⟩) fun _ s7 ⟨σ7, H7, I7, e7, e7'⟩ => ?_
      subst e7 e7'
      refine nox (ht _ _ _ _ _ s7 _ H7 _ I7 (step xv H7 y6)) fun ok s8 ⟨H8, I8, q8⟩ => ?_
      cases ok with
      | false =>
        obtain ⟨o1, o2, o3, o4⟩ := out I8
        exact ⟨n + 1 - (i + 1), by omega, i + 1, ys, H8, its, rfl, hi2, Nat.le_succ_of_le hyi, rv, o1, (I8.pins_of (pins' := []) fun p hp => nomatch hp).weak (σ' := none :: blkVals fv σ) rfl (fun j v e => by
          cases j with
          | zero => cases (show (none : Option V) = some v from Option.some.inj e)
          | succ j => exact e), o2, T.keep _ _ _ st6 o4, o3, q8⟩
      | true =>
        refine nox (he _ _ _ _ _ s8 _ H8 _ I8 q8) fun yv s9 ⟨y, H9, I9, r9, q9⟩ => ?_
        obtain ⟨o1, o2, o3, o4⟩ := out I9
        have hlen := rv.length
        refine wpAny_list_append_plain (hsz := by rw [List.size_toArray, ← hlen]; exact Nat.le_trans hyi (Nat.le_trans hin hn)) o1 fun h' pl' sb' => ?_
        have I9' : Inv (X.blk N' scope G.objs.size fp s2 H2) [] (some xv :: blkVals fv σ) H9 { s9 with heap := h' } :=
          (I9.pins_of (pins' := []) fun p hp => nomatch hp).turned (t' := s9.toks) (it := s2.heap.objs.size) (fun b o hb e => sb'.extBut b o hb e) o2 hDC (.inr (Nat.le_refl _)) hcl (fun p hp => nomatch hp)
        refine ⟨n + 1 - (i + 1), by omega, i + 1, ys ++ [y], H9, its ++ [yv], rfl, hi2, by rw [List.length_append]; exact Nat.succ_le_succ hyi, rv.append (.cons r9 .nil), ?_, I9'.weak (σ' := none :: blkVals fv σ) rfl (fun j v e => by
          cases j with
          | zero => cases (show (none : Option V) = some v from Option.some.inj e)
          | succ j => exact e), o2, T.keep _ _ _ st6 fun b hb o e => sb'.extBut b o (fun z => hDf (z ▸ hb)) (o4 b hb o e), o3, q9⟩
        have e9 : (its ++ [yv]).toArray = its.toArray.push yv := by simp
        rw [e9]
        exact pl'
  exact codeAny_compStart_list (loop _ rfl) (T.self _ 0 _ _ _ (T.keep _ _ _ st2 fun b _ o e => kp b o e) (loop _ rfl))
end L2

set_option maxHeartbeats 1000000
/-! sorted, of pairs of a name and a text -/
namespace L2
open PySem PySem.Spec PyProof.Rows PySem.W
/-- a tree of questions that asks below n alone -/
inductive KAll (n : Nat) {α : Type} (P : α → Prop) : KasT α → Prop
  | ret {a : α} : P a → KAll n P (.ret a)
  | ask {i j : Nat} {k : Bool → KasT α} : i < n → j < n → (∀ b, KAll n P (k b)) → KAll n P (.ask i j k)
def runT {α : Type} (lt : Nat → Nat → Bool) : KasT α → α
  | .ret a => a
  | .ask i j k => runT lt (k (lt i j))
theorem KAll.bind {n : Nat} {α β : Type} {P : α → Prop} {R : β → Prop} {f : α → KasT β} : ∀ {t : KasT α}, KAll n P t → (∀ a, P a → KAll n R (f a)) → KAll n R (t.bind f)
  | _, .ret h, g => g _ h
  | _, .ask h1 h2 h3, g => .ask h1 h2 fun b => KAll.bind (h3 b) g
theorem KAll.wp {n : Nat} {α : Type} {P : α → Prop} {cmp : Nat → Nat → (Bool → Shared → Prop) → Shared → Prop} {lt : Nat → Nat → Bool} {s : Shared} (hc : ∀ i j (C : Bool → Shared → Prop), i < n → j < n → C (lt i j) s → cmp i j C s) {Q : α → Shared → Prop} :
    ∀ {t : KasT α}, KAll n P t → (P (runT lt t) → Q (runT lt t) s) → t.kasWp cmp Q s
  | _, .ret h, q => q h
  | _, .ask (i := i) (j := j) h1 h2 h3, q => hc i j _ h1 h2 (KAll.wp hc (h3 (lt i j)) q)
def InP (n : Nat) (p : Array Nat) : Prop := p.size = n ∧ ∀ x ∈ p, x < n
theorem InP.get {n : Nat} {p : Array Nat} (h : InP n p) (h0 : 0 < n) (i : Nat) : p.getD i 0 < n := by
  rw [Array.getD_eq_getD_getElem?]
  cases e : p[i]? with
  | none => exact h0
  | some x => exact h.2 x (Array.mem_of_getElem? e)
theorem InP.perm {n : Nat} {p q : Array Nat} (h : InP n p) (e : q.Perm p) : InP n q := ⟨e.size_eq.trans h.1, fun x hx => h.2 x (e.mem_iff.mp hx)⟩
theorem InP.rev {n : Nat} {p : Array Nat} (h : InP n p) (i j : Nat) : InP n (kas_rev p i j) := h.perm (mirror_perm _ _ _ _)
theorem all_asc {n : Nat} {p : Array Nat} (h : InP n p) (h0 : 0 < n) : ∀ f m, KAll n (fun _ => True) (kas_asc p f m)
  | 0, _ => .ret trivial
  | f + 1, m => .ask (h.get h0 _) (h.get h0 _) fun b => by
    cases b with
    | true => exact .ret trivial
    | false => exact all_asc h h0 f (m + 1)
theorem all_desc {n : Nat} (h0 : 0 < n) : ∀ f (p : Array Nat) m q, InP n p → KAll n (fun r => InP n r.1) (kas_desc f p m q)
  | 0, _, _, _, h => .ret h
  | f + 1, p, m, q, h => .ask (h.get h0 _) (h.get h0 _) fun b => by
    cases b with
    | true =>
      show KAll n _ (if q > 0 then kas_desc f (kas_rev p (m - (q + 1)) m) (m + 1) 0 else kas_desc f p (m + 1) 0)
      split
      · exact all_desc h0 f _ _ _ (h.rev _ _)
      · exact all_desc h0 f _ _ _ h
    | false =>
      refine .ask (h.get h0 _) (h.get h0 _) fun c => ?_
      cases c with
      | true => exact .ret h
      | false => exact all_desc h0 f _ _ _ h
theorem all_tail {n : Nat} {p : Array Nat} (h : InP n p) (h0 : 0 < n) (m k : Nat) : KAll n (fun r => InP n r.2) (kas_tail3 m k p) := (all_asc (h.rev 0 m) h0 _ _).bind fun _ _ => .ret (h.rev 0 m)
theorem all_part {n : Nat} {p : Array Nat} (h : InP n p) (h0 : 0 < n) (m k : Nat) : KAll n (fun r => InP n r.2) (kas_descPart m k p) := (all_desc h0 _ _ _ _ h).bind fun r hr => by
  split
  · exact all_tail (hr.rev _ _) h0 _ _
  · exact all_tail hr h0 _ _
theorem all_count {n : Nat} {p : Array Nat} (h : InP n p) (h0 : 0 < n) (k : Nat) : KAll n (fun r => InP n r.2) (kas_count k p) := (all_asc h h0 _ _).bind fun m _ => by
  split
  · exact .ret h
  · split
    · refine .ask (h.get h0 _) (h.get h0 _) fun c => ?_
      cases c with
      | true => exact .ret h
      | false => exact all_part (h.rev _ _) h0 _ _
    · exact all_part h h0 _ _
theorem all_place {n : Nat} {p : Array Nat} (h : InP n p) (h0 : 0 < n) (k : Nat) : ∀ f l r, KAll n (fun _ => True) (kas_place p k f l r)
  | 0, _, _ => .ret trivial
  | f + 1, l, r => by
    show KAll n _ (if l ≥ r then .ret l else .ask (p.getD k 0) (p.getD ((l + r) / 2) 0) fun c => if c = true then kas_place p k f l ((l + r) / 2) else kas_place p k f ((l + r) / 2 + 1) r)
    split
    · exact .ret trivial
    · refine .ask (h.get h0 _) (h.get h0 _) fun c => ?_
      cases c with
      | true => exact all_place h h0 k f _ _
      | false => exact all_place h h0 k f _ _
theorem all_bin {n : Nat} (h0 : 0 < n) : ∀ f (p : Array Nat) k, InP n p → KAll n (InP n) (kas_bin f p k)
  | 0, _, _, h => .ret h
  | f + 1, p, k, h => (all_place h h0 k k 0 k).bind fun l _ => all_bin h0 f _ _ (h.perm (bubble_perm _ _ _))
theorem all_sort {n : Nat} (h0 : 0 < n) : KAll n (InP n) (kas_sort n) := by
  have h : InP n (List.toArray (List.range n)) := ⟨by simp, fun x hx => by simpa using hx⟩
  refine (all_count h h0 n).bind fun r hr => ?_
  split
  · exact all_bin h0 _ _ _ hr
  · exact .ret hr
/-! ### comparing two pairs -/
def EntAt (h : Heap) (x : (Int × Int) × Str) (v : Value) : Prop := ∃ a b t1 t2 t3, v = .ref a ∧ h.IsTuple a #[.ref b, .str x.2 t3] ∧ h.IsTuple b #[.int x.1.1 t1, .int x.1.2 t2]
def ltE (x y : (Int × Int) × Str) : Bool := if x.1 = y.1 then (if x.2 = y.2 then false else decide (x.2.cps.toList < y.2.cps.toList)) else HT.lexLt [x.1.1, x.1.2] [y.1.1, y.1.2]
section
variable {prog : Program} {w : World} {A : Around} {E : Value → Shared → Prop} {s : Shared}
theorem ent_lt {x y : (Int × Int) × Str} {u v : Value} {Q : Bool → Shared → Prop} (hu : A.units + 1 < cLine) (h1 : EntAt s.heap x u) (h2 : EntAt s.heap y v) (q : Q (ltE x y) s) : wpAny (model prog w) A (keyLt' (tuples' false) u v) Q E s := by
  obtain ⟨a, b, t1, t2, t3, rfl, p1, p2⟩ := h1
  obtain ⟨c, d, u1, u2, u3, rfl, q1, q2⟩ := h2
  obtain ⟨o1, e1, _, n1, d1⟩ := id p1
  obtain ⟨o2, e2, _, n2, d2⟩ := id q1
  refine kat_lt e1 d1 e2 d2 (kat_cons (name_eqAt (by omega) p2 q2 _ _ _ _ ?_))
  have dn : (decide (x.1.1 = y.1.1) && decide (x.1.2 = y.1.2)) = decide (x.1 = y.1) := by
    rw [← Bool.decide_and]
    exact decide_eq_decide.mpr ⟨fun z => Prod.ext z.1 z.2, fun z => by rw [z]; exact ⟨rfl, rfl⟩⟩
  rw [dn]
  unfold ltE at q
  by_cases en : x.1 = y.1
  · rw [if_pos en] at q
    rw [decide_eq_true en]
    refine kat_yes (kat_cons (SeqAt.EqAt.str_str _ t3 _ u3 _ _ _ _ ?_))
    by_cases es : x.2 = y.2
    · rw [if_pos es] at q
      rw [← str_beq_dec, decide_eq_true es]
      exact kat_yes (kat_nil q)
    · rw [if_neg es] at q
      rw [← str_beq_dec, decide_eq_false es]
      exact kat_no (kat_one _ _ (lt_str q))
  · rw [if_neg en] at q
    rw [decide_eq_false en]
    exact kat_no (kat_one _ _ (HT.lt_tupInts p2 q2 (.cons _ _ (.cons _ _ .nil)) (.cons _ _ (.cons _ _ .nil)) (by omega) q))
/-- all of a list of values are such pairs -/
abbrev Ents (h : Heap) (es : List ((Int × Int) × Str)) (vs : List Value) : Prop := Paired (EntAt h) es vs
theorem Ents.tups {h : Heap} : ∀ {es : List ((Int × Int) × Str)} {vs : List Value}, Ents h es vs → ∃ fs, KatTups h vs fs ∧ fs.length = vs.length ∧ ∀ v ∈ fs, ∀ M : Model, Looks M h (typeOf v) (.type "tuple")
  | _, _, .nil => ⟨[], KatTups.nil, rfl, fun _ hv => nomatch hv⟩
  | _, _, .cons r t => by
    obtain ⟨fs, k, l, ty⟩ := Ents.tups t
    obtain ⟨a, b, t1, t2, t3, rfl, ⟨o, e, c, n, d⟩, ⟨o', e', c', _⟩⟩ := r
    refine ⟨.ref b :: fs, KatTups.cons e c d rfl k, by rw [List.length_cons, List.length_cons, l], fun v hv M => ?_⟩
    rcases List.mem_cons.mp hv with z | hv
    · subst z
      rw [← c']
      exact (Looks.ld e').andThen .now
    · exact ty v hv M
/-- in the order of the tree -/
def srtBy {α : Type} [Inhabited α] (lt : α → α → Bool) (xs : List α) : List α := ((runT (fun i j => lt (xs.getD i default) (xs.getD j default)) (kas_sort xs.length)).toList).map fun i => xs.getD i default
theorem pr_getD {α β : Type} {R : α → β → Prop} {xs : List α} {ys : List β} (h : Paired R xs ys) {i : Nat} (hi : i < xs.length) (a : α) (b : β) : R (xs.getD i a) (ys.getD i b) := by
  have hi' : i < ys.length := by rw [← h.len]; exact hi
  obtain ⟨u, eu, ru⟩ := h.get1 (List.getElem?_eq_getElem hi)
  rw [List.getElem?_eq_getElem hi'] at eu
  cases eu
  rw [List.getD_eq_getElem?_getD, List.getD_eq_getElem?_getD, List.getElem?_eq_getElem hi, List.getElem?_eq_getElem hi']
  exact ru
theorem pr_pick {α β : Type} {R : α → β → Prop} {xs : List α} {ys : List β} (h : Paired R xs ys) (a : α) (b : β) : ∀ {p : List Nat}, (∀ i ∈ p, i < xs.length) → Paired R (p.map fun i => xs.getD i a) (p.map fun i => ys.getD i b)
  | [], _ => .nil
  | i :: p, hp => .cons (pr_getD h (hp i List.mem_cons_self) a b) (pr_pick h a b fun j hj => hp j (List.mem_cons_of_mem _ hj))
instance : Inhabited ((Int × Int) × Str) := ⟨((0, 0), Str.empty)⟩
theorem srt_len {α : Type} [Inhabited α] (lt : α → α → Bool) (xs : List α) (h : 0 < xs.length) : (srtBy lt xs).length = xs.length ∧ ∀ i ∈ (runT (fun i j => lt (xs.getD i default) (xs.getD j default)) (kas_sort xs.length)).toList, i < xs.length := by
  have : InP xs.length (runT (fun i j => lt (xs.getD i default) (xs.getD j default)) (kas_sort xs.length)) := by
    have g : ∀ {t : KasT (Array Nat)}, KAll xs.length (InP xs.length) t → InP xs.length (runT (fun i j => lt (xs.getD i default) (xs.getD j default)) t) := by
      intro t k
      induction k with
      | ret h => exact h
      | ask _ _ _ ih => exact ih _
    exact g (all_sort h)
  refine ⟨?_, fun i hi => this.2 i (Array.mem_toList_iff.mp hi)⟩
  unfold srtBy
  rw [List.length_map, Array.length_toList]
  exact this.1
section
variable {prog : Program} {w : World} {A : Around} {E : Value → Shared → Prop} {s : Shared} {h₀ : Heap} {L : Addr} {m : Str → Option Value} {news : List (Addr × Obj)}
/-- list.sort of such pairs, two or more -/
theorem ents_sort {es : List ((Int × Int) × Str)} {vs : List Value} {a n : Nat} {P : PySem.Fin → Shared → Prop} (hu : A.units + 1 < cLine) (F : Fr h₀ L s.heap m) (N : News h₀ L s.heap news) (ho : s.heap.get? a = some (seqObj "list" vs.toArray n)) (haL : a ≠ L) (ha0 : h₀.get? a = none) (hna : ∀ p ∈ news, p.1 ≠ a)
    (he : ∀ h', (∀ b o, (b, o) ∈ news → h'.get? b = some o) → Ents h' es vs) (h2 : 2 ≤ vs.length) (h64 : vs.length < 64)
    (q : ∀ h' c, Fr h₀ L h' m → News h₀ L h' ((a, PySem.W.listOf (List.toArray ((runT (fun i j => ltE (es.getD i default) (es.getD j default)) (kas_sort es.length)).toList.map fun i => vs.getD i Value.none)) c) :: news) → P (.done (.ret .none)) { s with heap := h' }) :
    wpAny (model prog w) A (Builtin.«list.sort» ⟨[.ref a], []⟩) P E s := by
  refine kat_list_sort F N ho haL ha0 hna h2 h64 fun e1 h' F' N' => ?_
  have en : Ents h' es vs := he h' fun b o hb => (N' (b, o) (List.mem_cons_of_mem _ hb)).1
  have hl := en.len
  obtain ⟨fs, kt, lf, ty⟩ := en.tups
  refine kat_kind (s := { s with heap := h' }) kt (by omega) (fun v hv => ty v hv _) rfl ?_
  have e0 : (Value.type "tuple" != Value.type "tuple") = false := by decide
  rw [e0, ← hl]
  refine KAll.wp (lt := fun i j => ltE (es.getD i default) (es.getD j default)) (fun i j C hi hj hC => ?_) (all_sort (by omega)) fun hp => ?_
  · exact ent_lt (s := { s with heap := h' }) hu (pr_getD en hi default Value.none) (pr_getD en hj default Value.none) hC
  · exact KasFin.intro (s := { s with heap := h' }) F' N' (.head hna) fun h2 c F2 N2 => q h2 c F2 N2
end
end
end L2

set_option maxHeartbeats 1000000
namespace L2
open PySem PySem.Spec PyProof.Rows PySem.W
section
variable {prog : Program} {w : World} {A : Around} {E : Value → Shared → Prop} {s : Shared} {h₀ : Heap} {L : Addr} {m : Str → Option Value} {news : List (Addr × Obj)}
/-- list.sort of none or one -/
theorem few_sort {vs : List Value} {a n : Nat} {P : PySem.Fin → Shared → Prop} (F : Fr h₀ L s.heap m) (N : News h₀ L s.heap news) (ho : s.heap.get? a = some (seqObj "list" vs.toArray n)) (haL : a ≠ L) (ha0 : h₀.get? a = none) (hna : ∀ p ∈ news, p.1 ≠ a) (h2 : vs.length < 2)
    (q : ∀ h' c, Fr h₀ L h' m → News h₀ L h' ((a, PySem.W.listOf vs.toArray c) :: news) → P (.done (.ret .none)) { s with heap := h' }) :
    wpAny (model prog w) A (Builtin.«list.sort» ⟨[.ref a], []⟩) P E s := by
  have z0 : vs.length ≤ sizeLine := by rw [sizeLine_eq]; omega
  have sb1 := Heap.SameBut.update s.heap a (Obj.mapSeq fun _ => (#[] : Array Value))
  obtain ⟨c1, o1⟩ : ∃ c, (s.heap.update a (Obj.mapSeq fun _ => (#[] : Array Value))).get? a = some (seqObj "list" #[] c) := ⟨_, get?_update_seq ho fun _ => #[]⟩
  rw [list_sort_plain]
  refine wpAny_bind (listItems_at ho rfl (wpAny_bind (listUpdate_at ho rfl ?_ (by rw [List.size_toArray]; exact z0) (Nat.zero_le _))))
  refine wpAny_bind (seqEpoch_at o1 rfl (wpAny_bind (wpAny_newTuple ?_ (by show vs.length ≤ _; exact z0))))
  refine wpAny_bind (wpAny_newList (wpAny_holding ?_) (Nat.zero_le _))
  have lt2 : vs.toArray.size < 2 := by rw [List.size_toArray]; exact h2
  dsimp only
  rw [if_pos lt2, if_pos lt2]
  refine wpAny_bind (wpAny_pure (wpAny_bind (wpAny_pure ?_)))
  have o2 := Heap.get?_push_of_some (seqObj "list" #[] 0) (Heap.get?_push_of_some (seqObj "tuple" vs.toArray 0) o1)
  refine wpAny_bind (seqEpoch_at o2 rfl ?_)
  have ez : (arrOf (SortSt.mk' general' (vs.toArray.zip vs.toArray) #[] 7 none)).map (·.2) = vs.toArray := by
    show (vs.toArray.zip vs.toArray).map (·.2) = vs.toArray
    have zz : ∀ l : List Value, (l.zip l).map (·.2) = l := fun l => by
      induction l with
      | nil => rfl
      | cons x r ih => rw [List.zip_cons_cons, List.map_cons, ih]
    apply Array.toList_inj.mp
    simpa using zz vs
  rw [ez]
  refine wpAny_bind (listUpdate_at o2 rfl ?_ (Nat.zero_le _) (by rw [List.size_toArray]; exact Nat.le_succ_of_le z0))
  simp only [bne_self_eq_false, Bool.false_eq_true, if_false]
  obtain ⟨c2, o3⟩ : ∃ c, ((((s.heap.update a (Obj.mapSeq fun _ => (#[] : Array Value))).push (seqObj "tuple" vs.toArray 0)).push (seqObj "list" #[] 0)).update a (Obj.mapSeq fun _ => vs.toArray)).get? a = some (seqObj "list" vs.toArray c) := ⟨_, get?_update_seq o2 fun _ => vs.toArray⟩
  refine wpAny_pure (q _ c2 ?_ ?_)
  · exact kas_fr (((kas_fr F sb1 haL ha0).push _).push _) (Heap.SameBut.update _ _ _) haL ha0
  · intro p hp
    rcases List.mem_cons.mp hp with z | hp
    · subst z
      exact ⟨o3, haL, ha0⟩
    · exact kas_news ((kas_news N sb1 hna).grown fun b x e => Heap.get?_push_of_some _ (Heap.get?_push_of_some _ e)) (Heap.SameBut.update _ _ _) hna p hp
end
/-- a pair of a name and a text, made at run time -/
def sPS (K : PySem.W.Frag) (H : Hp) (x : (Int × Int) × Str) (v : V) : Prop := ∃ a b, v = .ref a ∧ H a = some (.tup [.ref b, .str x.2]) ∧ H b = some (.tup [.int x.1.1, .int x.1.2])
theorem sPS.keep {K : PySem.W.Frag} {H H' : Hp} {x : (Int × Int) × Str} {v : V} (e : TSame H H') (h : sPS K H x v) : sPS K H' x v := by
  obtain ⟨a, b, rfl, h1, h2⟩ := h
  exact ⟨a, b, rfl, e _ _ h1, e _ _ h2⟩
theorem sPS.ent {P : Program} {w : World} {K : PySem.W.Frag} {H : Hp} {h : Heap} {x : (Int × Int) × Str} {v : V} {u : Value} (ok : HOk P w H h) (q : sPS K H x v) (r : RelV v u) : EntAt h x u := by
  obtain ⟨a, b, rfl, h1, h2⟩ := q
  cases (show u = Value.ref a from r)
  obtain ⟨_, its, r1, p⟩ := (show ObjOk P w H h a (.tup [.ref b, .str x.2]) from ok a _ h1)
  obtain ⟨_, its', r2, p'⟩ := (show ObjOk P w H h b (.tup [.int x.1.1, .int x.1.2]) from ok b _ h2)
  obtain ⟨u1, u2, rfl, e1, e2⟩ := r1.two
  obtain ⟨v1, v2, rfl, e3, e4⟩ := r2.two
  cases (show u1 = Value.ref b from e1)
  obtain ⟨t, rfl⟩ := e2
  obtain ⟨t1, rfl⟩ := e3
  obtain ⟨t2, rfl⟩ := e4
  exact ⟨a, b, t1, t2, t, rfl, p, p'⟩
theorem ents_of {P : Program} {w : World} {K : PySem.W.Frag} {H : Hp} {h : Heap} (ok : HOk P w H h) : ∀ {es : List ((Int × Int) × Str)} {us : List V} {vs : List Value}, Paired (sPS K H) es us → Vals us vs → Ents h es vs
  | _, _, _, .nil, .nil => .nil
  | _, _, _, .cons a t, .cons r q => .cons (a.ent ok r) (ents_of ok t q)
theorem vals_pick {us : List V} {vs : List Value} (h : Vals us vs) (p : List Nat) (hp : ∀ i ∈ p, i < us.length) : Vals (p.map fun i => us.getD i .non) (p.map fun i => vs.getD i Value.none) := pr_pick h _ _ hp
section
variable {X : Cx} {pins : List (Addr × Obj)} {σ : St} {H : Hp} {s : Shared}
/-- behind the gathering: a new list, sorted -/
theorem sorted_rest {vs : List Value} {us : List V} {es : List ((Int × Int) × Str)} {Q : VK} {E : Value → Shared → Prop} (hu : X.A.units + 4 < cLine) (I : Inv X pins σ H s) (rv : Vals us vs) (pe : Paired (sPS X.K H) es us) (h64 : es.length < 64)
    (q : ∀ l ys, H l = none → Paired (sPS X.K (upd H l (.lst ys))) (srtBy ltE es) ys → Q (.ref l) (upd H l (.lst ys))) :
    wpAny (model X.prog X.w) X.A.in1 (newList vs >>= fun l => holding [l] (call (.builtin "list.sort") [l] []) >>= fun _ => ret l) (fun fin s' => ∃ v, fin = .done (.ret v) ∧ EP X pins σ Q v s') E s := by
  have hl1 : us.length = vs.length := rv.length
  have hl2 : es.length = us.length := pe.len
  have zl : vs.length ≤ sizeLine := by rw [sizeLine_eq]; omega
  refine wpAny_bind (wpAny_newList ?_ zl)
  obtain ⟨m, hn, _⟩ := id I.loc
  have N : News (Att.noObjs s.heap) X.env.locals s.heap (Att.ledger s.heap X.env.locals X.env.locals) := fun ⟨c, o⟩ hp => by
    obtain ⟨n1, _, e⟩ := Att.mem_ledger.mp hp
    exact ⟨e, n1, Att.noObjs_get _ _⟩
  have led : ∀ c o, c ≠ X.env.locals → s.heap.get? c = some o → (c, o) ∈ Att.ledger s.heap X.env.locals X.env.locals := fun c o n1 e => Att.mem_ledger.mpr ⟨n1, n1, e⟩
  have up : ∀ b o, s.heap.get? b = some o → (s.heap.push (seqObj "list" vs.toArray 0)).get? b = some o := fun b o e => Heap.get?_push_of_some _ e
  have F1 : Fr (Att.noObjs s.heap) X.env.locals (s.heap.push (seqObj "list" vs.toArray 0)) m := (Att.fr_all hn).kept up
  have N1 : News (Att.noObjs s.heap) X.env.locals (s.heap.push (seqObj "list" vs.toArray 0)) (Att.ledger s.heap X.env.locals X.env.locals) := N.grown up
  have oL : (s.heap.push (seqObj "list" vs.toArray 0)).get? s.heap.objs.size = some (seqObj "list" vs.toArray 0) := Heap.get?_push_size _ rfl
  have nL : s.heap.objs.size ≠ X.env.locals := Nat.ne_of_gt I.lt
  have na : ∀ p ∈ Att.ledger s.heap X.env.locals X.env.locals, p.1 ≠ s.heap.objs.size := fun p hp => Nat.ne_of_lt (Heap.lt_size (N p hp).1)
  have hnone : H s.heap.objs.size = none := I.hok.fresh (Nat.le_refl _)
  have fin : ∀ (out : List Value) (ys : List V), Vals ys out → ys.length ≤ sizeLine → Q (.ref s.heap.objs.size) (upd H s.heap.objs.size (.lst ys)) → ∀ h' c, Fr (Att.noObjs s.heap) X.env.locals h' m →
      News (Att.noObjs s.heap) X.env.locals h' ((s.heap.objs.size, PySem.W.listOf (List.toArray out) c) :: Att.ledger s.heap X.env.locals X.env.locals) → EP X pins σ Q (.ref s.heap.objs.size) { s with heap := h' } := fun out ys ro hz hQ h' c F2 N2 => by
    have keep : ∀ b o, b ≠ X.env.locals → s.heap.get? b = some o → h'.get? b = some o := fun b o n1 e => (N2 (b, o) (List.mem_cons_of_mem _ (led b o n1 e))).1
    have eD : h'.get? s.heap.objs.size = some (PySem.W.listOf (List.toArray out) c) := (N2 _ List.mem_cons_self).1
    refine ⟨.ref s.heap.objs.size, upd H s.heap.objs.size (.lst ys), ?_, rfl, hQ⟩
    have fresh : ∀ b o, s.heap.get? b = some o → b ≠ s.heap.objs.size := fun b o e => Nat.ne_of_lt (Heap.lt_size e)
    show Inv X pins σ (upd H s.heap.objs.size (.lst ys)) { s with heap := h' }
    refine I.step (h' := h') (g' := s.gens) (d' := s.drawn) (t' := s.toks) (ch := []) (fun _ z => nomatch z) (fun b o n1 _ _ e _ => keep b o n1 e) (fun b o n1 _ _ e _ => ⟨o.slots, keep b o n1 e⟩) (fun b o _ e n => by rw [upd_ne (fresh b o e)]; exact n)
      (fun b o _ e => ?_) (fun b xs e => by rw [upd_ne (ne_of_none e hnone)]; exact e) (fun b o u e => by rw [upd_ne (ne_of_none e hnone)]; exact e) (fun b ps e => ⟨#[], by rw [upd_ne (ne_of_none e hnone), e]; simp⟩) (fun m' hm' => ?_) (fun b o e => ?_) I.bare
    · by_cases hb : b = X.env.locals
      · obtain ⟨o', _, _, e', _⟩ := F2.ns
        exact ⟨o', hb ▸ e'⟩
      · exact ⟨o, keep b o hb e⟩
    · have e : m' = m := funext fun name => hm'.agree hn name
      rw [e]
      exact F2.ns
    · by_cases hb : b = s.heap.objs.size
      · subst hb
        rw [upd_same] at e
        cases e
        exact ⟨hz, out, c, ro, eD⟩
      · rw [upd_ne hb] at e
        have nL' : b ≠ X.env.locals := fun z => by rw [z, I.free] at e; cases e
        refine (I.hok b o e).stay (fun d v hd q => keep d v (fun z => ?_) q) (fun d q => by rw [upd_ne (ne_of_none q hnone)]; exact q) fun d xs q => by rw [upd_ne (ne_of_none q hnone)]; exact q
        rcases hd with hd | hd
        · exact nL' (hd.symm.trans z)
        · rw [z, I.free] at hd; cases hd
  have tsL : ∀ ys, TSame H (upd H s.heap.objs.size (.lst ys)) := fun ys b xs e => by rw [upd_ne (ne_of_none e hnone)]; exact e
  refine wpAny_bind (wpAny_holding (wpAny_call_entry slot_list_sort ⟨_, oL, rfl⟩ entry_list_sort ?body (args_list_sort _)))
  case body =>
    by_cases h2 : vs.length < 2
    · refine few_sort (s := { s with heap := s.heap.push (seqObj "list" vs.toArray 0) }) F1 N1 oL nL (Att.noObjs_get _ _) na h2 fun h' c F2 N2 => ⟨_, rfl, wpAny_pure ⟨_, rfl, fin vs us rv (by omega) (q _ us hnone ?_) h' c F2 N2⟩⟩
      have es2 : srtBy ltE es = es := by
        match es, (by omega : es.length < 2) with
        | [], _ => rfl
        | [x], _ => rfl
      rw [es2]
      exact Paired.mapP pe fun _ _ z => z.keep (tsL us)
    · have h0 : 0 < es.length := by omega
      obtain ⟨hsl, hsi⟩ := srt_len ltE es h0
      refine ents_sort (s := { s with heap := s.heap.push (seqObj "list" vs.toArray 0) }) (es := es) (by show X.A.units + 1 + 1 + 1 < cLine; omega) F1 N1 oL nL (Att.noObjs_get _ _) na (fun h' hk => ?_) (by omega) (by omega) fun h' c F2 N2 => ⟨_, rfl, wpAny_pure ⟨_, rfl, fin _ _ (vals_pick rv _ (fun i hi => by rw [← hl2]; exact hsi i hi)) ?_ (q _ _ hnone ?_) h' c F2 N2⟩⟩
      · have ok' : HOk X.prog X.w H h' := fun b o e => by
          have nL' : b ≠ X.env.locals := fun z => by rw [z, I.free] at e; cases e
          refine (I.hok b o e).stay (fun d v hd q => hk d v (led d v (fun z => ?_) q)) (fun _ q => q) fun _ _ q => q
          rcases hd with hd | hd
          · exact nL' (hd.symm.trans z)
          · rw [z, I.free] at hd; cases hd
        exact ents_of ok' pe rv
      · rw [List.length_map]
        unfold srtBy at hsl
        rw [List.length_map] at hsl
        rw [hsl]
        omega
      · exact pr_pick (Paired.mapP pe fun _ _ z => z.keep (tsL _)) _ _ hsi
end
end L2

set_option maxHeartbeats 1000000
/-! the items of a dict, whatever its keys -/
namespace L2
open PySem PySem.Spec PyProof.Rows PySem.W
abbrev ItObj (own : Value) (f : Bool) (d : Addr) (i n ep : Nat) (ok ov : Value) : Obj := { cls := .type "dict_itemiterator", dict := none, data := .fields #[own, .bool f, .ref d, .int i 0, .int n 0, .int ep 0, ok, ov], slots := #[] }
/-- the iterator at it has told i of n items -/
def ItAt (h : Heap) (it d : Addr) (i n ep : Nat) : Prop := ∃ own f ok ov, h.get? it = some (ItObj own f d i n ep ok ov) ∧ (own = .none ∨ ∃ a oa, own = rawInt (a : Nat) ∧ a ≠ it ∧ h.get? a = some oa)
def RawD (h : Heap) (d : Addr) (es : Array DictEntry) (ep : Nat) : Prop := ∃ od, h.get? d = some od ∧ od.ExactDict ∧ od.data = .dict es ep
section
variable {prog : Program} {w : World} {A : Around} {E : Value → Shared → Prop} {s : Shared} {it d : Addr} {i ep : Nat} {es : Array DictEntry}
theorem RawD.at {h h' : Heap} (x : RawD h d es ep) (k : ∀ o, h.get? d = some o → h'.get? d = some o) : RawD h' d es ep := let ⟨od, e, r⟩ := x; ⟨od, k _ e, r⟩
theorem it_ty {own ok ov : Value} {f : Bool} {n : Nat} (hit : s.heap.get? it = some (ItObj own f d i n ep ok ov)) : s.TypeIs (.ref it) "dict_itemiterator" := ⟨_, hit, rfl⟩
theorem owns_it : Builtin.Dict_items.ownsTuple "dict_itemiterator" = true := by decide
/-- what pairFromOwner does -/
theorem it_pair {n : Nat} {own ok ov key val : Value} {f : Bool} {Q : Value → Shared → Prop} (hit : s.heap.get? it = some (ItObj own f d i n ep ok ov)) (how : own = .none ∨ ∃ a oa, own = rawInt (a : Nat) ∧ a ≠ it ∧ s.heap.get? a = some oa)
    (hQ : ∀ h', ItAt h' it d i n ep → h'.get? s.heap.objs.size = some { cls := .type "tuple", data := .seq #[key, val] } → h'.objs.size = s.heap.objs.size + 1 → (∀ b o, b ≠ it → s.heap.get? b = some o → h'.get? b = some o) → Q (.ref s.heap.objs.size) { s with heap := h' }) :
    wpAny (model prog w) A (Builtin.Dict_items.pairFromOwner (.ref it) 6 key val) Q E s := by
  obtain ⟨hp, g, dr, tk, os⟩ := s
  unfold Builtin.Dict_items.pairFromOwner
  refine wpAny_bind (wpAny_newTuple ?_)
  have hlt : it < hp.objs.size := Heap.lt_size hit
  have hit1 : (hp.push { cls := .type "tuple", data := .seq #[key, val] }).get? it = some (ItObj own f d i n ep ok ov) := Heap.get?_push_of_some _ hit
  have ht1 : (hp.push { cls := .type "tuple", data := .seq #[key, val] }).get? hp.objs.size = some { cls := .type "tuple", data := .seq #[key, val] } := Heap.get?_push_size _ rfl
  have hz1 : (hp.push { cls := .type "tuple", data := .seq #[key, val] }).objs.size = hp.objs.size + 1 := Heap.size_push ..
  have hk1 : ∀ b o, hp.get? b = some o → (hp.push { cls := .type "tuple", data := .seq #[key, val] }).get? b = some o := fun b o e => Heap.get?_push_of_some _ e
  generalize (hp.push { cls := .type "tuple", data := .seq #[key, val] }) = G at hit1 ht1 hz1 hk1
  have nit : hp.objs.size ≠ it := Nat.ne_of_gt hlt
  unfold Builtin.Dict_items.ownedTupleIsFree
  rcases how with z | ⟨a, oa, z, na, ha⟩
  · subst z
    refine wpAny_bind (wpAny_bind (wpAny_field hit1 rfl (x := .none) rfl (wpAny_pure ?_)))
    simp only [if_true]
    refine wpAny_bind (wpAny_field hit1 rfl (x := ok) rfl (wpAny_bind (wpAny_field hit1 rfl (x := ov) rfl ?_)))
    refine wpAny_bind (wpAny_setField_rec hit1 (by simp) fun h2 e2 s2 => wpAny_bind (wpAny_setField_rec e2 (by simp) fun h3 e3 s3 => wpAny_bind (wpAny_setField_rec e3 (by simp) fun h4 e4 s4 => wpAny_bind (wpAny_setField_rec e4 (by simp) fun h5 e5 s5 => ?_))))
    have kk : ∀ b o, b ≠ it → G.get? b = some o → h5.get? b = some o := fun b o nb e => s5.extBut b o nb (s4.extBut b o nb (s3.extBut b o nb (s2.extBut b o nb e)))
    refine wpAny_bind (wpAny_letGo (wpAny_pure (hQ h5 ⟨_, _, _, _, e5, .inr ⟨hp.objs.size, _, rfl, nit, kk _ _ nit ht1⟩⟩ (kk _ _ nit ht1) ?_ fun b o nb e => kk b o nb (hk1 b o e))))
    show h5.objs.size = hp.objs.size + 1
    rw [s5.1, s4.1, s3.1, s2.1]
    exact hz1
  · subst z
    have ha1 := hk1 _ _ ha
    refine wpAny_bind (wpAny_bind (wpAny_field hit1 rfl (x := rawInt (a : Nat)) rfl ?_))
    show wpAny _ _ (loadIfAlive ((a : Int).toNat) >>= fun _ => _) _ _ _
    rw [Int.toNat_natCast]
    refine wpAny_bind (kdx_alive ha1 ?_)
    simp only [Option.isNone_some, Bool.false_eq_true, if_false]
    refine wpAny_bind (wpAny_field hit1 rfl (x := .bool f) rfl ?_)
    cases f with
    | true =>
      rw [if_neg (show ¬ ((Value.bool true != Value.bool true) = true) by decide)]
      refine wpAny_pure ?_
      simp only [Bool.false_eq_true, if_false]
      exact wpAny_pure (hQ G ⟨_, _, _, _, hit1, .inr ⟨a, oa, rfl, na, ha1⟩⟩ ht1 hz1 fun b o _ e => hk1 b o e)
    | false =>
      rw [if_pos (show (Value.bool false != Value.bool true) = true by decide)]
      refine wpAny_bind (wpAny_setField_rec hit1 (by simp) fun h2 e2 s2 => wpAny_pure ?_)
      simp only [Bool.false_eq_true, if_false]
      exact wpAny_pure (hQ h2 ⟨_, _, _, _, e2, .inr ⟨a, oa, rfl, na, s2.extBut _ _ na ha1⟩⟩ (s2.extBut _ _ nit ht1) (by show h2.objs.size = _; rw [s2.1]; exact hz1) fun b o nb e => s2.extBut b o nb (hk1 b o e))
/-- the head of a turn: the place of the iterator -/
theorem it_next {e : DictEntry} {Q : Option Value → Shared → Prop} (hit : ItAt s.heap it d i es.size ep) (hd : RawD s.heap d es ep) (hx : es[i]? = some e)
    (hQ : ∀ h', ItAt h' it d (i + 1) es.size ep → h'.get? s.heap.objs.size = some { cls := .type "tuple", data := .seq #[e.key, e.val] } → h'.objs.size = s.heap.objs.size + 1 → (∀ b o, b ≠ it → s.heap.get? b = some o → h'.get? b = some o) → Q (some (.ref s.heap.objs.size)) { s with heap := h' }) :
    wpAny (model prog w) A (pyNext (.ref it)) Q E s := by
  obtain ⟨own, f, ok, ov, h1, how⟩ := hit
  obtain ⟨od, hod, _, hdd⟩ := hd
  have ty := it_ty h1
  unfold pyNext
  refine wpAny_bind (wpAny_attempt (wpAny_callSpecial?_slot (name := Str.ofString "__next__") ty PySem.F.slot_dict_itemiterator_next (wpAny_call_entry PySem.F.slot_dict_itemiterator_next ty PySem.F.entry_dict_itemiterator_next ?_ (PySem.F.args_dict_itemiterator_next_1 _))))
  refine wpAny_bind (wpAny_pure (wpAny_bind (wpAny_bind ?_)))
  first | refine wpAny_bind (wpAny_typeNameOfWhole_itemiter ty (wpAny_pure ?_)) | refine wpAny_bind (wpAny_typeNameOf_itemiter ty (wpAny_pure ?_))
  refine wpAny_bind (wpAny_fieldsOf h1 rfl ?_)
  simp only [owns_it, if_true]
  show wpAny _ _ (if (Value.ref d == Value.none) = true then _ else (_ : Sem (Option (Array DictEntry × Int)))) _ _ s
  rw [if_neg (show ¬ ((Value.ref d == Value.none) = true) by intro z; cases z)]
  refine wpAny_bind (wpAny_pure (wpAny_bind (wpAny_dictEntries hod hdd ?_)))
  rw [if_neg (by simp)]
  refine wpAny_bind (wpAny_pure (wpAny_bind (wpAny_dictEpoch hod hdd ?_)))
  rw [if_neg (by simp)]
  refine wpAny_pure ?_
  have hlt : i < es.size := (Array.getElem?_eq_some_iff.mp hx).1
  simp only [show ¬ ((i : Int) < 0) by omega, if_false, Int.toNat_natCast, hx]
  refine wpAny_bind ?_
  first | refine wpAny_bind (wpAny_typeNameOfWhole_itemiter ty (wpAny_pure ?_)) | refine wpAny_bind (wpAny_typeNameOf_itemiter ty (wpAny_pure ?_))
  refine wpAny_bind (wpAny_isOneOf_itemiter ty ?_)
  show wpAny _ _ (setField (.ref it) 3 (rawInt ((i : Int) + 1)) >>= fun _ => _) _ _ s
  refine wpAny_bind (wpAny_setField_rec h1 (by simp) fun h2 e2 s2 => ?_)
  have e2' : h2.get? it = some (ItObj own f d (i + 1) es.size ep ok ov) := by
    have z : ((i + 1 : Nat) : Int) = (i : Int) + 1 := by omega
    unfold ItObj
    rw [z]
    simpa [rawInt] using e2
  have ty2 : Shared.TypeIs { s with heap := h2 } (.ref it) "dict_itemiterator" := ⟨_, e2', rfl⟩
  refine wpAny_bind (wpAny_holding (wpAny_bind (wpAny_isOneOf_itemiter ty2 (wpAny_bind (wpAny_isOneOf_itemiter ty2 ?_)))))
  have how2 : own = .none ∨ ∃ a oa, own = rawInt (a : Nat) ∧ a ≠ it ∧ h2.get? a = some oa := how.imp id fun ⟨a, oa, z1, z2, z3⟩ => ⟨a, oa, z1, z2, s2.extBut a oa z2 z3⟩
  refine it_pair (s := { s with heap := h2 }) e2' how2 fun h3 i3 t3 z3 k3 => wpAny_pure ⟨_, rfl, wpAny_pure ?_⟩
  have zz : h2.objs.size = s.heap.objs.size := s2.1
  have q3 := hQ h3 i3 (by rw [← zz]; exact t3) (by rw [← zz]; exact z3) fun b o nb x => k3 b o nb (s2.extBut b o nb x)
  show Q (some (.ref h2.objs.size)) _
  rw [zz]
  exact q3
theorem it_end {Q : Option Value → Shared → Prop} (hh : A.handled = none) (hit : ItAt s.heap it d i es.size ep) (hd : RawD s.heap d es ep) (hx : es.size ≤ i)
    (hQ : ∀ h', Heap.ExtBut it s.heap h' → Q none { s with heap := h' }) : wpAny (model prog w) A (pyNext (.ref it)) Q E s := by
  obtain ⟨own, f, ok, ov, h1, how⟩ := hit
  obtain ⟨od, hod, _, hdd⟩ := hd
  have ty := it_ty h1
  unfold pyNext
  refine wpAny_bind (wpAny_attempt (wpAny_callSpecial?_slot (name := Str.ofString "__next__") ty PySem.F.slot_dict_itemiterator_next (wpAny_call_entry PySem.F.slot_dict_itemiterator_next ty PySem.F.entry_dict_itemiterator_next ?_ (PySem.F.args_dict_itemiterator_next_1 _))))
  refine wpAny_bind (wpAny_pure (wpAny_bind (wpAny_bind ?_)))
  first | refine wpAny_bind (wpAny_typeNameOfWhole_itemiter ty (wpAny_pure ?_)) | refine wpAny_bind (wpAny_typeNameOf_itemiter ty (wpAny_pure ?_))
  refine wpAny_bind (wpAny_fieldsOf h1 rfl ?_)
  simp only [owns_it, if_true]
  show wpAny _ _ (if (Value.ref d == Value.none) = true then _ else (_ : Sem (Option (Array DictEntry × Int)))) _ _ s
  rw [if_neg (show ¬ ((Value.ref d == Value.none) = true) by intro z; cases z)]
  refine wpAny_bind (wpAny_pure (wpAny_bind (wpAny_dictEntries hod hdd ?_)))
  rw [if_neg (by simp)]
  refine wpAny_bind (wpAny_pure (wpAny_bind (wpAny_dictEpoch hod hdd ?_)))
  rw [if_neg (by simp)]
  refine wpAny_pure ?_
  simp only [show ¬ ((i : Int) < 0) by omega, if_false, Int.toNat_natCast, Array.getElem?_eq_none hx]
  refine wpAny_bind ?_
  first | refine wpAny_bind (wpAny_typeNameOfWhole_itemiter ty (wpAny_pure ?_)) | refine wpAny_bind (wpAny_typeNameOf_itemiter ty (wpAny_pure ?_))
  show wpAny _ _ (setField (.ref it) 2 .none >>= fun _ => _) _ _ s
  refine wpAny_bind (wpAny_setField h1 rfl (by simp) ?_)
  show wpAny _ _ (newExc (.type "StopIteration") [] >>= fun _ => _) _ _ _
  refine wpAny_bind ?_
  simp only [newExc, newTuple]
  refine wpAny_bind (wpAny_newObj_type (wpAny_bind (m := firstArgMember _ _) (wpAny_of_eq (a := Value.none) (by first | rfl | (simp only [firstArgMember]; rfl)) (wpAny_newObj_type ?_ (by size_fits)))) (by size_fits))
  simp only [raiseNew]
  refine wpAny_bind (wpAny_handled ?_)
  rw [show A.in1.handled = none from hh]
  refine wpAny_bind (wpAny_pure (wpAny_throw ?_)); refine wpAny_bind (wpAny_isInstance (T := "StopIteration") (b := true) ⟨_, Heap.get?_push_size _ rfl, rfl⟩ isSubtype_stop ?_)
  exact wpAny_pure (hQ _ (((Heap.SameBut.update ..).extBut.push _).push _))
/-- the tuples at as are the first entries -/
def Tups (h : Heap) (es : Array DictEntry) (as : List Addr) : Prop := ∀ (j : Nat) (a : Addr), as[j]? = some a → ∃ e, es[j]? = some e ∧ h.get? a = some { cls := .type "tuple", data := .seq #[e.key, e.val] }
theorem it_loop {S : Addr} {R : Result → Shared → Prop} {h1 : Heap} (hh : A.handled = none) (nSI : S ≠ it) (ndS : d ≠ S) (ndI : d ≠ it) (hn : es.size ≤ sizeLine) (res : Value)
    (hR : ∀ h' tk acc c as, (∀ b o, b ≠ S → b ≠ it → h1.get? b = some o → h'.get? b = some o) → h'.get? S = some { cls := .type "list", dict := none, data := .seq acc c, slots := #[] } → as.length = es.size → Tups h' es as → (∀ a ∈ as, h1.objs.size ≤ a ∧ a ≠ S ∧ a ≠ it) → as.Nodup →
      acc.toList = as.map Value.ref → R (.ok (.ret res)) { s with heap := h', toks := tk }) :
    ∀ (k i : Nat) (h : Heap) (tk c : Nat) (acc : Array Value) (as : List Addr), es.size - i = k → i ≤ es.size → ItAt h it d i es.size ep → RawD h d es ep → (∀ b o, b ≠ S → b ≠ it → h1.get? b = some o → h.get? b = some o) →
      h.get? S = some { cls := .type "list", dict := none, data := .seq acc c, slots := #[] } → acc.toList = as.map Value.ref → as.length = i → Tups h es as → (∀ a ∈ as, h1.objs.size ≤ a ∧ a ≠ S ∧ a ≠ it ∧ a < h.objs.size) → as.Nodup → h1.objs.size ≤ h.objs.size →
      codeAny (model prog w) A (.builtin "list.extend.loop" ⟨[.ref S, .ref it, res], []⟩) R { s with heap := h, toks := tk }
  | 0, i, h, tk, c, acc, as, hk, hi, hit, hd, kp, hS, ha, hl, tu, ab, ndp, hz => by
    refine codeAny_builtin PySem.F.entry_extend_loop ?_
    rw [Around.under_plainId PySem.F.plain_extend_loop _]
    show wpAny _ A.in1 (pyNext (.ref it) >>= fun _ => _) _ _ _
    refine wpAny_bind (it_end (s := { s with heap := h, toks := tk }) (A := A.in1) hh hit hd (by omega) fun h' xb => ?_)
    exact wpAny_pure (hR h' tk acc c as (fun b o n1 n2 e => xb b o n2 (kp b o n1 n2 e)) (xb S _ nSI hS) (by omega) (fun j a hj => by
      obtain ⟨e, e1, e2⟩ := tu j a hj
      exact ⟨e, e1, xb a _ (ab a (List.mem_of_getElem? hj)).2.2.1 e2⟩) (fun a hm => ⟨(ab a hm).1, (ab a hm).2.1, (ab a hm).2.2.1⟩) ndp ha)
  | k + 1, i, h, tk, c, acc, as, hk, hi, hit, hd, kp, hS, ha, hl, tu, ab, ndp, hz => by
    have hlt : i < es.size := by omega
    have hx : es[i]? = some es[i] := Array.getElem?_eq_getElem hlt
    have hsz : acc.size = i := by rw [← Array.length_toList, ha, List.length_map, hl]
    have lS : S < h.objs.size := Heap.lt_size hS
    have lI : it < h.objs.size := by obtain ⟨_, _, _, _, e, _⟩ := hit; exact Heap.lt_size e
    refine codeAny_builtin PySem.F.entry_extend_loop ?_
    rw [Around.under_plainId PySem.F.plain_extend_loop _]
    show wpAny _ A.in1 (pyNext (.ref it) >>= fun _ => _) _ _ _
    refine wpAny_bind (it_next (s := { s with heap := h, toks := tk }) hit hd hx fun h' hit' ht z' k' => ?_)
    have z'' : h'.objs.size = h.objs.size + 1 := z'
    have hS' := k' S _ nSI hS
    have up : ∀ b o, b ≠ S → h'.get? b = some o → (h'.update S (Obj.mapSeq (·.push (Value.ref h.objs.size)))).get? b = some o := fun b o nb e => (Heap.get?_update_other _ _ (Ne.symm nb)).trans e
    have zu : (h'.update S (Obj.mapSeq (·.push (Value.ref h.objs.size)))).objs.size = h.objs.size + 1 := by rw [Heap.size_update]; exact z''
    show wpAny _ A.in1 (updateSeq S (·.push (Value.ref h.objs.size)) >>= fun _ => _) _ _ _
    refine wpAny_bind (wpAny_updateSeq hS' rfl (wpAny_pure ⟨plainId_quiet PySem.F.plain_extend_loop _, ?_⟩) (by rw [hsz]; omega) (by show (acc.push (Value.ref h.objs.size)).size ≤ sizeLine + 1; rw [Array.size_push, hsz]; omega))
    refine it_loop hh nSI ndS ndI hn res hR k (i + 1) _ tk _ (acc.push (Value.ref h.objs.size)) (as ++ [h.objs.size]) (by omega) hlt ?_ (hd.at fun o e => up d o ndS (k' d o ndI e)) (fun b o n1 n2 e => up b o n1 (k' b o n2 (kp b o n1 n2 e)))
      (Heap.get?_update_self _ hS' rfl) (by rw [Array.toList_push, ha, List.map_append]; rfl) (by rw [List.length_append, hl]; rfl) ?_ ?_ ?_ (by rw [zu]; omega)
    · obtain ⟨own, f, ok, ov, e1, how⟩ := hit'
      refine ⟨own, f, ok, ov, up it _ (Ne.symm nSI) e1, how.imp id fun ⟨a, oa, w1, w2, w3⟩ => ?_⟩
      by_cases aS : a = S
      · subst aS
        exact ⟨a, _, w1, w2, Heap.get?_update_self _ hS' rfl⟩
      · exact ⟨a, oa, w1, w2, up a oa aS w3⟩
    · intro j a hj
      by_cases hja : j < as.length
      · rw [List.getElem?_append_left hja] at hj
        obtain ⟨e, e1, e2⟩ := tu j a hj
        obtain ⟨_, n1, n2, _⟩ := ab a (List.mem_of_getElem? hj)
        exact ⟨e, e1, up a _ n1 (k' a _ n2 e2)⟩
      · rw [List.getElem?_append_right (by omega)] at hj
        have hj0 : j - as.length = 0 := by
          cases q : j - as.length with
          | zero => rfl
          | succ n => rw [q] at hj; simp at hj
        rw [hj0] at hj
        have ea : h.objs.size = a := by simpa using hj
        subst ea
        have ej : j = i := by omega
        subst ej
        exact ⟨_, hx, up _ _ (Nat.ne_of_gt lS) ht⟩
    · intro a hm
      rw [zu]
      rcases List.mem_append.mp hm with hm | hm
      · obtain ⟨m1, m2, m3, m4⟩ := ab a hm
        exact ⟨m1, m2, m3, Nat.lt_succ_of_lt m4⟩
      · have := List.mem_singleton.mp hm
        subst this
        exact ⟨hz, Nat.ne_of_gt lS, Nat.ne_of_gt lI, Nat.lt_succ_self _⟩
    · rw [List.nodup_append]
      refine ⟨ndp, by simp, fun x hx' y hy z => ?_⟩
      have ey : y = h.objs.size := List.mem_singleton.mp hy
      exact Nat.ne_of_lt (ab x hx').2.2.2 (z.trans ey)
theorem it_make {v : Addr} {Q : Value → Shared → Prop} (hv : s.heap.IsItemsView v d) (hd : RawD s.heap d es ep) (hn : es.size ≤ sizeLine)
    (hQ : Q (.ref s.heap.objs.size) { s with heap := s.heap.push (ItObj .none false d 0 es.size ep .none .none) }) : wpAny (model prog w) A (pyIter (.ref v)) Q E s := by
  obtain ⟨ov, e1, c1, d1⟩ := id hv
  obtain ⟨od, e2, _, d2⟩ := hd
  refine wpAny_pyIter_slot hv.typeIs PySem.F.slot_dict_items_iter (wpAny_call_entry PySem.F.slot_dict_items_iter hv.typeIs PySem.F.entry_dict_items_iter ?_ (PySem.F.args_dict_items_iter_1 _))
  unfold Builtin.«dict_items.__iter__»
  refine wpAny_bind (wpAny_pure (wpAny_bind ?_))
  unfold Builtin.Dict_items.dictOf
  refine wpAny_bind (wpAny_field e1 d1 (x := .ref d) rfl (wpAny_pure (wpAny_bind ?_)))
  unfold Builtin.Dict_items.newIterator
  refine wpAny_bind (wpAny_dictEntries e2 d2 (wpAny_bind (wpAny_dictEpoch e2 d2 ?_)))
  simp only [owns_it, if_true]
  refine wpAny_newObj_type (wpAny_pure ⟨_, rfl, "dict_itemiterator", _, ⟨_, Heap.get?_push_size _ rfl, rfl⟩, PySem.F.slot_dict_itemiterator_next.lookup, ?_⟩) (by simp only [sizeOk, Builtin.Dict_items.ownedTupleFields, List.size_toArray, List.length_append, List.length_cons, List.length_nil, sizeLine_eq]; omega)
  simpa [ItObj, rawInt, Builtin.Dict_items.ownedTupleFields] using hQ
theorem it_extend {v S : Addr} {c0 : Nat} {R : Result → Shared → Prop} (hh : A.handled = none) (hv : s.heap.IsItemsView v d) (hd : RawD s.heap d es ep) (hn : es.size ≤ sizeLine) (nSv : S ≠ v) (ndS : d ≠ S) (res : Value) (hS : s.heap.get? S = some { cls := .type "list", data := .seq #[] c0 })
    (hR : ∀ h' tk acc c as, (∀ b o, b ≠ S → s.heap.get? b = some o → h'.get? b = some o) → h'.get? S = some { cls := .type "list", dict := none, data := .seq acc c, slots := #[] } → as.length = es.size → Tups h' es as → (∀ a ∈ as, s.heap.objs.size ≤ a) → as.Nodup → acc.toList = as.map Value.ref → R (.ok (.ret res)) { s with heap := h', toks := tk }) :
    wpAny (model prog w) A.in1 (Builtin.List.listExtendWith (.ref S) (.ref v) res) (fun fin s' => match fin with | .done f => R (.ok f) s' | .again c' => c'.quiet = true ∧ codeAny (model prog w) A c' R s') (fun e s' => R (.error e) s') s := by
  have lS : S < s.heap.objs.size := Heap.lt_size hS
  have ld : d < s.heap.objs.size := let ⟨_, e, _⟩ := hd; Heap.lt_size e
  have go : ∀ (h : Heap) (c tk : Nat), (∀ b o, b ≠ S → (s.heap.push (ItObj .none false d 0 es.size ep .none .none)).get? b = some o → h.get? b = some o) → h.get? S = some { cls := .type "list", data := .seq #[] c } → s.heap.objs.size ≤ h.objs.size →
      codeAny (model prog w) A (.builtin "list.extend.loop" ⟨[.ref S, .ref s.heap.objs.size, res], []⟩) R { s with heap := h, toks := tk } := by
    intro h c tk kp eS zh
    have eI := kp s.heap.objs.size _ (Nat.ne_of_gt lS) (Heap.get?_push_size _ rfl)
    refine it_loop (s := s) (it := s.heap.objs.size) (d := d) (ep := ep) (es := es) (h1 := s.heap) hh (Nat.ne_of_lt lS) ndS (Nat.ne_of_lt ld) hn res (fun h' tk' acc c' as k' eS' l' t' ab n' a' => hR h' tk' acc c' as (fun b o nb e => k' b o nb (Nat.ne_of_lt (Heap.lt_size e)) e) eS' l' t' (fun a ha => (ab a ha).1) n' a')
      es.size 0 h tk c #[] [] (Nat.sub_zero _) (Nat.zero_le _) ⟨_, _, _, _, eI, .inl rfl⟩ (hd.at fun o e => kp d o ndS (Heap.get?_push_of_some _ e)) (fun b o nb _ e => kp b o nb (Heap.get?_push_of_some _ e)) eS rfl rfl (fun j a hj => by simp at hj) (fun a ha => nomatch ha) List.nodup_nil zh
  unfold Builtin.List.listExtendWith
  refine wpAny_bind (wpAny_typeOf (T := "dict_items") hv.typeIs ?_)
  have b1 : Builtin.List.listSameRef (.ref S) (.ref v) = false := by simp [Builtin.List.listSameRef, nSv]
  have b2 : (Value.type "dict_items" == Value.type "list") = false ∧ (Value.type "dict_items" == Value.type "tuple") = false := ⟨by decide, by decide⟩
  simp only [b1, b2.1, b2.2, Bool.or_false, Bool.false_eq_true, if_false]
  have eS1 := Heap.get?_push_of_some (ItObj .none false d 0 es.size ep .none .none) hS
  have zS1 : s.heap.objs.size ≤ (s.heap.push (ItObj .none false d 0 es.size ep .none .none)).objs.size := by rw [Heap.size_push]; exact Nat.le_succ _
  refine wpAny_bind (it_make hv hd hn (wpAny_bind (wpAny_holding (kdx_hint (let ⟨o, e, c, _⟩ := hv; ⟨o, Heap.get?_push_of_some _ e, c⟩) ?_))))
  refine wpAny_ite_split (fun _ => ?_) (fun _ => wpAny_pure ⟨plainId_quiet PySem.F.plain_extend_loop _, go _ c0 _ (fun b o _ e => e) eS1 zS1⟩)
  refine wpAny_bind (wpAny_rule (wpAny_bind ?_))
  show wpAny _ _ (updateSeq S (·.push .none) >>= fun _ => updateSeq S (·.pop)) _ _ { s with heap := s.heap.push (ItObj .none false d 0 es.size ep .none .none) }
  have eS2 := Heap.get?_update_self (Obj.mapSeq (·.push Value.none)) eS1 rfl
  have eS3 := Heap.get?_update_self (Obj.mapSeq (·.pop)) eS2 rfl
  refine wpAny_bind (wpAny_updateSeq eS1 rfl (wpAny_updateSeq (hz := by seq_fits) eS2 rfl (wpAny_pure ⟨plainId_quiet PySem.F.plain_extend_loop _, go _ _ _ (fun b o nb e => ?_) eS3 ?_⟩)))
  · exact (Heap.get?_update_other _ _ (Ne.symm nb)).trans ((Heap.get?_update_other _ _ (Ne.symm nb)).trans e)
  · rw [Heap.size_update, Heap.size_update]
    exact zS1
/-- all items, gathered -/
theorem it_collect {v : Addr} {R : List Value → Shared → Prop} (hh : A.handled = none) (hv : s.heap.IsItemsView v d) (hd : RawD s.heap d es ep) (hn : es.size ≤ sizeLine)
    (hR : ∀ (h' : Heap) (tk : Nat) (as : List Addr), (∀ b o, s.heap.get? b = some o → h'.get? b = some o) → as.length = es.size → Tups h' es as → (∀ a ∈ as, s.heap.objs.size ≤ a) → as.Nodup → R (as.map Value.ref) { s with heap := h', toks := tk }) :
    wpAny (model prog w) A (collect (.ref v)) R E s := by
  have lv : v < s.heap.objs.size := let ⟨_, e, _⟩ := hv; Heap.lt_size e
  have ld : d < s.heap.objs.size := let ⟨_, e, _⟩ := hd; Heap.lt_size e
  unfold collect
  refine wpAny_bind (wpAny_runValue (codeAny_builtin entry_proto_collect' ?_))
  rw [Around.under_plainId PySem.F.plain_proto_collect _]
  show wpAny _ A.in1 (newList [] >>= fun l => again (.builtin "list.__iadd__" (Args.mk [l, .ref v] []))) _ _ s
  refine wpAny_bind (wpAny_newObj_type (wpAny_pure ⟨plainId_quiet PySem.F.plain_list_iadd _, codeAny_builtin entry_list_iadd' ?_⟩))
  rw [Around.under_plainId PySem.F.plain_list_iadd _]
  have eS : (s.heap.push { cls := .type "list", data := .seq ([] : List Value).toArray }).get? s.heap.objs.size = some { cls := .type "list", data := .seq #[] 0 } := Heap.get?_push_size _ rfl
  have key := it_extend (prog := prog) (w := w) (A := A) (s := { s with heap := s.heap.push { cls := .type "list", data := .seq ([] : List Value).toArray } }) (v := v) (S := s.heap.objs.size) (d := d) (es := es) (ep := ep)
    (R := fun (q : Result) (s' : Shared) => ∃ (h' : Heap) (tk : Nat) (acc : Array Value) (c : Nat) (as : List Addr), q = .ok (.ret (.ref s.heap.objs.size)) ∧ s' = { s with heap := h', toks := tk } ∧ (∀ b o, s.heap.get? b = some o → h'.get? b = some o) ∧
      h'.get? s.heap.objs.size = some { cls := .type "list", dict := none, data := .seq acc c, slots := #[] } ∧ as.length = es.size ∧ Tups h' es as ∧ (∀ a ∈ as, s.heap.objs.size ≤ a) ∧ as.Nodup ∧ acc.toList = as.map Value.ref)
    hh (let ⟨o, e, r⟩ := hv; ⟨o, Heap.get?_push_of_some _ e, r⟩) (hd.at fun o e => Heap.get?_push_of_some _ e) hn (Nat.ne_of_gt lv) (Nat.ne_of_lt ld) (.ref s.heap.objs.size) eS
    (fun h' tk acc c as k' eS' l' t' ab n' a' => ⟨h', tk, acc, c, as, rfl, rfl, fun b o e => k' b o (Nat.ne_of_lt (Heap.lt_size e)) (Heap.get?_push_of_some _ e), eS', l', t', fun a ha => Nat.le_of_succ_le (by have := ab a ha; rw [Heap.size_push] at this; exact this), n', a'⟩)
  have fin : ∀ (q : Result) (s' : Shared), (∃ (h' : Heap) (tk : Nat) (acc : Array Value) (c : Nat) (as : List Addr), q = .ok (.ret (.ref s.heap.objs.size)) ∧ s' = { s with heap := h', toks := tk } ∧ (∀ b o, s.heap.get? b = some o → h'.get? b = some o) ∧
      h'.get? s.heap.objs.size = some { cls := .type "list", dict := none, data := .seq acc c, slots := #[] } ∧ as.length = es.size ∧ Tups h' es as ∧ (∀ a ∈ as, s.heap.objs.size ≤ a) ∧ as.Nodup ∧ acc.toList = as.map Value.ref) →
      ∃ h' tk, q = .ok (.ret (.ref s.heap.objs.size)) ∧ s' = { s with heap := h', toks := tk } ∧ wpAny (model prog w) A (load s.heap.objs.size >>= fun o => match o.data with | .seq xs _ => pure xs.toList | _ => unsupported "internal:collect") R E { s with heap := h', toks := tk } := by
    rintro q s' ⟨h', tk, acc, c, as, rfl, rfl, k', eS', l', t', ab, n', a'⟩
    refine ⟨h', tk, rfl, rfl, wpAny_bind (wpAny_load eS' (wpAny_pure ?_))⟩
    show R acc.toList _
    rw [a']
    exact hR h' tk as k' l' t' ab n'
  refine wpAny_mono key (fun f s' x => ?_) fun e s' x => ?_
  · cases f with
    | done fl =>
      obtain ⟨h', tk, e1, e2, g⟩ := fin _ _ x
      cases e1
      subst e2
      exact g
    | again c1 =>
      refine ⟨x.1, codeAny_mono x.2 fun q s2 y => ?_⟩
      obtain ⟨h', tk, e1, e2, g⟩ := fin _ _ y
      subst e1 e2
      exact g
  · obtain ⟨h', tk, e1, _⟩ := fin _ _ x
    cases e1
end
end L2

set_option maxHeartbeats 1000000
/-! the keys of a dict, whatever they are -/
namespace L2
open PySem PySem.Spec PyProof.Rows PySem.W
section
variable {prog : Program} {w : World} {A : Around} {E : Value → Shared → Prop} {s : Shared} {it d : Addr} {i ep : Nat} {es : Array DictEntry}
end
end L2

set_option maxHeartbeats 1000000
/-! dicts whose keys are names: walked, their items sorted -/
namespace L2
open PySem PySem.Spec PyProof.Rows PySem.W
/-- the dict at a lies still, as o -/
def Fz (a : Addr) (o : Obj) : HO := .ext fun h => h.get? a = some o
def FzD (P : Program) (w : World) (H : Hp) (a : Addr) (o : Obj) (kvs : List (List Key × V)) : Prop :=
  kvs.length ≤ sizeLine ∧ (a == sysModules) = false ∧ ∃ xs es ep, KT H kvs xs ∧ o.ExactDict ∧ o.data = .dict es ep ∧ es.toList = xs.map (entryOfKey (tupleKind (mixKind P w))) ∧ (xs.map (·.1)).Nodup
section
variable {X : Cx} {pins : List (Addr × Obj)} {σ : St} {H : Hp} {s : Shared} {a : Addr} {o : Obj} {kvs : List (List Key × V)}
end
/-- thawed behind -/
def tThaw (P : Program) (w : World) (t : TE) : TE := fun σ H Q => t σ H fun v H1 => ∃ a o kvs, H1 a = some (Fz a o) ∧ FzD P w H1 a o kvs ∧ Q v (upd H1 a (.dT kvs))
/-- d[k], the dict still -/
def tDGetF (P : Program) (w : World) (td ty : TE) : TE := fun σ H Q => td σ H fun x H1 => ty σ H1 fun y H2 => ∃ a o kvs k b v, x = .ref a ∧ y = .ref b ∧ H2 a = some (Fz a o) ∧ FzD P w H2 a o kvs ∧ H2 b = some (.tup (List.map kV k)) ∧ valV kvs k = some v ∧ Q v H2
/-- the keys of the dict at a, in turn -/
def Itk (a : Addr) (o : Obj) : It :=
  ⟨fun i H => H a = some (Fz a o) ∧ ∃ es ep h b v, o.data = .dict es ep ∧ es[i]? = some ⟨h, .ref b, v⟩, fun i H x H' => H' = H ∧ ∃ es ep h b v, o.data = .dict es ep ∧ es[i]? = some ⟨h, .ref b, v⟩ ∧ x = .ref b,
   fun i H => H a = some (Fz a o) ∧ ∃ es ep, o.data = .dict es ep ∧ es.size ≤ i⟩
def iKeys (P : Program) (w : World) (tl : TE) : TI := fun σ H R => tl σ H fun x H1 => ∃ a kvs, x = .ref a ∧ H1 a = some (.dT kvs) ∧ ∀ o, FzD P w (upd H1 a (Fz a o)) a o kvs → R (Itk a o) (upd H1 a (Fz a o))
section
variable {P : Program} {w : World} {a : Addr} {o : Obj} {kvs : List (List Key × V)} {tt : TT} {te : TE} {bl : St} {Fin : List V → Hp → Prop} {H : Hp}
end
end L2

set_option maxHeartbeats 1000000
/-! items(), sorted -/
namespace L2
open PySem PySem.Spec PyProof.Rows PySem.W
def Vw (v d : Addr) : HO := .ext fun h => h.IsItemsView v d
def tItems (td : TE) : TE := fun σ H Q => td σ H fun x H1 => ∃ a kvs, x = .ref a ∧ H1 a = some (.dT kvs) ∧ ∀ v, H1 v = none → Q (.ref v) (upd H1 v (Vw v a))
theorem pe_items {X : Cx} {o : Expr} {apos cpos : Pos} {td : TE} (ho : PE X o td) (hbase : attributeBase o "items" X.env (eval o X.env) = eval o X.env := by rfl) (hline : (apos.endLine == cpos.line) = true := by rfl) :
    PE X (.Call (.Attribute o "items" apos) [] [] cpos) (tItems td) := by
  intro pins s σ H Q I h
  refine wpAny_Call_method0_late hbase hline (thn (ho pins s σ H _ I h) fun u s1 ⟨x, H1, I1, rx, a, kvs, ex, e, q⟩ => ?_)
  subst ex
  obtain rfl : u = Value.ref a := rx
  obtain ⟨t1, t2, hs⟩ := isD_at I1 (.inr ⟨kvs, .inl e⟩)
  refine ⟨"dict", "dict.items", PySem.F.plainAttrs_dict, PySem.F.slot_dict_items, PySem.F.type_dict_items, t1, t2, Calls.callWith_builtin rfl (PySem.evalArgs_none ?_)⟩
  refine wpAny_call_entry PySem.F.slot_dict_items t1 PySem.F.entry_dict_items ?_ (PySem.F.args_dict_items_1 _)
  unfold Builtin.«dict.items» Builtin.Dict.noArgs
  refine wpAny_bind (wpAny_bind (wpAny_notOrdered_dict t1 (wpAny_pure ?_)))
  show wpAny _ _ (Builtin.Dict.showsAll a >>= fun _ => _) _ _ s1
  unfold Builtin.Dict.showsAll
  rw [if_neg (by rw [hs]; exact Bool.false_ne_true)]
  refine wpAny_bind (wpAny_pure (wpAny_bind (wpAny_newObj_type (wpAny_pure ⟨_, rfl, ?_⟩))))
  refine ⟨.ref s1.heap.objs.size, _, I1.laid (a := s1.heap.objs.size) (o := Vw s1.heap.objs.size a) (t' := s1.toks) (fun _ _ z => Heap.get?_push_of_some _ z) (Nat.le_refl _) ⟨⟨_, Heap.get?_push_size _ rfl, rfl, rfl⟩, ⟨_, Heap.get?_push_size _ rfl⟩, fun g1 g2 ⟨ob, p, r⟩ k => ⟨ob, k _ p, r⟩⟩, rfl, q _ (I1.hok.fresh (Nat.le_refl _))⟩
/-- sorted of a list of names with texts -/
theorem call_sortedL {X : Cx} (hu : X.A.units + 4 < cLine) : CallR X (.builtin "sorted") (fun xs H Q => ∃ p us es, xs = [.ref p] ∧ SqL X.K H p us ∧ Paired (sPS X.K H) es us ∧ es.length < 64 ∧ ∀ l ys, H l = none → Paired (sPS X.K (upd H l (.lst ys))) (srtBy ltE es) ys → Q (.ref l) (upd H l (.lst ys))) := by
  intro pins s σ H xs us Q I r h
  obtain ⟨p, ps, es, rfl, hq, pe, h64, q⟩ := h
  obtain ⟨u, rfl, rx⟩ := vals1 r
  cases (show u = Value.ref p from rx)
  obtain ⟨its, rv, pl, hz⟩ := I.list hq
  have l1 := rv.length
  have l2 := pe.len
  refine Calls.call_function_entry kind_sorted plain_sorted entry_sorted (args_sorted1 _) ?_
  unfold Builtin.«sorted»
  refine wpAny_bind (m := checkCount "sorted" 1 1 _) (wpAny_pure (wpAny_bind (collect_list pl.isList ?_ (by rw [sizeLine_eq]; omega))))
  refine sorted_rest hu (I.kept (t' := s.toks) (h' := (s.heap.push (seqObj "list" #[] 0)).update s.heap.objs.size (Obj.mapSeq (· ++ its.toArray))) fun b o e => ?_) rv pe h64 q
  exact (Heap.get?_update_other _ _ (Nat.ne_of_gt (Heap.lt_size e))).trans (Heap.get?_push_of_some _ e)
theorem paired_of {α β : Type} {F : α → β → Prop} : ∀ {xs : List α} {ys : List β}, xs.length = ys.length → (∀ (i : Nat) x y, xs[i]? = some x → ys[i]? = some y → F x y) → Paired F xs ys
  | [], [], _, _ => .nil
  | x :: xs, y :: ys, h, f => .cons (f 0 x y rfl rfl) (paired_of (Nat.succ.inj h) fun i a b e1 e2 => f (i + 1) a b e1 e2)
/-- new tuples, beside what is -/
def updT (H : Hp) (ts : List (Addr × List V)) : Hp := fun b => match ts.find? (fun p => decide (p.1 = b)) with | some p => some (.tup p.2) | none => H b
theorem updT_at {H : Hp} {ts : List (Addr × List V)} (nd : (ts.map (·.1)).Nodup) {p : Addr × List V} (hp : p ∈ ts) : updT H ts p.1 = some (.tup p.2) := by
  unfold updT
  have : ts.find? (fun q => decide (q.1 = p.1)) = some p := by
    induction ts with
    | nil => cases hp
    | cons x r ih =>
      rw [List.map_cons, List.nodup_cons] at nd
      rw [List.find?_cons]
      by_cases e : x.1 = p.1
      · rw [decide_eq_true e]
        rcases List.mem_cons.mp hp with z | z
        · rw [z]
        · exact absurd (List.mem_map.mpr ⟨p, z, e.symm⟩) nd.1
      · rw [decide_eq_false e]
        rcases List.mem_cons.mp hp with z | z
        · exact absurd (by rw [z]) e
        · exact ih nd.2 z
  rw [this]
theorem updT_no {H : Hp} {ts : List (Addr × List V)} {b : Addr} (h : ∀ p ∈ ts, p.1 ≠ b) : updT H ts b = H b := by
  unfold updT
  have : ts.find? (fun q => decide (q.1 = b)) = none := List.find?_eq_none.mpr fun p hp c => h p hp (of_decide_eq_true c)
  rw [this]
theorem updT_mem {H : Hp} {ts : List (Addr × List V)} {b : Addr} {o : HO} (h : updT H ts b = some o) : (∃ p ∈ ts, p.1 = b ∧ o = .tup p.2) ∨ ((∀ p ∈ ts, p.1 ≠ b) ∧ H b = some o) := by
  unfold updT at h
  cases e : ts.find? (fun q => decide (q.1 = b)) with
  | none =>
    rw [e] at h
    exact .inr ⟨fun p hp z => List.find?_eq_none.mp e p hp (decide_eq_true z), h⟩
  | some p =>
    rw [e] at h
    exact .inl ⟨p, List.mem_of_find?_eq_some e, by simpa using List.find?_some e, (Option.some.inj h).symm⟩
section
variable {X : Cx} {pins : List (Addr × Obj)} {σ : St} {H : Hp} {s : Shared}
theorem laidT {h' : Heap} {tk : Nat} {ts : List (Addr × List V)} (I : Inv X pins σ H s) (k : ∀ b o, s.heap.get? b = some o → h'.get? b = some o) (new : ∀ p ∈ ts, s.heap.objs.size ≤ p.1)
    (ok : ∀ p ∈ ts, p.2.length ≤ sizeLine ∧ ∃ its, Vals p.2 its ∧ IsTup h' p.1 (List.toArray its)) : Inv X pins σ (updT H ts) { s with heap := h', toks := tk } := by
  have old : ∀ b o, s.heap.get? b = some o → updT H ts b = H b := fun b o e => updT_no fun p hp z => by
    subst z
    exact Nat.not_le_of_gt (Heap.lt_size e) (new p hp)
  have oldH : ∀ b o, H b = some o → updT H ts b = H b := fun b o e => by
    obtain ⟨ob, e'⟩ := (I.hok b o e).there
    exact old b ob e'
  refine I.step (h' := h') (g' := s.gens) (d' := s.drawn) (t' := tk) (ch := []) (fun _ z => nomatch z) (fun b o _ _ _ e _ => k b o e) (fun b o _ _ _ e _ => ⟨o.slots, k b o e⟩) (fun b o _ e n => by rw [old b o e]; exact n)
    (fun b o _ e => ⟨o, k b o e⟩) (fun b xs e => by rw [oldH b _ e]; exact e) (fun b o u e => by rw [oldH b _ e]; exact e) (fun b ps e => ⟨#[], by rw [oldH b _ e, e]; simp⟩) (fun m hm => ?_) (fun b o e => ?_) I.bare
  · obtain ⟨ob, es, ep, ho', r⟩ := hm
    exact ⟨ob, es, ep, k _ ob ho', r⟩
  · rcases updT_mem e with ⟨p, hp, rfl, rfl⟩ | ⟨hn, e'⟩
    · exact ok p hp
    · exact (I.hok b o e').stay (fun d v _ q => k d v q) (fun d q => by rw [oldH d _ q]; exact q) fun d xs q => by rw [oldH d _ q]; exact q
end
/-- the items of a dict of names and texts, sorted -/
theorem call_sortedV {X : Cx} (hc : X.calm = true) (hu : X.A.units + 4 < cLine) : CallR X (.builtin "sorted") (fun xs H Q => ∃ v d es, xs = [.ref v] ∧ H v = some (Vw v d) ∧ H d = some (.dT (List.map (fun x : (Int × Int) × Str => ([.inl x.1.1, .inl x.1.2], V.str x.2)) es)) ∧ es.length < 64 ∧
    ∀ H' l ys, Same H H' → H' l = none → Paired (sPS X.K (upd H' l (.lst ys))) (srtBy ltE es) ys → Q (.ref l) (upd H' l (.lst ys))) := by
  intro pins s σ H xs us Q I r h
  obtain ⟨v, d, es, rfl, hv, hd, h64, q⟩ := h
  obtain ⟨u, rfl, rx⟩ := vals1 r
  cases (show u = Value.ref v from rx)
  obtain ⟨hw, _⟩ := (show ObjOk X.prog X.w H s.heap v (Vw v d) from I.hok v _ hv)
  obtain ⟨z, _, xs, rel, o, en, ep, h1, h2, h3, h4, h5⟩ := (show ObjOk X.prog X.w H s.heap d (.dT _) from I.hok d _ hd)
  have lx : es.length = xs.length := by rw [← Paired.length rel, List.length_map]
  have ln : en.size = xs.length := size_of_entries h4
  refine Calls.call_function_entry kind_sorted plain_sorted entry_sorted (args_sorted1 _) ?_
  unfold Builtin.«sorted»
  refine wpAny_bind (m := checkCount "sorted" 1 1 _) (wpAny_pure (wpAny_bind (it_collect (A := X.A.in1) (I.ok.hd hc) hw ⟨o, h1, h2, h3⟩ (by rw [ln, ← lx, sizeLine_eq]; omega) fun h' tk as k' la tu ab nd => ?_)))
  let ts : List (Addr × List V) := (as.zip (es.zip xs)).map fun t => (t.1, [.ref t.2.2.2.1, .str t.2.1.2])
  have lt : (as.zip (es.zip xs)).length = as.length := by rw [List.length_zip, List.length_zip]; omega
  have fst : ts.map (·.1) = as := by
    show ((as.zip (es.zip xs)).map fun t => (t.1, ([.ref t.2.2.2.1, .str t.2.1.2] : List V))).map (·.1) = as
    rw [List.map_map]
    show (as.zip (es.zip xs)).map Prod.fst = as
    rw [List.map_fst_zip]
    rw [List.length_zip]
    omega
  have at3 : ∀ (i : Nat) (a : Addr) (x : (Int × Int) × Str), as[i]? = some a → es[i]? = some x → ∃ y : List Key × Addr × Value, xs[i]? = some y ∧ (a, [V.ref y.2.1, .str x.2]) ∈ ts ∧ H y.2.1 = some (.tup [.int x.1.1, .int x.1.2]) ∧ RelV (.str x.2) y.2.2 := fun i a x ea ex => by
    obtain ⟨y, ey, ry⟩ := rel.get1 (j := i) (x := ([.inl x.1.1, .inl x.1.2], V.str x.2)) (by rw [List.getElem?_map, ex]; rfl)
    refine ⟨y, ey, List.mem_map.mpr ⟨(a, x, y), List.mem_of_getElem? (i := i) ?_, rfl⟩, ry.2.1, ry.2.2⟩
    rw [List.getElem?_zip_eq_some, List.getElem?_zip_eq_some]
    exact ⟨ea, ex, ey⟩
  have new : ∀ p ∈ ts, s.heap.objs.size ≤ p.1 := fun p hp => ab p.1 (by rw [← fst]; exact List.mem_map.mpr ⟨p, hp, rfl⟩)
  have I1 : Inv X pins σ (updT H ts) { s with heap := h', toks := tk } := laidT I k' new fun p hp => by
    obtain ⟨t, ht, rfl⟩ := List.mem_map.mp hp
    obtain ⟨i, hi⟩ := List.getElem?_of_mem ht
    rw [List.getElem?_zip_eq_some, List.getElem?_zip_eq_some] at hi
    obtain ⟨ea, ex, ey⟩ := hi
    obtain ⟨e, ee, eh⟩ := tu i t.1 ea
    obtain ⟨y, ey', _, _, rv⟩ := at3 i t.1 t.2.1 ea ex
    rw [ey] at ey'
    cases ey'
    have ek : en[i]? = some (entryOfKey (tupleKind (mixKind X.prog X.w)) t.2.2) := by rw [entry_at h4, ey]; rfl
    rw [ee] at ek
    cases ek
    exact ⟨by show 2 ≤ sizeLine; decide, [.ref t.2.2.2.1, t.2.2.2.2], .cons rfl (.cons rv .nil), _, eh, rfl, _, rfl⟩
  have same : Same H (updT H ts) := fun b ob e => by
    obtain ⟨ob', e'⟩ := (I.hok b ob e).there
    rw [updT_no fun p hp z => by subst z; exact Nat.not_le_of_gt (Heap.lt_size e') (new p hp)]
    exact e
  have pe : Paired (sPS X.K (updT H ts)) es (as.map V.ref) := paired_of (by rw [List.length_map]; omega) fun i x y ex ey => by
    rw [List.getElem?_map] at ey
    obtain ⟨a, ea, rfl⟩ := Option.map_eq_some_iff.mp ey
    obtain ⟨w, ew, hm, hk, _⟩ := at3 i a x ea ex
    exact ⟨a, w.2.1, rfl, updT_at (by rw [fst]; exact nd) hm, same _ _ hk⟩
  have rv : Vals (as.map V.ref) (as.map Value.ref) := paired_of (by rw [List.length_map, List.length_map]) fun i x y ex ey => by
    rw [List.getElem?_map] at ex ey
    obtain ⟨a, ea, rfl⟩ := Option.map_eq_some_iff.mp ex
    rw [ea] at ey
    cases ey
    rfl
  exact sorted_rest hu I1 rv pe h64 fun l ys hl hp => q _ l ys same hl hp
end L2

set_option maxHeartbeats 1000000
/-! outcomes, news -/
namespace Lo
open PySem L2
def osv : Option Str → V
  | none => .non
  | some t => .str t
theorem sPS.c {K : PySem.W.Frag} {H : Hp} {x : Pa × Str} {v : V} (h : sPS K H x v) : cPS.rp K H x v := by
  obtain ⟨a, b, rfl, h1, h2⟩ := h
  exact ⟨a, _, _, rfl, .inl h1, sPa.c (K := K) (x := x.1) ⟨b, rfl, h2⟩, rfl⟩
/-- the outcomes es, told in order -/
def NwAt (K : PySem.W.Frag) (H : Hp) (es : List (Pa × Str)) (v : V) : Prop := ∃ t ys, v = .ref t ∧ H t = some (.tup ys) ∧ Paired (sPS K H) (srtBy ltE es) ys
theorem NwAt.keep {K : PySem.W.Frag} {H H' : Hp} {es : List (Pa × Str)} {v : V} (e : TSame H H') (h : NwAt K H es v) : NwAt K H' es v := by
  obtain ⟨t, ys, rfl, h1, h2⟩ := h
  exact ⟨t, ys, rfl, e _ _ h1, Paired.mapP h2 fun _ _ z => z.keep e⟩
section
variable (CS : Addr) (K : PySem.W.Frag)
def spOutc : Sp := fun vs H Q _ => ∃ A d v p, vs = [.ref A.l, v] ∧ St CS K H A d ∧ sPa K H p v ∧ Q (osv (endOf d.ends p)) H
def spNews : Sp := fun vs H Q _ => ∃ A d, vs = [.ref A.l] ∧ St CS K H A d ∧ d.ends.length < 64 ∧ ∀ v H', Same H H' → NwAt K H' d.ends v → Q v H'
end
end Lo

set_option maxHeartbeats 1000000
/-! zip of two lists; what is alike -/
namespace L2
open PySem PySem.Spec PyProof.Rows
def Itz (K : PySem.W.Frag) (a b : Addr) : It :=
  ⟨fun i H => ∃ xs ys x y, SqL K H a xs ∧ SqL K H b ys ∧ xs[i]? = some x ∧ ys[i]? = some y, fun i H x H' => ∃ t u v, x = .ref t ∧ H t = none ∧ H' = upd H t (.tup [u, v]) ∧ ∀ xs ys, SqL K H a xs → SqL K H b ys → xs[i]? = some u ∧ ys[i]? = some v,
   fun i H => ∃ xs ys, SqL K H a xs ∧ SqL K H b ys ∧ xs.length ≤ i⟩
theorem turn_zip {P : Program} {w : World} {K : PySem.W.Frag} {elts : List Expr} {kk : Nat} {pos : Pos} (a b n : Addr) (ha : a < n) (hb : b < n) :
    Turn P w K (.Tuple elts kk pos) (Itz K a b) [n + 4, n + 2, n + 3, n, n + 1] (n + 4) (fun i h => IsZip h (n + 4) (n + 2) (n + 3) .none ∧ IsPair h (n + 2) (.ref n) (.ref (n + 1)) ∧ (∃ u v, IsPair h (n + 3) u v) ∧ h.IsListIter n a i ∧ h.IsListIter (n + 1) b i) where
  mem := by simp
  obj := fun i h st c hc => by
    obtain ⟨e1, e2, ⟨u, v, e3⟩, ⟨o4, e4, _, d4⟩, ⟨o5, e5, _, d5⟩⟩ := st
    simp only [List.mem_cons, List.not_mem_nil, or_false] at hc
    rcases hc with z | z | z | z | z
    · subst z; exact ⟨_, e1, fun v z => by have z' : Data.fields _ = Data.cell v := z; cases z'⟩
    · subst z; exact ⟨_, e2, fun v z => by have z' : Data.seq _ _ = Data.cell v := z; cases z'⟩
    · subst z; exact ⟨_, e3, fun v z => by have z' : Data.seq _ _ = Data.cell v := z; cases z'⟩
    · subst z; exact ⟨o4, e4, fun v z => by rw [d4] at z; cases z⟩
    · subst z; exact ⟨o5, e5, fun v z => by rw [d5] at z; cases z⟩
  keep := fun i h h' st k => by
    obtain ⟨e1, e2, ⟨u, v, e3⟩, e4, e5⟩ := st
    exact ⟨k _ (by simp) _ e1, k _ (by simp) _ e2, ⟨u, v, k _ (by simp) _ e3⟩, e4.at fun o e => k n (by simp) o e, e5.at fun o e => k (n + 1) (by simp) o e⟩
  item := by
    intro X hP hw hK hc i pins s σ H E I hf st hg
    subst hP hw hK
    obtain ⟨e1, e2, ⟨u0, v0, e3⟩, e4, e5⟩ := st
    obtain ⟨xs, ys, x, y, hq, hr, hx, hy⟩ := hg
    obtain ⟨i1, r1, p1, _⟩ := I.list hq
    obtain ⟨i2, r2, p2, _⟩ := I.list hr
    obtain ⟨u1, hu1, ru1⟩ := r1.get hx
    obtain ⟨u2, hu2, ru2⟩ := r2.get hy
    refine wpAny_pyNext_zip_item (zipApart_new ha hb) e1 e2 e3 e4 e5 p1.isList p2.isList (x := u1) (y := u2) (by simpa using hu1) (by simpa using hu2) fun h1 z1 t1 l1 l2 hT hsz hk => ⟨_, rfl, ?_⟩
    refine wpAny_letOwnedTupleGo_zip z1 fun h2 z2 hs2 => ?_
    have hn : H s.heap.objs.size = none := I.hok.fresh (Nat.le_refl _)
    have lz : n + 4 < s.heap.objs.size := Heap.lt_size e1
    have ne : ∀ k : Nat, k < 4 → n + k ≠ n + 4 := fun k hk z => Nat.ne_of_lt hk (Nat.add_left_cancel z)
    have kp : ∀ c o, c ∉ [n + 4, n + 2, n + 3, n, n + 1] → s.heap.get? c = some o → h2.get? c = some o := fun c o hc e => by
      simp only [List.mem_cons, List.not_mem_nil, or_false, not_or] at hc
      exact (hs2.2 c hc.1).trans (hk c o hc.1 hc.2.2.1 hc.2.2.2.1 hc.2.2.2.2 e)
    have hT2 : h2.get? s.heap.objs.size = some { cls := .type "tuple", data := .seq #[u1, u2] } := (hs2.2 _ (Nat.ne_of_gt lz)).trans hT
    have nb : ∀ c o, H c = some o → c ∉ [n + 4, n + 2, n + 3, n, n + 1] := fun c o e hc => by rw [(hf c hc).1] at e; cases e
    have tI : IsPair h1 (n + 2) (.ref n) (.ref (n + 1)) := hk _ _ (ne 2 (by decide)) (fun z => absurd (Nat.add_left_cancel z : (2 : Nat) = 3) (by decide)) (fun z => absurd (Nat.add_left_cancel (k := 0) (m := 2) (n := n) z) (by decide)) (fun z => absurd (Nat.add_left_cancel z : (2 : Nat) = 1) (by decide)) e2
    refine ⟨.ref s.heap.objs.size, upd H s.heap.objs.size (.tup [x, y]), ?_, rfl, ⟨_, x, y, rfl, hn, rfl, fun zs ws h1 h2 => by rw [I.list_inj h1 hq, I.list_inj h2 hr]; exact ⟨hx, hy⟩⟩,
      ⟨z2, (hs2.2 _ (ne 2 (by decide))).trans tI, ⟨_, _, (hs2.2 _ (ne 3 (by decide))).trans t1⟩, l1.at fun o e => (hs2.2 _ (ne 0 (by decide))).trans e, l2.at fun o e => (hs2.2 _ (ne 1 (by decide))).trans e⟩, fun c hc => ?_⟩
    · show Inv X pins σ (upd H s.heap.objs.size (.tup [x, y])) { s with heap := h2, gens := s.gens, drawn := s.drawn, toks := s.toks }
      refine I.step (h' := h2) (g' := s.gens) (d' := s.drawn) (t' := s.toks) (ch := [n + 4, n + 2, n + 3, n, n + 1]) (fun c hc => ?_) (fun c o _ _ hc e _ => kp c o hc e) (fun c o _ _ hc e _ => ⟨o.slots, kp c o hc e⟩) (fun c o hc e m => ?_)
        (fun c o hc e => ⟨o, kp c o hc e⟩) (fun c zs e => ?_) (fun c o v e => ?_) (fun c ps e => ⟨#[], ?_⟩) (fun m hm => ?_) (fun c v e => ?_) I.bare
      · obtain ⟨f0, f1, f2, f3, f4, f5⟩ := hf c hc
        exact ⟨f3, f1, f4, f5⟩
      · rw [upd_ne (Nat.ne_of_lt (Heap.lt_size e))]; exact m
      · rw [upd_ne (ne_of_none e hn)]; exact e
      · rw [upd_ne (ne_of_none e hn)]; exact e
      · rw [upd_ne (ne_of_none e hn), e]; simp
      · obtain ⟨o, es, ep, ho', r⟩ := hm
        exact ⟨o, es, ep, kp _ o (fun hc => (hf _ hc).2.1 rfl) ho', r⟩
      · by_cases hc : c = s.heap.objs.size
        · subst hc
          rw [upd_same] at e
          cases e
          exact ⟨by show 2 ≤ sizeLine; decide, [u1, u2], .cons ru1 (.cons ru2 .nil), _, hT2, rfl, _, rfl⟩
        · rw [upd_ne hc] at e
          refine (I.hok c v e).stay (fun d o hd q => ?_) (fun d q => ?_) fun d zs q => ?_
          · rcases hd with z | z
            · subst z; exact kp _ o (nb _ _ e) q
            · exact kp _ o (nb _ _ z) q
          · rw [upd_ne (ne_of_none q hn)]; exact q
          · rw [upd_ne (ne_of_none q hn)]; exact q
    · have hc' : c < s.heap.objs.size := by
        simp only [List.mem_cons, List.not_mem_nil, or_false] at hc
        rcases hc with z | z | z | z | z
        · rw [z]; exact lz
        · rw [z]; exact Nat.lt_trans (Nat.add_lt_add_left (by decide) n) lz
        · rw [z]; exact Nat.lt_trans (Nat.add_lt_add_left (by decide) n) lz
        · rw [z]; exact Nat.lt_of_le_of_lt (Nat.le_add_right n 4) lz
        · rw [z]; exact Nat.lt_trans (Nat.add_lt_add_left (by decide) n) lz
      rw [upd_ne (Nat.ne_of_lt hc')]
      exact (hf c hc).1
  done := by
    intro X hP hw hK hc i pins s σ H E I hf st hg
    subst hP hw hK
    obtain ⟨e1, e2, ⟨u0, v0, e3⟩, e4, e5⟩ := st
    obtain ⟨xs, ys, hq, hr, hx⟩ := hg
    obtain ⟨i1, r1, p1, _⟩ := I.list hq
    obtain ⟨i2, r2, p2, _⟩ := I.list hr
    have l1 := r1.length
    refine wpAny_pyNext_zip_end (I.ok.hd hc) (zipApart_new ha hb) e1 e2 e3 e4 e5 p1.isList p2.isList (.inl (by simp; omega)) fun h' kk => ⟨rfl, ?_⟩
    have kp : ∀ c o, c ∉ [n + 4, n + 2, n + 3, n, n + 1] → s.heap.get? c = some o → h'.get? c = some o := fun c o hc e => by
      simp only [List.mem_cons, List.not_mem_nil, or_false, not_or] at hc
      exact kk c o hc.1 hc.2.2.1 hc.2.2.2.1 hc.2.2.2.2 e
    have nb : ∀ c o, H c = some o → c ∉ [n + 4, n + 2, n + 3, n, n + 1] := fun c o e hc => by rw [(hf c hc).1] at e; cases e
    have th : ∀ c o, s.heap.get? c = some o → c ∈ [n + 4, n + 2, n + 3, n, n + 1] ∨ c ∉ [n + 4, n + 2, n + 3, n, n + 1] := fun c o _ => Decidable.em _
    show Inv X pins σ H { s with heap := h', gens := s.gens, drawn := s.drawn, toks := s.toks }
    refine I.step (h' := h') (g' := s.gens) (d' := s.drawn) (t' := s.toks) (ch := [n + 4, n + 2, n + 3, n, n + 1]) (fun c hc => ?_) (fun c o _ _ hc e _ => kp c o hc e) (fun c o _ _ hc e _ => ⟨o.slots, kp c o hc e⟩) (fun c o hc e m => m)
      (fun c o hc e => ⟨o, kp c o hc e⟩) (fun c zs e => e) (fun c o v e => e) (fun c ps e => ⟨#[], by rw [e]; simp⟩) (fun m hm => ?_) (fun c v e => ?_) I.bare
    · obtain ⟨f0, f1, f2, f3, f4, f5⟩ := hf c hc
      exact ⟨f3, f1, f4, f5⟩
    · obtain ⟨o, es, ep, ho', r⟩ := hm
      exact ⟨o, es, ep, kp _ o (fun hc => (hf _ hc).2.1 rfl) ho', r⟩
    · refine (I.hok c v e).stay (fun d o hd q => ?_) (fun d q => q) fun d zs q => q
      rcases hd with z | z
      · subst z; exact kp _ o (nb _ _ e) q
      · exact kp _ o (nb _ _ z) q
  self := fun _ _ _ _ _ st h => wpAny_pyIter_zip st.1 h
def iZip (K : PySem.W.Frag) (ta : TA) : TI := fun σ H R => ta σ H fun vs H1 => ∃ a b, vs = [.ref a, .ref b] ∧ (∃ xs, SqL K H1 a xs) ∧ (∃ ys, SqL K H1 b ys) ∧ R (Itz K a b) H1
theorem pi_zip {X : Cx} {elts : List Expr} {kk : Nat} {tpos : Pos} {a b : Expr} {ta : TA} {p pos : Pos} (hg : Gl X "zip") (hm : X.mg "zip" = none) (ha : PA X [a, b] ta)
    (he : starEach [a, b] X.env = (false, eval a X.env) :: starEach [b] X.env := by rfl) (hpl : (backTo pos (starEach [b] X.env)).any (·.1) = false := by rfl) :
    PI X (.Tuple elts kk tpos) (.Call (.Name "zip" p) [a, b] [] pos) (iZip X.K ta) := by
  intro pins s σ H R I h
  refine wpAny_Call_Name_kw (ld_blt I hg hm boot_zip (PyProof.Rows.callWith_type1 (thn (ha pos pins s σ H _ I h) fun us s1 ⟨vs, H1, I1, r1, q1⟩ => ?_) he hpl) (by decide) (by decide))
  obtain ⟨l, m, e, ⟨xs, hq⟩, ⟨ys, hr⟩, q⟩ := q1
  subst e
  obtain ⟨u, v, rfl, ru, rv⟩ := r1.two
  cases (show u = Value.ref l from ru)
  cases (show v = Value.ref m from rv)
  obtain ⟨i1, _, p1, _⟩ := I1.list hq
  obtain ⟨i2, _, p2, _⟩ := I1.list hr
  have l1 : l < s1.heap.objs.size := let ⟨_, e, _⟩ := p1.isList; Heap.lt_size e
  have l2 : m < s1.heap.objs.size := let ⟨_, e, _⟩ := p2.isList; Heap.lt_size e
  refine call_zip_2 p1.isList p2.isList fun h' z1 z2 z3 z4 z5 hz hk => wpAny_pyIter_zip z1 ?_
  refine ⟨s1.heap.objs.size + 4, [s1.heap.objs.size + 4, s1.heap.objs.size + 2, s1.heap.objs.size + 3, s1.heap.objs.size, s1.heap.objs.size + 1], _, Itz X.K l m, H1, rfl, I1.kept (t' := s1.toks) hk, turn_zip l m s1.heap.objs.size l1 l2, ⟨z1, z2, ⟨_, _, z3⟩, z4, z5⟩, fun b hb => ?_, q⟩
  have hb' : s1.heap.objs.size ≤ b := by
    simp only [List.mem_cons, List.not_mem_nil, or_false] at hb
    rcases hb with z | z | z | z | z <;> rw [z]
    · exact Nat.le_add_right _ _
    · exact Nat.le_add_right _ _
    · exact Nat.le_add_right _ _
    · exact Nat.le_refl _
    · exact Nat.le_add_right _ _
  exact I1.fpOk hb' (I1.hok.fresh hb')
theorem for_zip {K : PySem.W.Frag} {a b : Addr} {xs ys : List V} {g : TG} {tb : TS} {D : Ends} {σ : St} {H : Hp} (Pv : Nat → St → Hp → Prop) (hlen : xs.length = ys.length) (h0 : Pv 0 σ H) (hl : ∀ i σ H, i ≤ xs.length → Pv i σ H → SqL K H a xs ∧ SqL K H b ys)
    (hs : ∀ i x y t σ H, xs[i]? = some x → ys[i]? = some y → Pv i σ H → H t = none → g (.ref t) σ (upd H t (.tup [x, y])) fun σ2 H2 => tb { D with nx := Pv (i + 1), ct := Pv (i + 1), bk := D.nx } σ2 H2) (hd : ∀ σ H, Pv xs.length σ H → D.nx σ H) :
    ∃ W : Nat → Nat → St → Hp → Prop, (∃ m, W 0 m σ H) ∧ ∀ i m σ H, W i m σ H →
      ((Itz K a b).stop i H ∧ D.nx σ H) ∨ ((Itz K a b).go i H ∧ ∃ N : St → Hp → Prop, (∀ σ' H', N σ' H' → ∃ m', m' < m ∧ W (i + 1) m' σ' H') ∧ ∀ x H', (Itz K a b).yld i H x H' → g x σ H' fun σ2 H2 => tb { D with nx := N, ct := N, bk := D.nx } σ2 H2) := by
  refine ⟨fun i m σ H => m = xs.length - i ∧ i ≤ xs.length ∧ Pv i σ H, ⟨xs.length, by simp, Nat.zero_le _, h0⟩, ?_⟩
  rintro i m σ H ⟨rfl, hi, p⟩
  obtain ⟨q1, q2⟩ := hl i σ H hi p
  by_cases hlt : i < xs.length
  · have hlt2 : i < ys.length := by omega
    refine .inr ⟨⟨xs, ys, xs[i], ys[i], q1, q2, by simp [hlt], by simp [hlt2]⟩, Pv (i + 1), fun σ' H' p' => ⟨xs.length - (i + 1), by omega, rfl, hlt, p'⟩, fun x H' y => ?_⟩
    obtain ⟨t, z, z', e1, e2, e3, y⟩ := y
    subst e1 e3
    obtain ⟨y1, y2⟩ := y xs ys q1 q2
    exact hs i z z' t σ _ y1 y2 p e2
  · have e : i = xs.length := by omega
    subst e
    exact .inl ⟨⟨xs, ys, q1, q2, Nat.le_refl _⟩, hd σ H p⟩
/-! ### alike -/
theorem eq_same {K : PySem.W.Frag} {H : Hp} {a : Addr} (n : Nat) : EqIs K n H (.ref a) (.ref a) true := fun P w A s u v hA hok kin r1 r2 => by
  cases r1
  cases r2
  exact SeqAt.EqAt.same _
theorem eq_int {K : PySem.W.Frag} {H : Hp} (n : Nat) (i : Int) : EqIs K n H (.int i) (.int i) true := by
  have z := (cInt.eq (K := K) (H := H) (x := i) (y := i) rfl rfl).mono (Nat.zero_le n)
  rwa [decide_eq_true rfl] at z
theorem eq_str {K : PySem.W.Frag} {H : Hp} (n : Nat) (i : Str) : EqIs K n H (.str i) (.str i) true := by
  have z := (cStr.eq (K := K) (H := H) (x := i) (y := i) rfl rfl).mono (Nat.zero_le n)
  rwa [decide_eq_true rfl] at z
theorem eq_tup {K : PySem.W.Frag} {H : Hp} {a b : Addr} {n : Nat} {us vs : List V} (ha : SqT K H a us) (hb : SqT K H b vs) (h : Paired (fun x y => EqIs K n H x y true) us vs) : EqIs K (n + 1) H (.ref a) (.ref b) true ∧ NeIs K (n + 1) H (.ref a) (.ref b) true := by
  obtain ⟨z1, z2⟩ := tupRc (e := fun _ => true) ha hb h.len fun j x y e1 e2 => by
    obtain ⟨v, ev, rv⟩ := h.get1 e1
    rw [e2] at ev
    cases ev
    exact rv
  have e : ((List.range us.length).all fun _ => true) = true := by simp
  rw [e] at z1 z2
  exact ⟨eqIs_ref z1 fun _ _ _ _ _ _ => rfl, z2⟩
theorem op_neV {X : Cx} (n : Nat) (hu : X.A.units + n < cLine) : OpR X (compareOp .NotEq) (fun x y H Q => NeIs X.K n H x y true ∧ Q (.bl false) H) := by
  intro pins s σ H x y v u Q I rx ry h
  exact h.1 X.prog X.w X.A s v u hu I.hok I.kIn rx ry X.prog X.w X.xe _ ⟨.bl false, H, I, rfl, h.2⟩
theorem op_eq_refs {X : Cx} (hu : X.A.units < cLine) : OpR X (compareOp .Eq) (fun x y H Q => ∃ a b xs, x = .ref a ∧ y = .ref b ∧ SqL X.K H a xs ∧ SqL X.K H b xs ∧ (∀ x ∈ xs, ∃ r, x = V.ref r) ∧ Q (.bl true) H) := by
  intro pins s σ H x y v u Q I rx ry h
  obtain ⟨a, b, xs, rfl, rfl, ha, hb, hr, q⟩ := h
  cases rx
  cases ry
  obtain ⟨i1, r1, p1, _⟩ := I.list ha
  obtain ⟨i2, r2, p2, _⟩ := I.list hb
  have e := vals_refs hr r1 r2
  subst e
  have z := PySem.SeqAt.RcAt.lists (A := X.A) (s := s) (e := fun _ => true) p1.isList p2.isList rfl hu (fun j h1 _ => PySem.SeqAt.EqAt.same _)
  have ez : ((List.range i1.toArray.size).all fun _ => true) = true := by simp
  rw [ez] at z
  exact z X.prog X.w X.xe _ ⟨.bl true, H, I, rfl, q⟩
end L2

set_option maxHeartbeats 1000000
/-! a sheet, as data -/
namespace Lo
open PySem L2
structure TxH (K : PySem.W.Frag) (CH : Addr) : Prop where
  cl : Cls K CH
  ht : NoAttr K CH "stand"
  hw : NoAttr K CH "rows"
  hs : NoAttr K CH "sent"
  hl : NoAttr K CH "latest"
structure Ah where
  (l dx rw sn : Addr)
def hf (S : Addr) (h : Ah) (v : V) : List (Str × V) := putF "latest" v (putF "sent" (.ref h.sn) (putF "rows" (.ref h.rw) (putF "stand" (.ref S) [])))
theorem putF_twice (f : Str) (v v' : V) : ∀ fs : List (Str × V), putF f v' (putF f v fs) = putF f v' fs
  | [] => by
    show (if f = f then _ else _) = _
    rw [if_pos rfl]
    rfl
  | (g, x) :: r => by
    by_cases e : g = f
    · show putF f v' (if g = f then _ else _) = (if g = f then _ else _)
      rw [if_pos e, if_pos e]
      show (if g = f then _ else _) = _
      rw [if_pos e]
    · show putF f v' (if g = f then _ else _) = (if g = f then _ else _)
      rw [if_neg e, if_neg e]
      show (if g = f then _ else _) = _
      rw [if_neg e, putF_twice f v v' r]
theorem hf_set (S : Addr) (h : Ah) (v v' : V) : putF "latest" v' (hf S h v) = hf S h v' := putF_twice _ _ _ _
theorem hf_lt (S : Addr) (h : Ah) (v : V) : (hf S h v).lookup ("latest" : Str) = some v := by
  unfold hf
  rw [lookup_putF, if_pos rfl]
theorem hf_sn (S : Addr) (h : Ah) (v : V) : (hf S h v).lookup ("sent" : Str) = some (.ref h.sn) := by
  unfold hf
  rw [lookup_putF, if_neg (by decide +kernel), lookup_putF, if_pos rfl]
theorem hf_rw (S : Addr) (h : Ah) (v : V) : (hf S h v).lookup ("rows" : Str) = some (.ref h.rw) := by
  unfold hf
  rw [lookup_putF, if_neg (by decide +kernel), lookup_putF, if_neg (by decide +kernel), lookup_putF, if_pos rfl]
theorem hf_st (S : Addr) (h : Ah) (v : V) : (hf S h v).lookup ("stand" : Str) = some (.ref S) := by
  unfold hf
  rw [lookup_putF, if_neg (by decide +kernel), lookup_putF, if_neg (by decide +kernel), lookup_putF, if_neg (by decide +kernel), lookup_putF, if_pos rfl]
theorem hf_no {S : Addr} {h : Ah} {v : V} {m : Str} (q : decide (m ∈ (["latest", "sent", "rows", "stand"] : List Str)) = false) : (hf S h v).lookup m = none := by
  have h' : m ∉ (["latest", "sent", "rows", "stand"] : List Str) := of_decide_eq_false q
  simp only [List.mem_cons, List.not_mem_nil, or_false, not_or] at h'
  obtain ⟨h1, h2, h3, h4⟩ := h'
  unfold hf
  rw [lookup_putF, if_neg h1, lookup_putF, if_neg h2, lookup_putF, if_neg h3, lookup_putF, if_neg h4]
  rfl
theorem hf_few (S : Addr) (h : Ah) (v : V) : (hf S h v).length < 1000 := fewF (n := 999) (fewF (n := 998) (fewF (n := 997) (fewF (n := 996) (by show 0 < 996; decide))))
/-- a letter to be: whereto, its word, its pact, what it bears -/
abbrev Ws := Int × Str × Addr × Addr
def WsAt (H : Hp) (x : Ws) (u : V) : Prop := ∃ t t2, u = .ref t ∧ H t = some (.tup [.int x.1, .ref t2]) ∧ H t2 = some (.tup [.str x.2.1, .ref x.2.2.1, .ref x.2.2.2])
theorem WsAt.keep {H H' : Hp} {x : Ws} {u : V} (e : TSame H H') (h : WsAt H x u) : WsAt H' x u := by
  obtain ⟨t, t2, rfl, h1, h2⟩ := h
  exact ⟨t, t2, rfl, e _ _ h1, e _ _ h2⟩
def LtAt (K : PySem.W.Frag) (H : Hp) (es : List (Pa × Str)) (x : Ws) (u : V) : Prop := ∃ t t2 nv, u = .ref t ∧ H t = some (.tup [.int x.1, .ref t2]) ∧ H t2 = some (.tup [.str x.2.1, .ref x.2.2.1, .ref x.2.2.2, nv]) ∧ NwAt K H es nv
theorem LtAt.keep {K : PySem.W.Frag} {H H' : Hp} {es : List (Pa × Str)} {x : Ws} {u : V} (e : TSame H H') (h : LtAt K H es x u) : LtAt K H' es x u := by
  obtain ⟨t, t2, nv, rfl, h1, h2, h3⟩ := h
  exact ⟨t, t2, nv, rfl, e _ _ h1, e _ _ h2, h3.keep e⟩
def Ah.own (h : Ah) (A : Ad) : List Addr := h.l :: h.rw :: h.sn :: A.own
def KpH (A : Ad) (h : Ah) (H H' : Hp) : Prop := ∀ b o, b ∉ h.own A → H b = some o → H' b = some o
structure ShA (CS CH : Addr) (K : PySem.W.Frag) (H : Hp) (A : Ad) (h : Ah) (d : Sd) (rs : List Addr) (ws : List Ws) (v : V) : Prop where
  st : St CS K H A d
  ins : H h.l = some (.ins CH h.dx (hf A.l h v))
  rws : H h.rw = some (.lst (rs.map V.ref))
  snt : ∃ us, H h.sn = some (.lst us) ∧ Paired (WsAt H) ws us
  lat : v = .non ∨ NwAt K H d.ends v
  n1 : h.l ∉ A.own
  n2 : h.rw ∉ A.own
  n3 : h.sn ∉ A.own
  n4 : h.rw ≠ h.sn
  n5 : A.l ≠ h.l
section
variable {CS CH : Addr} {K : PySem.W.Frag} {H H' : Hp} {A : Ad} {h : Ah} {d : Sd} {rs : List Addr} {ws : List Ws} {v : V}
theorem ShA.keep (q : ShA CS CH K H A h d rs ws v) (e : Same H H') : ShA CS CH K H' A h d rs ws v := by
  obtain ⟨us, h1, h2⟩ := q.snt
  exact ⟨q.st.keep e, e _ _ q.ins, e _ _ q.rws, ⟨us, e _ _ h1, Paired.mapP h2 fun _ _ z => z.keep e.ts⟩, q.lat.imp id fun z => z.keep e.ts, q.n1, q.n2, q.n3, q.n4, q.n5⟩
theorem ShA.own (q : ShA CS CH K H A h d rs ws v) {b : Addr} (hb : b ∈ h.own A) : ∃ o, H b = some o ∧ ∀ xs, o ≠ .tup xs := by
  simp only [Ah.own, List.mem_cons] at hb
  rcases hb with z | z | z | z
  · subst z; exact ⟨_, q.ins, fun xs e => by cases e⟩
  · subst z; exact ⟨_, q.rws, fun xs e => by cases e⟩
  · subst z; obtain ⟨us, e, _⟩ := q.snt; exact ⟨_, e, fun xs e => by cases e⟩
  · obtain ⟨us, stu⟩ := q.st
    obtain ⟨o, e, n, _⟩ := stu.own z
    exact ⟨o, e, n⟩
theorem ShA.ts (q : ShA CS CH K H A h d rs ws v) (k : KpH A h H H') : TSame H H' := fun b xs e => k b _ (fun hb => by
  obtain ⟨o, e1, n⟩ := q.own hb
  rw [e] at e1
  cases e1
  exact n xs rfl) e
end
section
variable (CS CH : Addr) (K : PySem.W.Frag)
def spHInit : Sp := fun vs H Q _ => ∃ l dx A d, vs = [.ref l, .ref A.l] ∧ H l = some (.ins CH dx []) ∧ St CS K H A d ∧ A.l ≠ l ∧ ∀ h H', h.l = l → ShA CS CH K H' A h d [] [] .non → H h.rw = none → H h.sn = none → Kp l H H' → Q .non H'
def spHRow : Sp := fun vs H Q _ => ∃ A h d rs ws v r w, vs = [.ref h.l, .ref r] ∧ ShA CS CH K H A h d rs ws v ∧ RwAt K H w r ∧ d.Small 60 ∧ d.cells.length ≤ 900 ∧ d.fits w ∧ rs.length ≤ 900 ∧
  ∀ b v' H', ShA CS CH K H' A h (d.keep r b w) (rs ++ [r]) ws v' → KpH A h H H' → Q .non H'
def spHSend : Sp := fun vs H Q _ => ∃ A h d rs ws v x, vs = [.ref h.l, .int x.1, .str x.2.1, .ref x.2.2.1, .ref x.2.2.2] ∧ ShA CS CH K H A h d rs ws v ∧ ws.length ≤ 900 ∧
  ∀ H', ShA CS CH K H' A h d rs (ws ++ [x]) v → KpH A h H H' → Q .non H'
def spHRows : Sp := fun vs H Q _ => ∃ A h d rs ws v, vs = [.ref h.l] ∧ ShA CS CH K H A h d rs ws v ∧ ∀ p H', Same H H' → H p = none → H' p = some (.lst (rs.map V.ref)) → Q (.ref p) H'
def spHLet : Sp := fun vs H Q _ => ∃ A h d rs ws v, vs = [.ref h.l] ∧ ShA CS CH K H A h d rs ws v ∧ d.ends.length < 64 ∧ ws.length ≤ 900 ∧ ∀ p us H', Same H H' → H p = none → H' p = some (.lst us) → Paired (LtAt K H' d.ends) ws us → Q (.ref p) H'
end
end Lo

set_option maxHeartbeats 4000000
namespace K35
open PySem L2 Lo
def top (i : Nat) : Stmt := PySem.Challenge.pw_pactroom_k35_a_sheet.main.body.getD i (.Pass ⟨0, 0, 0, 0⟩)
abbrev s__wall : Stmt := top 0
abbrev m_Sheet_init : Stmt := inClass (top 2) 0
abbrev m_Sheet_row : Stmt := inClass (top 2) 1
abbrev m_Sheet_send : Stmt := inClass (top 2) 2
abbrev m_Sheet_rows_told : Stmt := inClass (top 2) 3
abbrev m_Sheet_letters_told : Stmt := inClass (top 2) 4
abbrev m_Stand_init : Stmt := inClass (top 4) 0
abbrev m_Stand_keep : Stmt := inClass (top 4) 1
abbrev m_Stand_changes_of : Stmt := inClass (top 4) 2
abbrev m_Stand_cell_at : Stmt := inClass (top 4) 3
abbrev m_Stand_cells_told : Stmt := inClass (top 4) 4
abbrev m_Stand_outcome : Stmt := inClass (top 4) 5
abbrev m_Stand_news : Stmt := inClass (top 4) 6
abbrev m_Stand_bound : Stmt := inClass (top 4) 7
abbrev m_Stand_lost : Stmt := inClass (top 4) 8
abbrev m_Stand_begun : Stmt := inClass (top 4) 9
abbrev m_Stand_walked_at : Stmt := inClass (top 4) 10
abbrev m_Stand_is_over : Stmt := inClass (top 4) 11
abbrev s__law_cell_at : Stmt := top 6
abbrev s__law_row : Stmt := top 7
abbrev s__law_wish : Stmt := top 8
abbrev s__law_letters_right : Stmt := top 9
abbrev s__law_right : Stmt := top 10
abbrev s_law : Stmt := top 11
theorem sc_Sheet_init : FnScope ["self", "stand"] ["self", "stand"] (defScope m_Sheet_init) := ⟨rfl, rfl, rfl, by decide +kernel, rfl, by decide +kernel, by decide +kernel⟩
theorem sc_Sheet_row : FnScope ["self", "row"] ["self", "row"] (defScope m_Sheet_row) := ⟨rfl, rfl, rfl, by decide +kernel, rfl, by decide +kernel, by decide +kernel⟩
theorem sc_Sheet_send : FnScope ["self", "to", "word", "p", "more"] ["self", "to", "word", "p", "more"] (defScope m_Sheet_send) := ⟨rfl, rfl, rfl, by decide +kernel, rfl, by decide +kernel, by decide +kernel⟩
theorem sc_Sheet_rows_told : FnScope ["self"] ["self"] (defScope m_Sheet_rows_told) := ⟨rfl, rfl, rfl, by decide +kernel, rfl, by decide +kernel, by decide +kernel⟩
theorem sc_Sheet_letters_told : FnScope ["self", "news"] ["self"] (defScope m_Sheet_letters_told) := ⟨rfl, rfl, rfl, by decide +kernel, rfl, by decide +kernel, by decide +kernel⟩
def cm_Sheet_letters_told_0 : Scope := match defBody m_Sheet_letters_told with
  | _ :: .Return (some (.ListComp _ _ sc _)) _ :: _ => sc
  | _ => default
theorem sb_Sheet_letters_told_0 : BlkScope ["self", "news"] (defScope m_Sheet_letters_told) cm_Sheet_letters_told_0 "pair" ["pair", "news"] [1] := ⟨by decide +kernel, rfl, by decide +kernel, rfl, by decide +kernel, by decide +kernel, rfl, rfl, by decide +kernel⟩
theorem sc_Stand_init : FnScope ["self", "cells"] ["self", "cells"] (defScope m_Stand_init) := ⟨rfl, rfl, rfl, by decide +kernel, rfl, by decide +kernel, by decide +kernel⟩
theorem sc_Stand_keep : FnScope ["self", "row", "change", "p"] ["self", "row"] (defScope m_Stand_keep) := ⟨rfl, rfl, rfl, by decide +kernel, rfl, by decide +kernel, by decide +kernel⟩
theorem sc_Stand_changes_of : FnScope ["self", "row"] ["self", "row"] (defScope m_Stand_changes_of) := ⟨rfl, rfl, rfl, by decide +kernel, rfl, by decide +kernel, by decide +kernel⟩
theorem sc_Stand_cells_told : FnScope ["self"] ["self"] (defScope m_Stand_cells_told) := ⟨rfl, rfl, rfl, by decide +kernel, rfl, by decide +kernel, by decide +kernel⟩
theorem sc_Stand_news : FnScope ["self"] ["self"] (defScope m_Stand_news) := ⟨rfl, rfl, rfl, by decide +kernel, rfl, by decide +kernel, by decide +kernel⟩
theorem sc__law_cell_at : FnScope ["_law_script", "_law_k"] ["_law_script", "_law_k"] (defScope s__law_cell_at) := ⟨rfl, rfl, rfl, by decide +kernel, rfl, by decide +kernel, by decide +kernel⟩
theorem sc__law_row : FnScope ["_law_number", "_law_k", "_law_many", "_law_name", "_law_way", "_law_change"] ["_law_number", "_law_k", "_law_many"] (defScope s__law_row) := ⟨rfl, rfl, rfl, by decide +kernel, rfl, by decide +kernel, by decide +kernel⟩
theorem sc__law_wish : FnScope ["_law_number", "_law_k", "_law_words", "_law_name", "_law_hand", "_law_step", "_law_more"] ["_law_number", "_law_k"] (defScope s__law_wish) := ⟨rfl, rfl, rfl, by decide +kernel, rfl, by decide +kernel, by decide +kernel⟩
theorem sc__law_letters_right : FnScope ["_law_found", "_law_wishes", "_law_news", "_law_one", "_law_wish_here"] ["_law_found", "_law_wishes", "_law_news"] (defScope s__law_letters_right) := ⟨rfl, rfl, rfl, by decide +kernel, rfl, by decide +kernel, by decide +kernel⟩
theorem sc__law_right : FnScope ["_law_sheet", "_law_rows", "_law_wishes", "_law_ends", "_law_news", "_law_found", "_law_letters"] ["_law_sheet", "_law_rows", "_law_wishes", "_law_ends"] (defScope s__law_right) := ⟨rfl, rfl, rfl, by decide +kernel, rfl, by decide +kernel, by decide +kernel⟩
def cm__law_right_0 : Scope := match defBody s__law_right with
  | .Assign _ (.Call _ [(.Call _ [.ListComp _ _ sc _] _ _)] _ _) _ :: _ => sc
  | _ => default
theorem sb__law_right_0 : BlkScope ["_law_sheet", "_law_rows", "_law_wishes", "_law_ends", "_law_news", "_law_found", "_law_letters"] (defScope s__law_right) cm__law_right_0 "_law_row_here" ["_law_row_here"] [] := ⟨by decide +kernel, rfl, by decide +kernel, rfl, by decide +kernel, by decide +kernel, rfl, rfl, fun j h => absurd h (Nat.not_lt_zero j)⟩
theorem sc_law : FnScope ["_law_script", "_law_many", "_law_stand", "_law_ends", "_law_sheet", "_law_rows", "_law_wishes", "_law_due", "_law_k", "_law_number", "_law_row_here", "_law_wish_here"] ["_law_script"] (defScope s_law) := ⟨rfl, rfl, rfl, by decide +kernel, rfl, by decide +kernel, by decide +kernel⟩
def cm_law_0 : Scope := match defBody s_law with
  | _ :: .Assign _ (.Call _ [.ListComp _ _ sc _] _ _) _ :: _ => sc
  | _ => default
theorem sb_law_0 : BlkScope ["_law_script", "_law_many", "_law_stand", "_law_ends", "_law_sheet", "_law_rows", "_law_wishes", "_law_due", "_law_k", "_law_number", "_law_row_here", "_law_wish_here"] (defScope s_law) cm_law_0 "_law_k" ["_law_k"] [] := ⟨by decide +kernel, rfl, by decide +kernel, rfl, by decide +kernel, by decide +kernel, rfl, rfl, fun j h => absurd h (Nat.not_lt_zero j)⟩
def cm_law_1 : Scope := match defBody s_law with
  | _ :: _ :: _ :: _ :: _ :: _ :: _ :: .Assign _ (.ListComp _ _ sc _) _ :: _ => sc
  | _ => default
theorem sb_law_1 : BlkScope ["_law_script", "_law_many", "_law_stand", "_law_ends", "_law_sheet", "_law_rows", "_law_wishes", "_law_due", "_law_k", "_law_number", "_law_row_here", "_law_wish_here"] (defScope s_law) cm_law_1 "_law_k" ["_law_k"] [] := ⟨by decide +kernel, rfl, by decide +kernel, rfl, by decide +kernel, by decide +kernel, rfl, rfl, fun j h => absurd h (Nat.not_lt_zero j)⟩
end K35

set_option maxHeartbeats 4000000
namespace K35
open PySem L2 Lo
section
variable {P : Program} {w : World} {K : PySem.W.Frag} {mg : Str → Option Value} {base : Heap} {f CS : Addr} {fd : FuncData}
/-! ### what stands -/
theorem ok_sinit (F : Fun K "__init__" "Stand.__init__" m_Stand_init f fd) (B : TxB mg) (D : TxD K CS) : FnOk P w K mg base CX0 1 f fd ["self", "cells"] (spSInit CS K) := by
  refine F.ok sc_Stand_init (fun vs H Q E h => ?_) (fun cdv A outer s H vs Q E hr h => ?_)
  · obtain ⟨l, dx, c, cs, rfl, _⟩ := h
    rfl
  obtain ⟨l, dx, c, cs, rfl, hl, hc, hz, q⟩ := h
  refine ⟨_, pss_cons (ps_fld (pv 0) (pe_callTy call_list_of rfl B.list PyProof.Rows.boot_list (pa_cons (pv 1) pa_nil)) rfl)
    (pss_cons (ps_fld (pv 0) (pe_lst pa_nil) rfl) (pss_cons (ps_fld (pv 0) pe_dnewT rfl) (pss_cons (ps_fld (pv 0) pe_dnewT rfl) (pss_cons (ps_fld (pv 0) pe_dnewT rfl) (pss_cons (ps_fld (pv 0) pe_dnewN rfl) (pss_one (ps_fld (pv 0) pe_dnewT rfl))))))), ?_⟩
  refine ⟨_, rfl, c, _, rfl, .inl (SqL.of hc), fun cl n1 => ?_⟩
  obtain ⟨a1, a2, a3, k1⟩ := fld_new (o := .lst (cs.map V.int)) (fs' := putF "cells" (.ref cl) []) hl n1
  refine ⟨_, rfl, l, CS, dx, _, rfl, a1, D.cl, D.nc, (by show 0 < 1000; decide), ?_⟩
  have z1 : cl ≠ l := ne_of a3 a2 (by intro z; cases z)
  generalize (upd (upd H cl (.lst (cs.map V.int))) l (.ins CS dx (putF "cells" (.ref cl) []))) = H1 at a2 a3 k1 ⊢
  refine ⟨(by show 0 ≤ sizeLine; decide), fun bg n2 => ?_⟩
  obtain ⟨b1, b2, b3, k2⟩ := fld_new (o := .lst []) (fs' := putF "begins" (.ref bg) (putF "cells" (.ref cl) [])) a2 n2
  refine ⟨_, rfl, l, CS, dx, _, rfl, b1, D.cl, D.nb, (fewF (n := 999) (by show 0 < 999; decide)), ?_⟩
  have z2 : bg ≠ l := ne_of b3 b2 (by intro z; cases z)
  generalize (upd (upd H1 bg (.lst [])) l (.ins CS dx (putF "begins" (.ref bg) (putF "cells" (.ref cl) [])))) = H2 at b2 b3 k2 ⊢
  refine fun wk n3 => ?_
  obtain ⟨c1, c2, c3, k3⟩ := fld_new (o := .dT []) (fs' := putF "worked" (.ref wk) (putF "begins" (.ref bg) (putF "cells" (.ref cl) []))) b2 n3
  refine ⟨_, rfl, l, CS, dx, _, rfl, c1, D.cl, D.nw, (fewF (n := 999) (fewF (n := 998) (by show 0 < 998; decide))), ?_⟩
  have z3 : wk ≠ l := ne_of c3 c2 (by intro z; cases z)
  generalize (upd (upd H2 wk (.dT [])) l (.ins CS dx (putF "worked" (.ref wk) (putF "begins" (.ref bg) (putF "cells" (.ref cl) []))))) = H3 at c2 c3 k3 ⊢
  refine fun rd n4 => ?_
  obtain ⟨d1, d2, d3, k4⟩ := fld_new (o := .dT []) (fs' := putF "readies" (.ref rd) (putF "worked" (.ref wk) (putF "begins" (.ref bg) (putF "cells" (.ref cl) [])))) c2 n4
  refine ⟨_, rfl, l, CS, dx, _, rfl, d1, D.cl, D.nr, (fewF (n := 999) (fewF (n := 998) (fewF (n := 997) (by show 0 < 997; decide)))), ?_⟩
  have z4 : rd ≠ l := ne_of d3 d2 (by intro z; cases z)
  generalize (upd (upd H3 rd (.dT [])) l (.ins CS dx (putF "readies" (.ref rd) (putF "worked" (.ref wk) (putF "begins" (.ref bg) (putF "cells" (.ref cl) [])))))) = H4 at d2 d3 k4 ⊢
  refine fun en n5 => ?_
  obtain ⟨e1, e2, e3, k5⟩ := fld_new (o := .dT []) (fs' := putF "ends" (.ref en) (putF "readies" (.ref rd) (putF "worked" (.ref wk) (putF "begins" (.ref bg) (putF "cells" (.ref cl) []))))) d2 n5
  refine ⟨_, rfl, l, CS, dx, _, rfl, e1, D.cl, D.ne, (fewF (n := 999) (fewF (n := 998) (fewF (n := 997) (fewF (n := 996) (by show 0 < 996; decide))))), ?_⟩
  have z5 : en ≠ l := ne_of e3 e2 (by intro z; cases z)
  generalize (upd (upd H4 en (.dT [])) l (.ins CS dx (putF "ends" (.ref en) (putF "readies" (.ref rd) (putF "worked" (.ref wk) (putF "begins" (.ref bg) (putF "cells" (.ref cl) []))))))) = H5 at e2 e3 k5 ⊢
  refine fun wa n6 => ?_
  obtain ⟨f1, f2, f3, k6⟩ := fld_new (o := NDt wa []) (fs' := putF "walks" (.ref wa) (putF "ends" (.ref en) (putF "readies" (.ref rd) (putF "worked" (.ref wk) (putF "begins" (.ref bg) (putF "cells" (.ref cl) [])))))) e2 n6
  refine ⟨_, rfl, l, CS, dx, _, rfl, f1, D.cl, D.na, (fewF (n := 999) (fewF (n := 998) (fewF (n := 997) (fewF (n := 996) (fewF (n := 995) (by show 0 < 995; decide)))))), ?_⟩
  have z6 : wa ≠ l := ne_of f3 f2 (by intro z; cases z)
  generalize (upd (upd H5 wa (NDt wa [])) l (.ins CS dx (putF "walks" (.ref wa) (putF "ends" (.ref en) (putF "readies" (.ref rd) (putF "worked" (.ref wk) (putF "begins" (.ref bg) (putF "cells" (.ref cl) [])))))))) = H6 at f2 f3 k6 ⊢
  refine fun ov n7 => ?_
  obtain ⟨g1, g2, g3, k7⟩ := fld_new (o := .dT []) (fs' := sf ⟨l, dx, cl, bg, wk, rd, en, wa, ov⟩) f2 n7
  refine ⟨_, rfl, l, CS, dx, _, rfl, g1, D.cl, D.no, (fewF (n := 999) (fewF (n := 998) (fewF (n := 997) (fewF (n := 996) (fewF (n := 995) (fewF (n := 994) (by show 0 < 994; decide))))))), ?_⟩
  have z7 : ov ≠ l := ne_of g3 g2 (by intro z; cases z)
  have a4 := k2 _ _ z1 a3
  have a5 := k3 _ _ z1 a4
  have a6 := k4 _ _ z1 a5
  have a7 := k5 _ _ z1 a6
  have a8 := k6 _ _ z1 a7
  have a9 := k7 _ _ z1 a8
  have b4 := k3 _ _ z2 b3
  have b5 := k4 _ _ z2 b4
  have b6 := k5 _ _ z2 b5
  have b7 := k6 _ _ z2 b6
  have b8 := k7 _ _ z2 b7
  have c4 := k4 _ _ z3 c3
  have c5 := k5 _ _ z3 c4
  have c6 := k6 _ _ z3 c5
  have c7 := k7 _ _ z3 c6
  have d4 := k5 _ _ z4 d3
  have d5 := k6 _ _ z4 d4
  have d6 := k7 _ _ z4 d5
  have e4 := k6 _ _ z5 e3
  have e5 := k7 _ _ z5 e4
  have f4 := k7 _ _ z6 f3
  refine q ⟨l, dx, cl, bg, wk, rd, en, wa, ov⟩ _ rfl ⟨[], g2, ?_, .nil, (fun x hx => nomatch hx), ⟨(fun x hx => nomatch hx), List.nodup_nil⟩, ?_⟩ ?_ ((((((k1.trans k2).trans k3).trans k4).trans k5).trans k6).trans k7)
  · intro x hx
    simp only [conts, List.mem_cons, List.not_mem_nil, or_false] at hx
    rcases hx with e | e | e | e | e | e | e <;> subst e
    · exact a9
    · exact b8
    · exact c7
    · exact d6
    · exact e5
    · exact f4
    · exact g3
  · show [cl, bg, wk, rd, en, wa, ov].Nodup
    have y12 : cl ≠ bg := ne_of_none a3 n2
    have y13 : cl ≠ wk := ne_of_none a4 n3
    have y14 : cl ≠ rd := ne_of_none a5 n4
    have y15 : cl ≠ en := ne_of_none a6 n5
    have y16 : cl ≠ wa := ne_of_none a7 n6
    have y17 : cl ≠ ov := ne_of_none a8 n7
    have y23 : bg ≠ wk := ne_of_none b3 n3
    have y24 : bg ≠ rd := ne_of_none b4 n4
    have y25 : bg ≠ en := ne_of_none b5 n5
    have y26 : bg ≠ wa := ne_of_none b6 n6
    have y27 : bg ≠ ov := ne_of_none b7 n7
    have y34 : wk ≠ rd := ne_of_none c3 n4
    have y35 : wk ≠ en := ne_of_none c4 n5
    have y36 : wk ≠ wa := ne_of_none c5 n6
    have y37 : wk ≠ ov := ne_of_none c6 n7
    have y45 : rd ≠ en := ne_of_none d3 n5
    have y46 : rd ≠ wa := ne_of_none d4 n6
    have y47 : rd ≠ ov := ne_of_none d5 n7
    have y56 : en ≠ wa := ne_of_none e3 n6
    have y57 : en ≠ ov := ne_of_none e4 n7
    have y67 : wa ≠ ov := ne_of_none f3 n7
    simp [*]
  · intro b hb
    have hb' : b ∈ [cl, bg, wk, rd, en, wa, ov] := hb
    simp only [List.mem_cons, List.not_mem_nil, or_false] at hb'
    rcases hb' with e | e | e | e | e | e | e <;> subst e
    · exact n1
    · exact none_back k1 a2 n2
    · exact none_back (k1.trans k2) b2 n3
    · exact none_back ((k1.trans k2).trans k3) c2 n4
    · exact none_back (((k1.trans k2).trans k3).trans k4) d2 n5
    · exact none_back ((((k1.trans k2).trans k3).trans k4).trans k5) e2 n6
    · exact none_back (((((k1.trans k2).trans k3).trans k4).trans k5).trans k6) f2 n7
theorem ok_chg (F : Fun K "changes_of" "Stand.changes_of" m_Stand_changes_of f fd) (D : TxD K CS) : FnOk P w K mg base CX0 1 f fd ["self", "row"] (spChg CS K) := by
  refine F.ok sc_Stand_changes_of (fun vs H Q E h => ?_) (fun cdv A outer s H vs Q E hr h => ?_)
  · obtain ⟨A, d, r, w, rfl, _⟩ := h
    rfl
  obtain ⟨S, d, r, w, rfl, ⟨us0, st⟩, ⟨pv0, us, hrow, ⟨pa, rfl, hpa⟩, hm⟩, q⟩ := h
  refine ⟨_, pss_cons (ps_if (PW.pt (pw_and (pt_cmpR op_eq (pe_ix (r := rIxT K) ix_tup (pv 1) pe_int (fun _ _ => rfl)) pe_str (nomark _)) (pw_and (pt_cmpR op_eq (pe_ix (r := rIxT K) ix_tup (pv 1) pe_int (fun _ _ => rfl)) pe_str (nomark _)) (pw_and1 (pt_cmp (pc_din (hun1 hr) (pe_ix (r := rIxT K) ix_tup (pv 1) pe_int (fun _ _ => rfl)) (pe_fld (pv 0) rfl)))))))
      (pss_one (ps_ret (pe_ix (r := rIxT K) ix_tup (pe_dget (hun1 hr) (pe_fld (pv 0) rfl) (pe_ix (r := rIxT K) ix_tup (pv 1) pe_int (fun _ _ => rfl)) (fun _ _ => rfl)) pe_int (fun _ _ => rfl)))) pss_nil)
    (pss_cons (ps_if (PW.pt (pw_or (pt_cmpR op_eq (pe_ix (r := rIxT K) ix_tup (pv 1) pe_int (fun _ _ => rfl)) pe_str (nomark _)) (pw_or1 (pt_cmpR op_eq (pe_ix (r := rIxT K) ix_tup (pv 1) pe_int (fun _ _ => rfl)) pe_str (nomark _))))) (pss_one (ps_ret (pe_ix (r := rIxT K) ix_tup (pv 1) pe_int (fun _ _ => rfl)))) pss_nil)
    (pss_one (ps_ret (pe_tup pa_nil)))), ?_⟩
  refine ⟨_, rfl, r, _, _, _, rfl, rfl, SqT.of hrow, at0, rfl, _, rfl, ?_⟩
  by_cases e1 : w.wd = "end"
  · cases w with
    | fin p o =>
      obtain ⟨a, rfl⟩ := hm
      refine ite2 (fun _ => ?_) (fun c => absurd (decide_eq_true rfl) c)
      refine ⟨_, rfl, r, _, _, _, rfl, rfl, SqT.of hrow, rfl, rfl, _, rfl, ?_⟩
      by_cases eo : o = "done"
      · refine ite2 (fun _ => ?_) (fun c => absurd (decide_eq_true (congrArg V.str eo)) c)
        refine ⟨_, rfl, r, _, _, _, rfl, rfl, SqT.of hrow, rfl, _, rfl, S.l, CS, S.dx, _, _, rfl, st.ins, D.cl, D.nr, sf_rd S, S.rd, _, rfl, DGet.t (k := pk p) st.rdd hpa, _, rfl, ?_⟩
        rw [val_dR]
        cases er : rdOf d.ready p with
        | some x =>
          refine iteT ?_
          obtain ⟨x1, x2, x3⟩ := x
          have hmem : (x1, x2, x3) ∈ d.ready := List.mem_of_find?_eq_some er
          obtain ⟨pv', us', hrow', _, ⟨a', b', d', rfl, hch⟩⟩ := st.rd _ hmem
          refine ⟨_, rfl, S.l, CS, S.dx, _, _, rfl, st.ins, D.cl, D.nr, sf_rd S, _, rfl, r, _, _, _, rfl, rfl, SqT.of hrow, rfl, S.rd, .ref x2, rfl, ?_, x2, _, _, _, rfl, rfl, SqT.of hrow', rfl, ?_⟩
          · have g := DGet.t (k := pk p) st.rdd hpa
            rw [val_dR, er] at g
            exact g
          · refine q _ H (Same.refl H) ?_
            have e : d.chs (.fin p o) = x3 := by
              show (if o = "done" then ((rdOf d.ready p).map fun x => x.2.2).getD [] else []) = x3
              rw [if_pos eo, er]
              rfl
            rw [e]
            exact hch
        | none =>
          refine iteF ?_
          refine ⟨_, rfl, r, _, _, _, rfl, rfl, SqT.of hrow, rfl, rfl, _, rfl, ite2 (fun c => absurd (V.str.inj (of_decide_eq_true c)) (by simp only [Rw.wd]; decide +kernel)) (fun _ => ?_)⟩
          refine ⟨_, rfl, r, _, _, _, rfl, rfl, SqT.of hrow, rfl, rfl, _, rfl, ite2 (fun c => absurd (V.str.inj (of_decide_eq_true c)) (by simp only [Rw.wd]; decide +kernel)) (fun _ => ?_)⟩
          refine ⟨(by show 0 ≤ sizeLine; decide), fun t ht => q _ _ (same_new ht) ?_⟩
          have e : d.chs (.fin p o) = [] := by
            show (if o = "done" then ((rdOf d.ready p).map fun x => x.2.2).getD [] else []) = []
            rw [if_pos eo, er]
            rfl
          rw [e]
          exact ⟨t, [], rfl, .inl upd_same, .nil⟩
      · refine ite2 (fun c => absurd (V.str.inj (of_decide_eq_true c)) eo) (fun _ => iteF ?_)
        refine ⟨_, rfl, r, _, _, _, rfl, rfl, SqT.of hrow, rfl, rfl, _, rfl, ite2 (fun c => absurd (V.str.inj (of_decide_eq_true c)) (by simp only [Rw.wd]; decide +kernel)) (fun _ => ?_)⟩
        refine ⟨_, rfl, r, _, _, _, rfl, rfl, SqT.of hrow, rfl, rfl, _, rfl, ite2 (fun c => absurd (V.str.inj (of_decide_eq_true c)) (by simp only [Rw.wd]; decide +kernel)) (fun _ => ?_)⟩
        refine ⟨(by show 0 ≤ sizeLine; decide), fun t ht => q _ _ (same_new ht) ?_⟩
        have e : d.chs (.fin p o) = [] := by
          show (if o = "done" then ((rdOf d.ready p).map fun x => x.2.2).getD [] else []) = []
          rw [if_neg eo]
        rw [e]
        exact ⟨t, [], rfl, .inl upd_same, .nil⟩
    | _ => exact absurd e1 (by simp only [Rw.wd]; decide +kernel)
  refine ite2 (fun c => absurd (V.str.inj (of_decide_eq_true c)) e1) (fun _ => iteF ?_)
  refine ⟨_, rfl, r, _, _, _, rfl, rfl, SqT.of hrow, at0, rfl, _, rfl, ?_⟩
  by_cases e2 : w.wd = "walked"
  · cases w with
    | walk p i ch =>
      obtain ⟨c, h, rfl, hch⟩ := hm
      refine ite2 (fun _ => ?_) (fun c => absurd (decide_eq_true rfl) c)
      refine iteT ⟨_, rfl, r, _, _, _, rfl, rfl, SqT.of hrow, rfl, q _ H (Same.refl H) hch⟩
    | _ => exact absurd e2 (by simp only [Rw.wd]; decide +kernel)
  refine ite2 (fun c => absurd (V.str.inj (of_decide_eq_true c)) e2) (fun _ => ?_)
  refine ⟨_, rfl, r, _, _, _, rfl, rfl, SqT.of hrow, at0, rfl, _, rfl, ?_⟩
  by_cases e3 : w.wd = "undone"
  · cases w with
    | undo p i ch =>
      obtain ⟨c, rfl, hch⟩ := hm
      refine ite2 (fun _ => ?_) (fun c => absurd (decide_eq_true rfl) c)
      exact ⟨_, rfl, r, _, _, _, rfl, rfl, SqT.of hrow, rfl, q _ H (Same.refl H) hch⟩
    | _ => exact absurd e3 (by simp only [Rw.wd]; decide +kernel)
  refine ite2 (fun c => absurd (V.str.inj (of_decide_eq_true c)) e3) (fun _ => ?_)
  refine ⟨(by show 0 ≤ sizeLine; decide), fun t ht => q _ _ (same_new ht) ?_⟩
  have e : d.chs w = [] := by
    cases w with
    | fin p o => exact absurd rfl e1
    | walk p i ch => exact absurd rfl e2
    | undo p i ch => exact absurd rfl e3
    | _ => rfl
  rw [e]
  exact ⟨t, [], rfl, .inl upd_same, .nil⟩
end
end K35

set_option maxHeartbeats 4000000
namespace K35
open PySem L2 Lo
section
variable {P : Program} {w : World} {K : PySem.W.Frag} {mg : Str → Option Value} {base : Heap} {f CS : Addr} {fd : FuncData}
theorem ok_keep (F : Fun K "keep" "Stand.keep" m_Stand_keep f fd) (D : TxD K CS) (GC : GM P w K mg base CX0 1 CS "changes_of" ["self", "row"] (spChg CS K)) : FnOk P w K mg base CX0 2 f fd ["self", "row"] (spKeep CS K) := by
  refine F.ok sc_Stand_keep (fun vs H Q E h => ?_) (fun cdv A outer s H vs Q E hr h => ?_)
  · obtain ⟨A, d, r, w, rfl, _⟩ := h
    rfl
  obtain ⟨S, d, r, w, rfl, ⟨us0, st⟩, rw0, sm, hcl, ⟨fit1, fit2⟩, q⟩ := h
  have nd := sc_Stand_keep.nd
  refine ⟨_, pss_cons (ps_for PassesOwn.never rfl (pi_tup (pm GC (pv 0) D.cl hr (pa_cons (pv 1) pa_nil))) (pg_name (i := 2) nd rfl (Or.inl rfl)) (pss_one (ps_asg (pe_ix (r := rIxT K) ix_tup (pv 2) pe_int (fun _ _ => rfl)) (pg_sub (pe_fld (pv 0) rfl) (pe_ix (r := rIxT K) ix_tup (pv 2) pe_int (fun _ _ => rfl)) set_list))))
    (pss_cons (ps_set (i := 3) nd rfl (Or.inl rfl) (pe_ix (r := rIxT K) ix_tup (pv 1) pe_int (fun _ _ => rfl)))
    (pss_one (ps_if (pt_cmpR op_eq (pe_ix (r := rIxT K) ix_tup (pv 1) pe_int (fun _ _ => rfl)) pe_str (nomark _)) (pss_one (ps_expr (pe_bm PySem.F.plainAttrs_list PySem.F.slot_list_append PySem.F.type_list_append mt_append (pe_fld (pv 0) rfl) (pa_cons (pe_tup (pa_cons (pv 3) (pa_cons (pe_ix (r := rIxT K) ix_tup (pv 1) pe_int (fun _ _ => rfl)) pa_nil))) pa_nil))))
    (pss_one (ps_if (pt_cmpR op_eq (pe_ix (r := rIxT K) ix_tup (pv 1) pe_int (fun _ _ => rfl)) pe_str (nomark _)) (pss_one (ps_dput (hun1 hr) (pe_fld (pv 0) rfl) (pv 3) pe_bl rfl))
    (pss_one (ps_if (pt_cmpR op_eq (pe_ix (r := rIxT K) ix_tup (pv 1) pe_int (fun _ _ => rfl)) pe_str (nomark _)) (pss_one (ps_dput (hun1 hr) (pe_fld (pv 0) rfl) (pv 3) (pv 1) rfl))
    (pss_one (ps_if (pt_cmpR op_eq (pe_ix (r := rIxT K) ix_tup (pv 1) pe_int (fun _ _ => rfl)) pe_str (nomark _)) (pss_one (ps_expr (pe_ddef (hun1 hr) (pe_fld (pv 0) rfl) (pv 3) (pe_ix (r := rIxT K) ix_tup (pv 1) pe_int (fun _ _ => rfl)) ⟨rfl, rfl, rfl, rfl⟩)))
    (pss_one (ps_if (pt_cmpR op_eq (pe_ix (r := rIxT K) ix_tup (pv 1) pe_int (fun _ _ => rfl)) pe_str (nomark _)) (pss_one (ps_dput (hun1 hr) (pe_fld (pv 0) rfl) (pv 3) pe_bl rfl))
    (pss_one (ps_nput (hun2 hr) (pe_fld (pv 0) rfl) (pe_tup (pa_cons (pv 3) (pa_cons (pe_ix (r := rIxT K) ix_tup (pv 1) pe_int (fun _ _ => rfl)) pa_nil))) (pv 1) rfl))))))))))))), ?_⟩
  refine ⟨_, rfl, S.l, S.dx, _, rfl, st.ins, sf_no (by decide +kernel), _, rfl, S, d, r, w, rfl, ⟨us0, st⟩, rw0, fun v H1 s1 hch => ?_⟩
  obtain ⟨dc, cus, rfl, hdc, pch⟩ := hch
  refine ⟨dc, rfl, ⟨_, hdc.sq⟩, ?_⟩
  have st1 := st.keep s1
  have hlen := pch.len
  refine for_tup (xs := cus) (fun i σ H' => ∃ x2 x3, σ = [some (.ref S.l), some (.ref r), x2, x3] ∧ StU CS K H' S { d with cells := apply d.cells ((d.chs w).take i) } us0 ∧ KpS S H1 H') ⟨none, none, rfl, st1, KpS.of (Same.refl _)⟩
    (fun i σ H' _ z => by obtain ⟨_, _, _, _, k⟩ := z; exact (hdc.keep (st1.ts k)).sq) ?_ ?_
  · rintro i u σ H2 hu ⟨x2, x3, rfl, st2, k2⟩
    obtain ⟨c, ec, rc⟩ := pch.get hu
    have t2 := st1.ts k2
    obtain ⟨ca, u1, u2, rfl, hca, e1, e2⟩ := cPa.keep t2 rc
    have e1' : u1 = .int c.1 := e1
    have e2' : u2 = .int c.2 := e2
    subst e1' e2'
    obtain ⟨f1, f2⟩ := fit1 c (List.mem_of_getElem? ec)
    have hc2 : ((apply d.cells ((d.chs w).take i)).map V.int).length = d.cells.length := by rw [List.length_map, apply_len]
    refine ⟨_, rfl, ca, _, _, _, rfl, rfl, hca.sq, rfl, _, rfl, S.l, CS, S.dx, _, _, rfl, st2.ins, D.cl, D.nc, sf_cl S, _, rfl, ca, _, _, _, rfl, rfl, hca.sq, rfl, S.cl, _, c.1, c.1.toNat, rfl, rfl, st2.cl, ?_, ?_⟩
    · rw [hc2]
      exact ixN_in f1 f2
    · have e : (d.chs w).take (i + 1) = (d.chs w).take i ++ [c] := by rw [List.take_succ, ec]; rfl
      have e3 : ((apply d.cells ((d.chs w).take i)).map V.int).set c.1.toNat (.int c.2) = (apply d.cells ((d.chs w).take (i + 1))).map V.int := by rw [e, apply_snoc, List.map_set]
      rw [e3]
      obtain ⟨st3, k3⟩ := st2.put 0 (a := S.cl) (o' := .lst ((apply d.cells ((d.chs w).take (i + 1))).map V.int)) (d' := { d with cells := apply d.cells ((d.chs w).take (i + 1)) }) rfl rfl st2.bg st2.rd st2.wa
      exact ⟨_, _, rfl, st3, k2.trans k3⟩
  · rintro σ H2 ⟨x2, x3, rfl, st2, k2⟩
    rw [← hlen, List.take_length] at st2
    have k02 : KpS S H H2 := (KpS.of s1).trans k2
    have rw2 := rw0.keep (st.ts k02)
    obtain ⟨pv0, us, hrow, ⟨pa, rfl, hpa⟩, hm⟩ := rw2
    refine ⟨_, rfl, r, _, _, _, rfl, rfl, SqT.of hrow, at1, ?_⟩
    refine ⟨_, rfl, r, _, _, _, rfl, rfl, SqT.of hrow, at0, rfl, _, rfl, ?_⟩
    by_cases e1 : w.wd = "begin"
    · cases w with
      | beg p t =>
        have hm' : us = [.str t] := hm
        subst hm'
        refine ite2 (fun _ => ?_) (fun c => absurd (decide_eq_true rfl) c)
        refine ⟨_, rfl, S.l, CS, S.dx, _, _, rfl, st2.ins, D.cl, D.nb, sf_bg S, .inl ⟨rfl, _, SqL.of st2.bgl⟩, _, rfl, _, rfl, r, _, _, _, rfl, rfl, SqT.of hrow, rfl, (by show 2 ≤ sizeLine; decide), fun tt ht => ?_⟩
        have s3 := same_new (o := .tup [.ref pa, .str t]) ht
        have st3 := st2.keep s3
        refine ⟨S.bg, _, _, rfl, rfl, st3.bgl, small1000 (by rw [← st3.bg.len]; have := sm.bg; show d.begins.length ≤ 1000; omega), ?_⟩
        obtain ⟨st4, k4⟩ := st3.put 1 (a := S.bg) (o' := .lst (us0 ++ [.ref tt])) (us' := us0 ++ [.ref tt]) (d' := d.keep r r (.beg p t)) rfl rfl (st3.bg.app (.cons ⟨tt, _, _, rfl, .inl upd_same, cPa_mk (k := p) (s3 _ _ hpa), rfl⟩ .nil)) st3.rd st3.wa
        exact q r _ ⟨_, st4⟩ ((k02.trans (KpS.of s3)).trans k4)
      | _ => exact absurd e1 (by simp only [Rw.wd]; decide +kernel)
    refine ite2 (fun c => absurd (V.str.inj (of_decide_eq_true c)) e1) (fun _ => ?_)
    refine ⟨_, rfl, r, _, _, _, rfl, rfl, SqT.of hrow, at0, rfl, _, rfl, ?_⟩
    by_cases e2 : w.wd = "work"
    · cases w with
      | work p =>
        refine ite2 (fun _ => ?_) (fun c => absurd (decide_eq_true rfl) c)
        refine ⟨_, rfl, S.l, CS, S.dx, _, _, rfl, st2.ins, D.cl, D.nw, sf_wk S, _, rfl, S.wk, _, rfl, DPut.t (k := pk p) st2.wk hpa (small1000 (by unfold dW; rw [List.length_map]; have := sm.wk; show d.worked.length ≤ 1000; omega)), ?_⟩
        rw [show ({ d with cells := apply d.cells (d.chs (Rw.work p)) } : Sd).worked = d.worked from rfl, put_dW]
        obtain ⟨st4, k4⟩ := st2.put 2 (a := S.wk) (o' := .dT (dW (addP d.worked p))) (d' := d.keep r r (.work p)) rfl rfl st2.bg st2.rd st2.wa
        exact q r _ ⟨_, st4⟩ (k02.trans k4)
      | _ => exact absurd e2 (by simp only [Rw.wd]; decide +kernel)
    refine ite2 (fun c => absurd (V.str.inj (of_decide_eq_true c)) e2) (fun _ => ?_)
    refine ⟨_, rfl, r, _, _, _, rfl, rfl, SqT.of hrow, at0, rfl, _, rfl, ?_⟩
    by_cases e3 : w.wd = "ready"
    · cases w with
      | ready p ch =>
        refine ite2 (fun _ => ?_) (fun c => absurd (decide_eq_true rfl) c)
        refine ⟨_, rfl, _, rfl, S.l, CS, S.dx, _, _, rfl, st2.ins, D.cl, D.nr, sf_rd S, _, rfl, S.rd, _, rfl, DPut.t (k := pk p) st2.rdd hpa (small1000 (by unfold dR; rw [List.length_map]; have := sm.rd; show d.ready.length ≤ 1000; omega)), ?_⟩
        rw [show ({ d with cells := apply d.cells (d.chs (Rw.ready p ch)) } : Sd).ready = d.ready from rfl, put_dR _ _ _ ch (fit2 p ch rfl)]
        obtain ⟨st4, k4⟩ := st2.put 3 (a := S.rd) (o' := .dT (dR (d.ready ++ [(p, r, ch)]))) (d' := d.keep r r (.ready p ch)) rfl rfl st2.bg (fun x hx => by
          rcases List.mem_append.mp hx with hx | hx
          · exact st2.rd x hx
          · have := List.mem_singleton.mp hx
            subst this
            exact ⟨_, us, hrow, ⟨pa, rfl, hpa⟩, hm⟩) st2.wa
        exact q r _ ⟨_, st4⟩ (k02.trans k4)
      | _ => exact absurd e3 (by simp only [Rw.wd]; decide +kernel)
    refine ite2 (fun c => absurd (V.str.inj (of_decide_eq_true c)) e3) (fun _ => ?_)
    refine ⟨_, rfl, r, _, _, _, rfl, rfl, SqT.of hrow, at0, rfl, _, rfl, ?_⟩
    by_cases e4 : w.wd = "end"
    · cases w with
      | fin p o =>
        obtain ⟨a, rfl⟩ := hm
        refine ite2 (fun _ => ?_) (fun c => absurd (decide_eq_true rfl) c)
        refine ⟨_, rfl, S.l, CS, S.dx, _, _, rfl, st2.ins, D.cl, D.ne, sf_en S, S.en, rfl, .inr ⟨_, .inl st2.en⟩, _, rfl, _, rfl, r, _, _, _, rfl, rfl, SqT.of hrow, rfl, _, pk p, pa, st2.en, rfl, hpa, (small1000 (by unfold dE; rw [List.length_map]; have := sm.en; show d.ends.length ≤ 1000; omega)), ?_, ?_⟩
        · intro v hv
          have hv' : (endOf d.ends p).map V.str = some v := by rw [← val_dE]; exact hv
          have es : (endOf d.ends p).isSome = true := by
            cases z : endOf d.ends p with
            | none => rw [z] at hv'; cases hv'
            | some y => rfl
          refine q r _ ⟨us0, ?_⟩ k02
          have : d.keep r r (.fin p o) = { d with cells := apply d.cells (d.chs (.fin p o)) } := by
            show ({ d with cells := apply d.cells (d.chs (.fin p o)), ends := setE d.ends p o } : Sd) = _
            unfold setE
            rw [if_pos es]
          rw [this]
          exact st2
        · intro hv
          have hv' : (endOf d.ends p).map V.str = none := by rw [← val_dE]; exact hv
          have es : ¬ (endOf d.ends p).isSome = true := by
            cases z : endOf d.ends p with
            | none => decide
            | some y => rw [z] at hv'; cases hv'
          have e : dE d.ends ++ [(pk p, V.str o)] = dE (setE d.ends p o) := by
            unfold setE dE
            rw [if_neg es, List.map_append]
            rfl
          rw [show ({ d with cells := apply d.cells (d.chs (Rw.fin p o)) } : Sd).ends = d.ends from rfl, e]
          obtain ⟨st4, k4⟩ := st2.put 4 (a := S.en) (o' := .dT (dE (setE d.ends p o))) (d' := d.keep r r (.fin p o)) rfl rfl st2.bg st2.rd st2.wa
          exact q r _ ⟨_, st4⟩ (k02.trans k4)
      | _ => exact absurd e4 (by simp only [Rw.wd]; decide +kernel)
    refine ite2 (fun c => absurd (V.str.inj (of_decide_eq_true c)) e4) (fun _ => ?_)
    refine ⟨_, rfl, r, _, _, _, rfl, rfl, SqT.of hrow, at0, rfl, _, rfl, ?_⟩
    by_cases e5 : w.wd = "over"
    · cases w with
      | over p =>
        refine ite2 (fun _ => ?_) (fun c => absurd (decide_eq_true rfl) c)
        refine ⟨_, rfl, S.l, CS, S.dx, _, _, rfl, st2.ins, D.cl, D.no, sf_ov S, _, rfl, S.ov, _, rfl, DPut.t (k := pk p) st2.ov hpa (small1000 (by unfold dW; rw [List.length_map]; have := sm.ov; show d.overs.length ≤ 1000; omega)), ?_⟩
        rw [show ({ d with cells := apply d.cells (d.chs (Rw.over p)) } : Sd).overs = d.overs from rfl, put_dW]
        obtain ⟨st4, k4⟩ := st2.put 6 (a := S.ov) (o' := .dT (dW (addP d.overs p))) (d' := d.keep r r (.over p)) rfl rfl st2.bg st2.rd st2.wa
        exact q r _ ⟨_, st4⟩ (k02.trans k4)
      | _ => exact absurd e5 (by simp only [Rw.wd]; decide +kernel)
    refine ite2 (fun c => absurd (V.str.inj (of_decide_eq_true c)) e5) (fun _ => ?_)
    obtain ⟨i, rest, rfl, ew⟩ : ∃ i rest, us = .int i :: rest ∧ ∀ b, d.keep r b w = { d with cells := apply d.cells (d.chs w), walks := nput d.walks (w.nm, i) b r } := by
      cases w with
      | walk p i ch => obtain ⟨c, h, rfl, _⟩ := hm; exact ⟨i, _, rfl, fun _ => rfl⟩
      | undo p i ch => obtain ⟨c, rfl, _⟩ := hm; exact ⟨i, _, rfl, fun _ => rfl⟩
      | void p i => exact ⟨i, [], hm, fun _ => rfl⟩
      | beg p t => exact absurd rfl e1
      | work p => exact absurd rfl e2
      | ready p ch => exact absurd rfl e3
      | fin p o => exact absurd rfl e4
      | over p => exact absurd rfl e5
    refine ⟨_, rfl, _, rfl, S.l, CS, S.dx, _, _, rfl, st2.ins, D.cl, D.na, sf_wa S, _, rfl, _, rfl, r, _, _, _, rfl, rfl, SqT.of hrow, at2, (by show 2 ≤ sizeLine; decide), fun tt ht => ?_⟩
    have s3 := same_new (o := .tup [.ref pa, .int i]) ht
    have st3 := st2.keep s3
    have nk : NKeyAt (upd H2 tt (.tup [.ref pa, .int i])) (w.nm, i) tt := ⟨pa, upd_same, s3 _ _ hpa⟩
    refine ⟨S.wa, tt, r, _, (w.nm, i), rfl, rfl, rfl, st3.wad, st3.wa, nk, (by have := sm.wa; exact small (by show d.walks.length ≤ 1000; omega)), ?_⟩
    obtain ⟨st4, k4⟩ := st3.put 5 (a := S.wa) (o' := NDt S.wa (nput d.walks (w.nm, i) tt r)) (d' := { d with cells := apply d.cells (d.chs w), walks := nput d.walks (w.nm, i) tt r }) rfl rfl st3.bg st3.rd (st3.wa.put r nk)
    refine q tt _ ⟨us0, ?_⟩ ((k02.trans (KpS.of s3)).trans k4)
    rw [ew tt]
    exact st4
theorem ok_cells (F : Fun K "cells_told" "Stand.cells_told" m_Stand_cells_told f fd) (B : TxB mg) (D : TxD K CS) : FnOk P w K mg base CX0 1 f fd ["self"] (spCells CS K) := by
  refine F.ok sc_Stand_cells_told (fun vs H Q E h => ?_) (fun cdv A outer s H vs Q E hr h => ?_)
  · obtain ⟨A, d, rfl, _⟩ := h
    rfl
  obtain ⟨S, d, rfl, ⟨us0, st⟩, q⟩ := h
  refine ⟨_, pss_one (ps_ret (pe_callTy call_list_of rfl B.list PyProof.Rows.boot_list (pa_cons (pe_fld (pv 0) rfl) pa_nil))), ?_⟩
  exact ⟨_, rfl, S.l, CS, S.dx, _, _, rfl, st.ins, D.cl, D.nc, sf_cl S, S.cl, _, rfl, .inl (SqL.of st.cl), fun p hp => q p _ (same_new hp) hp upd_same⟩
theorem ok_news (F : Fun K "news" "Stand.news" m_Stand_news f fd) (B : TxB mg) (D : TxD K CS) : FnOk P w K mg base CX0 1 f fd ["self"] (spNews CS K) := by
  refine F.ok sc_Stand_news (fun vs H Q E h => ?_) (fun cdv A outer s H vs Q E hr h => ?_)
  · obtain ⟨A, d, rfl, _⟩ := h
    rfl
  obtain ⟨S, d, rfl, ⟨us0, st⟩, h64, q⟩ := h
  refine ⟨_, pss_one (ps_ret (pe_callTy call_tuple_of rfl B.tuple PyProof.Rows.boot_tuple (pa_cons (pe_callB (call_sortedV rfl (hun (c := 3) hr)) rfl B.sorted PyProof.Rows.boot_sorted (pa_cons (pe_items (pe_fld (pv 0) rfl)) pa_nil)) pa_nil))), ?_⟩
  refine ⟨_, rfl, S.l, CS, S.dx, _, _, rfl, st.ins, D.cl, D.ne, sf_en S, S.en, _, rfl, st.en, fun v hv => ?_⟩
  have s1 := same_new (o := Vw v S.en) hv
  refine ⟨v, S.en, d.ends, rfl, upd_same, s1 _ _ st.en, h64, fun H' l ys s2 hl hp => ?_⟩
  have s3 := same_new (o := .lst ys) hl
  refine ⟨l, ys, rfl, .inl ⟨SqL.of upd_same, fun t ht => ?_⟩⟩
  have s4 := same_new (o := .tup ys) ht
  exact q _ _ (s1.trans (s2.trans (s3.trans s4))) ⟨t, ys, rfl, upd_same, Paired.mapP hp fun _ _ z => z.keep s4.ts⟩
theorem ok_cell (F : Fun K "_law_cell_at" "_law_cell_at" s__law_cell_at f fd) (B : TxB mg) : FnOk P w K mg base CX0 1 f fd ["_law_script", "_law_k"] (spCell K) := by
  refine F.ok sc__law_cell_at (fun vs H Q E h => ?_) (fun cdv A outer s H vs Q E hr h => ?_)
  · obtain ⟨a, ns, k, rfl, _⟩ := h
    rfl
  obtain ⟨a, ns, k, rfl, hS, q⟩ := h
  refine ⟨_, pss_cons (ps_if (pt_cmpR op_lt (pv 1) (pe_callB call_len_seq rfl B.len PySem.boot_len (pa_cons (pv 0) pa_nil)) (nomark _)) (pss_one (ps_ret (pe_ix ix_list (pv 0) (pv 1) (fun _ _ => rfl)))) pss_nil)
    (pss_one (ps_ret pe_int)), ?_⟩
  refine ⟨_, rfl, _, rfl, a, _, rfl, .inl hS, _, _, rfl, rfl, _, rfl, ?_⟩
  refine ite2 (fun c => ?_) (fun c => ?_)
  · have c' : (k : Int) < (((ns.map V.int).length : Nat) : Int) := of_decide_eq_true c
    rw [List.length_map] at c'
    have hk : k < ns.length := by omega
    have q1 : atI (ns.map V.int) ((k : Nat) : Int) = some (.int ns[k]) := atI_nat (by rw [List.getElem?_map, List.getElem?_eq_getElem hk] <;> rfl)
    have e : cellAt ns k = ns[k] := by unfold cellAt; rw [List.getElem?_eq_getElem hk]; rfl
    rw [e] at q
    exact ⟨_, rfl, _, rfl, a, _, _, _, rfl, rfl, hS, q1, q⟩
  · have c' : ¬ (k : Int) < (((ns.map V.int).length : Nat) : Int) := fun z => c (decide_eq_true z)
    rw [List.length_map] at c'
    have e : cellAt ns k = 0 := by unfold cellAt; rw [List.getElem?_eq_none (by omega)]; rfl
    rw [e] at q
    exact q
end
end K35

set_option maxHeartbeats 4000000
namespace K35
open PySem L2 Lo
section
variable {P : Program} {w : World} {K : PySem.W.Frag} {mg : Str → Option Value} {base : Heap} {f CS : Addr} {fd : FuncData}
/-! ### a sheet -/
variable {CH : Addr}
theorem ok_hinit (F : Fun K "__init__" "Sheet.__init__" m_Sheet_init f fd) (DH : TxH K CH) : FnOk P w K mg base CX0 1 f fd ["self", "stand"] (spHInit CS CH K) := by
  refine F.ok sc_Sheet_init (fun vs H Q E h => ?_) (fun cdv A outer s H vs Q E hr h => ?_)
  · obtain ⟨l, dx, A, d, rfl, _⟩ := h
    rfl
  obtain ⟨l, dx, S, d, rfl, hl, st, nSl, q⟩ := h
  refine ⟨_, pss_cons (ps_fld (pv 0) (pv 1) rfl) (pss_cons (ps_fld (pv 0) (pe_lst pa_nil) rfl) (pss_cons (ps_fld (pv 0) (pe_lst pa_nil) rfl) (pss_one (ps_fld (pv 0) pe_non rfl)))), ?_⟩
  refine ⟨_, rfl, _, rfl, l, CH, dx, _, rfl, hl, DH.cl, DH.ht, (by show 0 < 1000; decide), ?_⟩
  have k1 : Kp l H (upd H l (.ins CH dx (putF "stand" (.ref S.l) []))) := kp_upd
  have h1 : (upd H l (.ins CH dx (putF "stand" (.ref S.l) []))) l = some (.ins CH dx (putF "stand" (.ref S.l) [])) := upd_same
  generalize (upd H l (HO.ins CH dx (putF "stand" (.ref S.l) []))) = H1 at k1 h1 ⊢
  refine ⟨(by show 0 ≤ sizeLine; decide), fun rw' n1 => ?_⟩
  obtain ⟨b1, b2, b3, k2⟩ := fld_new (o := .lst []) (fs' := putF "rows" (.ref rw') (putF "stand" (.ref S.l) [])) h1 n1
  refine ⟨_, rfl, l, CH, dx, _, rfl, b1, DH.cl, DH.hw, (fewF (n := 999) (by show 0 < 999; decide)), ?_⟩
  have z2 : rw' ≠ l := ne_of b3 b2 (by intro z; cases z)
  generalize (upd (upd H1 rw' (.lst [])) l (.ins CH dx (putF "rows" (.ref rw') (putF "stand" (.ref S.l) [])))) = H2 at b2 b3 k2 ⊢
  refine ⟨(by show 0 ≤ sizeLine; decide), fun sn n2 => ?_⟩
  obtain ⟨c1, c2, c3, k3⟩ := fld_new (o := .lst []) (fs' := putF "sent" (.ref sn) (putF "rows" (.ref rw') (putF "stand" (.ref S.l) []))) b2 n2
  refine ⟨_, rfl, l, CH, dx, _, rfl, c1, DH.cl, DH.hs, (fewF (n := 999) (fewF (n := 998) (by show 0 < 998; decide))), ?_⟩
  have z3 : sn ≠ l := ne_of c3 c2 (by intro z; cases z)
  have b4 := k3 _ _ z2 b3
  generalize (upd (upd H2 sn (.lst [])) l (.ins CH dx (putF "sent" (.ref sn) (putF "rows" (.ref rw') (putF "stand" (.ref S.l) []))))) = H3 at c2 c3 k3 b4 ⊢
  refine ⟨_, rfl, l, CH, dx, _, rfl, c2, DH.cl, DH.hl, (fewF (n := 999) (fewF (n := 998) (fewF (n := 997) (by show 0 < 997; decide)))), ?_⟩
  have k4 : Kp l H3 (upd H3 l (.ins CH dx (hf S.l ⟨l, dx, rw', sn⟩ .non))) := kp_upd
  have h4 : (upd H3 l (.ins CH dx (hf S.l ⟨l, dx, rw', sn⟩ .non))) l = some (.ins CH dx (hf S.l ⟨l, dx, rw', sn⟩ .non)) := upd_same
  have kA : Kp l H (upd H3 l (.ins CH dx (hf S.l ⟨l, dx, rw', sn⟩ .non))) := k1.trans (k2.trans (k3.trans k4))
  have r0 : H rw' = none := none_back k1 h1 n1
  have s0 : H sn = none := none_back (k1.trans k2) b2 n2
  have no : ∀ {b : Addr}, H b = none → b ∉ S.own := fun {b} hb hm => by
    obtain ⟨us0, stu⟩ := st
    obtain ⟨o, e, _⟩ := stu.own hm
    rw [hb] at e
    cases e
  have lo : l ∉ S.own := fun hm => by
    obtain ⟨us0, stu⟩ := st
    obtain ⟨o, e, _, n⟩ := stu.own hm
    rw [hl] at e
    cases e
    exact n _ _ _ rfl
  have ts : TSame H (upd H3 l (.ins CH dx (hf S.l ⟨l, dx, rw', sn⟩ .non))) := fun b xs e => kA b _ (fun z => by rw [z, hl] at e; cases e) e
  exact q ⟨l, dx, rw', sn⟩ _ rfl ⟨st.kp kA lo ts nSl, h4, k4 _ _ z2 b4, ⟨[], k4 _ _ z3 c3, .nil⟩, .inl rfl, lo, no r0, no s0, ne_of_none b3 n2, nSl⟩ r0 s0 kA
theorem ok_hrow (F : Fun K "row" "Sheet.row" m_Sheet_row f fd) (D : TxD K CS) (DH : TxH K CH) (GK : GM P w K mg base CX0 2 CS "keep" ["self", "row"] (spKeep CS K)) (GW : GM P w K mg base CX0 1 CS "news" ["self"] (spNews CS K)) :
    FnOk P w K mg base CX0 3 f fd ["self", "row"] (spHRow CS CH K) := by
  refine F.ok sc_Sheet_row (fun vs H Q E h => ?_) (fun cdv A outer s H vs Q E hr h => ?_)
  · obtain ⟨A, h, d, rs, ws, v, r, w, rfl, _⟩ := h
    rfl
  obtain ⟨S, h, d, rs, ws, v, r, w0, rfl, sh, hw, sm, hc, fit, hrs, q⟩ := h
  refine ⟨_, pss_cons (ps_expr (pm GK (pe_fld (pv 0) rfl) D.cl hr (pa_cons (pv 1) pa_nil)))
    (pss_cons (ps_expr (pe_bm PySem.F.plainAttrs_list PySem.F.slot_list_append PySem.F.type_list_append mt_append (pe_fld (pv 0) rfl) (pa_cons (pv 1) pa_nil)))
    (pss_one (ps_fld (pv 0) (pm0 GW (pe_fld (pv 0) rfl) D.cl hr) rfl))), ?_⟩
  refine ⟨_, rfl, h.l, CH, h.dx, _, _, rfl, sh.ins, DH.cl, DH.ht, hf_st _ _ _, S.l, S.dx, _, rfl, sh.st.ins, sf_no (by decide +kernel), _, rfl, S, d, r, w0, rfl, sh.st, hw, sm.mono (by decide), hc, fit, fun kb H1 st1 k1 => ?_⟩
  have ts1 := sh.st.ts k1
  obtain ⟨us, hsn, pws⟩ := sh.snt
  have ins1 := k1 _ _ sh.n1 sh.ins
  have rws1 := k1 _ _ sh.n2 sh.rws
  have hsn1 := k1 _ _ sh.n3 hsn
  refine ⟨_, rfl, h.l, CH, h.dx, _, _, rfl, ins1, DH.cl, DH.hw, hf_rw _ _ _, .inl ⟨rfl, _, SqL.of rws1⟩, _, rfl, h.rw, _, _, rfl, rfl, rws1, small1000 (by rw [List.length_map]; omega), ?_⟩
  have kp2 : Kp h.rw H1 (upd H1 h.rw (.lst (rs.map V.ref ++ [.ref r]))) := kp_upd
  have ts2 : TSame H1 (upd H1 h.rw (.lst (rs.map V.ref ++ [.ref r]))) := fun b xs e => kp2 b _ (fun z => by rw [z, rws1] at e; cases e) e
  have nlr : h.l ≠ h.rw := ne_of ins1 rws1 (by intro z; cases z)
  have nls : h.l ≠ h.sn := ne_of ins1 hsn1 (by intro z; cases z)
  have ins2 := kp2 _ _ nlr ins1
  have hsn2 := kp2 _ _ (Ne.symm sh.n4) hsn1
  have rws2 : (upd H1 h.rw (.lst (rs.map V.ref ++ [.ref r]))) h.rw = some (.lst ((rs ++ [r]).map V.ref)) := by rw [upd_same, List.map_append]; rfl
  have st2 := st1.kp kp2 sh.n2 ts2 (fun z => by rw [← z, st1.ins] at rws1; cases rws1)
  generalize (upd H1 h.rw (HO.lst (rs.map V.ref ++ [.ref r]))) = H2 at kp2 ts2 ins2 hsn2 rws2 st2 ⊢
  have hen : (d.keep r kb w0).ends.length < 64 := Nat.lt_of_le_of_lt (sm.keep r kb w0).en (by decide)
  refine ⟨_, rfl, h.l, CH, h.dx, _, _, rfl, ins2, DH.cl, DH.ht, hf_st _ _ _, S.l, S.dx, _, rfl, st2.ins, sf_no (by decide +kernel), S, _, rfl, st2, hen, fun v' H3 s3 nw => ?_⟩
  have ins3 := s3 _ _ ins2
  refine ⟨_, rfl, h.l, CH, h.dx, _, rfl, ins3, DH.cl, DH.hl, hf_few _ _ _, ?_⟩
  rw [hf_set]
  have kp4 : Kp h.l H3 (upd H3 h.l (.ins CH h.dx (hf S.l h v'))) := kp_upd
  have ts4 : TSame H3 (upd H3 h.l (.ins CH h.dx (hf S.l h v'))) := fun b xs e => kp4 b _ (fun z => by rw [z, ins3] at e; cases e) e
  have tsA : TSame H (upd H3 h.l (.ins CH h.dx (hf S.l h v'))) := fun b xs e => ts4 _ _ (s3.ts _ _ (ts2 _ _ (ts1 _ _ e)))
  refine q kb v' _ ⟨(st2.keep s3).kp kp4 sh.n1 ts4 sh.n5, upd_same, kp4 _ _ (Ne.symm nlr) (s3 _ _ rws2), ⟨us, kp4 _ _ (Ne.symm nls) (s3 _ _ hsn2), Paired.mapP pws fun _ _ z => z.keep tsA⟩, .inr (nw.keep ts4), sh.n1, sh.n2, sh.n3, sh.n4, sh.n5⟩ fun b o nb e => ?_
  simp only [Ah.own, List.mem_cons, not_or] at nb
  exact kp4 _ _ nb.1 (s3 _ _ (kp2 _ _ nb.2.1 (k1 _ _ nb.2.2.2 e)))
theorem ok_hsend (F : Fun K "send" "Sheet.send" m_Sheet_send f fd) (DH : TxH K CH) : FnOk P w K mg base CX0 1 f fd ["self", "to", "word", "p", "more"] (spHSend CS CH K) := by
  refine F.ok sc_Sheet_send (fun vs H Q E h => ?_) (fun cdv A outer s H vs Q E hr h => ?_)
  · obtain ⟨A, h, d, rs, ws, v, x, rfl, _⟩ := h
    rfl
  obtain ⟨S, h, d, rs, ws, v, x, rfl, sh, hz, q⟩ := h
  obtain ⟨us, hsn, pws⟩ := sh.snt
  refine ⟨_, pss_one (ps_expr (pe_bm PySem.F.plainAttrs_list PySem.F.slot_list_append PySem.F.type_list_append mt_append (pe_fld (pv 0) rfl) (pa_cons (pe_tup (pa_cons (pv 1) (pa_cons (pe_tup (pa_cons (pv 2) (pa_cons (pv 3) (pa_cons (pv 4) pa_nil)))) pa_nil))) pa_nil))), ?_⟩
  refine ⟨_, rfl, h.l, CH, h.dx, _, _, rfl, sh.ins, DH.cl, DH.hs, hf_sn _ _ _, .inl ⟨rfl, _, SqL.of hsn⟩, _, rfl, _, rfl, _, rfl, _, rfl, (by show 3 ≤ sizeLine; decide), fun t2 ht2 => ⟨(by show 2 ≤ sizeLine; decide), fun t ht => ?_⟩⟩
  have s1 := same_new (o := .tup [.str x.2.1, .ref x.2.2.1, .ref x.2.2.2]) ht2
  have s2 := same_new (o := .tup [.int x.1, .ref t2]) ht
  have hw : WsAt (upd (upd H t2 (.tup [.str x.2.1, .ref x.2.2.1, .ref x.2.2.2])) t (.tup [.int x.1, .ref t2])) x (.ref t) := ⟨t, t2, rfl, upd_same, s2 _ _ upd_same⟩
  have s12 := s1.trans s2
  have sh2 := sh.keep s12
  have hsn2 := s12 _ _ hsn
  generalize (upd (upd H t2 (HO.tup [.str x.2.1, .ref x.2.2.1, .ref x.2.2.2])) t (HO.tup [.int x.1, .ref t2])) = H2 at s12 sh2 hsn2 hw ⊢
  refine ⟨h.sn, us, _, rfl, rfl, hsn2, small1000 (by rw [← pws.len]; omega), ?_⟩
  have kp3 : Kp h.sn H2 (upd H2 h.sn (.lst (us ++ [.ref t]))) := kp_upd
  have ts3 : TSame H2 (upd H2 h.sn (.lst (us ++ [.ref t]))) := fun b xs e => kp3 b _ (fun z => by rw [z, hsn2] at e; cases e) e
  refine q _ ⟨sh2.st.kp kp3 sh.n3 ts3 (fun z => by have e := sh2.st.ins; rw [z, hsn2] at e; cases e), kp3 _ _ (ne_of sh2.ins hsn2 (by intro z; cases z)) sh2.ins, kp3 _ _ sh.n4 sh2.rws, ⟨_, upd_same, (Paired.mapP pws fun _ _ z => (z.keep s12.ts).keep ts3).app (.cons (hw.keep ts3) .nil)⟩, sh2.lat.imp id fun z => z.keep ts3, sh.n1, sh.n2, sh.n3, sh.n4, sh.n5⟩ fun b o nb e => ?_
  simp only [Ah.own, List.mem_cons, not_or] at nb
  exact kp3 _ _ nb.2.2.1 (s12 _ _ e)
theorem ok_hrows (F : Fun K "rows_told" "Sheet.rows_told" m_Sheet_rows_told f fd) (B : TxB mg) (DH : TxH K CH) : FnOk P w K mg base CX0 1 f fd ["self"] (spHRows CS CH K) := by
  refine F.ok sc_Sheet_rows_told (fun vs H Q E h => ?_) (fun cdv A outer s H vs Q E hr h => ?_)
  · obtain ⟨A, h, d, rs, ws, v, rfl, _⟩ := h
    rfl
  obtain ⟨S, h, d, rs, ws, v, rfl, sh, q⟩ := h
  refine ⟨_, pss_one (ps_ret (pe_callTy call_list_of rfl B.list PyProof.Rows.boot_list (pa_cons (pe_fld (pv 0) rfl) pa_nil))), ?_⟩
  exact ⟨_, rfl, h.l, CH, h.dx, _, _, rfl, sh.ins, DH.cl, DH.hw, hf_rw _ _ _, h.rw, _, rfl, .inl (SqL.of sh.rws), fun p hp => q p _ (same_new hp) hp upd_same⟩
end
end K35

set_option maxHeartbeats 4000000
namespace K35
open PySem L2 Lo
section
variable {P : Program} {w : World} {K : PySem.W.Frag} {mg : Str → Option Value} {base : Heap} {f CS : Addr} {fd : FuncData}
variable {CH : Addr}
def uLet (CS CH : Addr) (K : PySem.W.Frag) : TS := fun D σ H => ∃ S h d rs ws v nv, σ = [some (.ref (h : Ah).l), some nv] ∧ ShA CS CH K H S h d rs ws v ∧ ws.length ≤ 900 ∧ NwAt K H d.ends nv ∧ ∀ p us H', Same H H' → H p = none → H' p = some (.lst us) → Paired (LtAt K H' d.ends) ws us → D.rt (.ref p) H'
theorem ok_hlet (F : Fun K "letters_told" "Sheet.letters_told" m_Sheet_letters_told f fd) (D : TxD K CS) (DH : TxH K CH) (GW : GM P w K mg base CX0 1 CS "news" ["self"] (spNews CS K)) :
    FnOk P w K mg base CX0 2 f fd ["self"] (spHLet CS CH K) := by
  refine F.ok sc_Sheet_letters_told (fun vs H Q E h => ?_) (fun cdv A outer s H vs Q E hr h => ?_)
  · obtain ⟨A, h, d, rs, ws, v, rfl, _⟩ := h
    rfl
  obtain ⟨S, h, d, rs, ws, v, rfl, sh, hen, hz, q⟩ := h
  have nd := sc_Sheet_letters_told.nd
  refine ⟨_, pss_cons (ps_set (i := 1) nd rfl (Or.inr rfl) (pe_ifExp (pt_cmpR op_isN (pe_fld (pv 0) rfl) pe_non (nomark _)) (pm0 GW (pe_fld (pv 0) rfl) D.cl hr) (pe_fld (pv 0) rfl)))
    (pss_weak (uLet CS CH K) (pss_one (ps_ret (pe_lc sb_Sheet_letters_told_0 rfl (pi_list (pe_fld (pv 0) rfl)) (fun _ _ _ _ => pts_nil) (fun _ _ _ _ => pe_tup (pa_cons (pe_ix (r := rIxT K) ix_tup (pv 0) pe_int (fun _ _ => rfl)) (pa_cons (pe_op (r := rCatT K) op_catT (pe_ix (r := rIxT K) ix_tup (pv 0) pe_int (fun _ _ => rfl)) (pe_tup (pa_cons (pv 1) pa_nil))) pa_nil)))))) ?v1), ?_⟩
  case v1 =>
    rintro D0 σ H ⟨S, h, d, rs, ws, v, nv, rfl, sh, hz, hnv, q⟩
    obtain ⟨us, hsn, pws⟩ := sh.snt
    refine ⟨_, rfl, h.l, CH, h.dx, _, _, rfl, sh.ins, DH.cl, DH.hs, hf_sn _ _ _, h.sn, rfl, ⟨_, SqL.of hsn⟩, ?_⟩
    refine lc_list (xs := us) (fun i ys H' => Same H H' ∧ Paired (LtAt K H' d.ends) (ws.take i) ys) ⟨Same.refl _, .nil⟩ (small (by rw [← pws.len]; omega)) (fun i ys H' _ z => SqL.of (z.1 _ _ hsn)) ?_ ?_
    · rintro i u ys H1 hu ⟨s1, py⟩
      obtain ⟨x, ex, t, t2, rfl, ht, ht2⟩ := pws.get hu
      have et : ws.take (i + 1) = ws.take i ++ [x] := by rw [List.take_succ, ex]; rfl
      refine tAllT ⟨_, rfl, t, _, _, _, rfl, rfl, SqT.of (s1 _ _ ht), at0, _, rfl, t, _, _, _, rfl, rfl, SqT.of (s1 _ _ ht), at1, _, rfl, (by show 1 ≤ sizeLine; decide), fun t3 ht3 => ?_⟩
      have s3 := same_new (o := .tup [nv]) ht3
      refine ⟨t2, t3, _, _, rfl, rfl, SqT.of (s3 _ _ (s1 _ _ ht2)), SqT.of upd_same, (fun z => by cases z), (by show 4 ≤ sizeLine; decide), (fun z => by cases z), fun _ t4 ht4 => ⟨(by show 2 ≤ sizeLine; decide), fun t5 ht5 => ?_⟩⟩
      have s4 := same_new (o := .tup ([.str x.2.1, .ref x.2.2.1, .ref x.2.2.2] ++ [nv])) ht4
      have s5 := same_new (o := .tup [.int x.1, .ref t4]) ht5
      have s15 := s1.trans (s3.trans (s4.trans s5))
      rw [et]
      exact ⟨s15, (Paired.mapP py fun _ _ z => z.keep (s3.trans (s4.trans s5)).ts).app (.cons ⟨t5, t4, nv, rfl, upd_same, s5 _ _ upd_same, hnv.keep s15.ts⟩ .nil)⟩
    · rintro ys H1 ⟨s1, py⟩ p hp
      rw [← pws.len, List.take_length] at py
      have s2 := same_new (o := .lst ys) hp
      have hp0 : H p = none := by
        cases e : H p with
        | none => rfl
        | some o => rw [s1 _ _ e] at hp; cases hp
      exact q p ys _ (s1.trans s2) hp0 upd_same (Paired.mapP py fun _ _ z => z.keep s2.ts)
  refine ⟨_, rfl, h.l, CH, h.dx, _, _, rfl, sh.ins, DH.cl, DH.hl, hf_lt _ _ _, rfl, _, rfl, ?_⟩
  by_cases e : v = .non
  · refine ite2 (fun _ => ?_) (fun c => absurd (decide_eq_true e) c)
    refine ⟨_, rfl, h.l, CH, h.dx, _, _, rfl, sh.ins, DH.cl, DH.ht, hf_st _ _ _, S.l, S.dx, _, rfl, sh.st.ins, sf_no (by decide +kernel), S, d, rfl, sh.st, hen, fun nv H1 s1 nw => ?_⟩
    exact ⟨S, h, d, rs, ws, v, nv, rfl, sh.keep s1, hz, nw, fun p us H' s' hp => q p us H' (s1.trans s') (by
      cases e : H p with
      | none => rfl
      | some o => rw [s1 _ _ e] at hp; cases hp)⟩
  · refine ite2 (fun c => absurd (of_decide_eq_true c) e) (fun _ => ?_)
    refine ⟨_, rfl, h.l, CH, h.dx, _, _, rfl, sh.ins, DH.cl, DH.hl, hf_lt _ _ _, ?_⟩
    exact ⟨S, h, d, rs, ws, v, v, rfl, sh, hz, sh.lat.resolve_left e, q⟩
end
end K35

set_option maxHeartbeats 4000000
namespace K35
open PySem L2 Lo
section
variable {P : Program} {w : World} {K : PySem.W.Frag} {mg : Str → Option Value} {base : Heap} {f CS : Addr} {fd : FuncData}
variable {CH : Addr}
theorem decT {c : Prop} {i : Decidable c} (h : c) : @decide c i = true := @decide_eq_true c i h
theorem atI_in {us : List V} {j : Int} (h0 : 0 ≤ j) (h1 : j < (us.length : Nat)) : ∃ u ∈ us, atI us j = some u := by
  have hk : j.toNat < us.length := by omega
  have z : atI us ((j.toNat : Nat) : Int) = some us[j.toNat] := atI_nat (List.getElem?_eq_getElem hk)
  rw [show ((j.toNat : Nat) : Int) = j by omega] at z
  exact ⟨_, List.getElem_mem hk, z⟩
def Ok35 (m : Nat) : Rw → Prop
  | .fin _ _ => True
  | .walk _ _ ch => ∃ c v, ch = [(c, v)] ∧ 0 ≤ c ∧ c < (m : Int)
  | .void _ _ => True
  | _ => False
def spRow35 (K : PySem.W.Frag) : Sp := fun vs H Q _ => ∃ n k m, vs = [.int n, .int k, .int (m : Nat)] ∧ 1 ≤ m ∧ m ≤ 8 ∧ ∀ w r H', Same H H' → RwAt K H' w r → w.nm.2 = k → Ok35 m w → Q (.ref r) H'
def u35 (K : PySem.W.Frag) : TS := fun D σ H => ∃ n k m na x way, σ = [some (.int n), some (.int k), some (.int (m : Nat)), some (.ref na), some (.int way), none] ∧ 1 ≤ m ∧ m ≤ 8 ∧ H na = some (.tup [.int x, .int k]) ∧ ∀ w r H', Same H H' → RwAt K H' w r → w.nm.2 = k → Ok35 m w → D.rt (.ref r) H'
theorem ok_row (F : Fun K "_law_row" "_law_row" s__law_row f fd) : FnOk P w K mg base CX0 1 f fd ["_law_number", "_law_k", "_law_many"] (spRow35 K) := by
  refine F.ok sc__law_row (fun vs H Q E h => ?_) (fun cdv A outer s H vs Q E hr h => ?_)
  · obtain ⟨n, k, m, rfl, _⟩ := h
    rfl
  obtain ⟨n, k, m, rfl, hm1, hm8, qr⟩ := h
  have nd := sc__law_row.nd
  refine ⟨_, pss_cons (ps_set (i := 3) nd rfl (Or.inl rfl) (pe_tup (pa_cons (pe_op op_mod (pe_op op_fdiv (pv 0) pe_int) pe_int) (pa_cons (pv 1) pa_nil))))
    (pss_cons (ps_set (i := 4) nd rfl (Or.inl rfl) (pe_op op_mod (pe_op op_fdiv (pv 0) pe_int) pe_int))
    (pss_weak (u35 K) (pss_cons (ps_if (pt_cmpR op_eq (pv 4) pe_int (nomark _)) (pss_one (ps_ret (pe_tup (pa_cons pe_str (pa_cons (pv 3) (pa_cons pe_str (pa_cons (pe_tup pa_nil) pa_nil))))))) pss_nil)
    (pss_weak (u35 K) (pss_cons (ps_if (pt_cmpR op_eq (pv 4) pe_int (nomark _)) (pss_one (ps_ret (pe_tup (pa_cons pe_str (pa_cons (pv 3) (pa_cons pe_str (pa_cons (pe_tup pa_nil) pa_nil))))))) pss_nil)
    (pss_weak (u35 K) (pss_cons (ps_if (pt_cmpR op_eq (pv 4) pe_int (nomark _)) (pss_cons (ps_set (i := 5) nd rfl (Or.inl rfl) (pe_tup (pa_cons (pe_tup (pa_cons (pe_op op_mod (pe_op op_fdiv (pv 0) pe_int) (pv 2)) (pa_cons (pe_op op_mod (pe_op op_fdiv (pv 0) pe_int) (pe_op op_pow pe_int pe_int)) pa_nil))) pa_nil)))
      (pss_one (ps_ret (pe_tup (pa_cons pe_str (pa_cons (pv 3) (pa_cons (pe_op op_mod (pe_op op_fdiv (pv 0) pe_int) pe_int) (pa_cons (pv 5) (pa_cons (pe_op op_mod (pe_op op_fdiv (pv 0) pe_int) (pe_op op_pow pe_int pe_int)) pa_nil))))))))) pss_nil)
    (pss_one (ps_ret (pe_tup (pa_cons pe_str (pa_cons (pv 3) (pa_cons (pe_op op_mod (pe_op op_fdiv (pv 0) pe_int) pe_int) pa_nil))))))) ?v3)) ?v2)) ?v1)), ?_⟩
  case v1 =>
    rintro D0 σ H ⟨n, k, m, na, x, way, rfl, hm1, hm8, hna, qr⟩
    refine ⟨_, rfl, rfl, _, rfl, ite2 (fun _ => ?_) (fun _ => ⟨n, k, m, na, x, way, rfl, hm1, hm8, hna, qr⟩)⟩
    refine ⟨_, rfl, (by show 0 ≤ sizeLine; decide), fun t0 ht0 => ⟨(by show 4 ≤ sizeLine; decide), fun t ht => ?_⟩⟩
    have s1 := same_new (o := .tup []) ht0
    have s2 := same_new (o := .tup [.str "end", .ref na, .str "done", .ref t0]) ht
    exact qr (.fin (x, k) "done") t _ (s1.trans s2) ⟨_, _, upd_same, ⟨na, rfl, s2 _ _ (s1 _ _ hna)⟩, _, rfl⟩ rfl trivial
  case v2 =>
    rintro D0 σ H ⟨n, k, m, na, x, way, rfl, hm1, hm8, hna, qr⟩
    refine ⟨_, rfl, rfl, _, rfl, ite2 (fun _ => ?_) (fun _ => ⟨n, k, m, na, x, way, rfl, hm1, hm8, hna, qr⟩)⟩
    refine ⟨_, rfl, (by show 0 ≤ sizeLine; decide), fun t0 ht0 => ⟨(by show 4 ≤ sizeLine; decide), fun t ht => ?_⟩⟩
    have s1 := same_new (o := .tup []) ht0
    have s2 := same_new (o := .tup [.str "end", .ref na, .str "broken", .ref t0]) ht
    exact qr (.fin (x, k) "broken") t _ (s1.trans s2) ⟨_, _, upd_same, ⟨na, rfl, s2 _ _ (s1 _ _ hna)⟩, _, rfl⟩ rfl trivial
  case v3 =>
    rintro D0 σ H ⟨n, k, m, na, x, way, rfl, hm1, hm8, hna, qr⟩
    refine ⟨_, rfl, rfl, _, rfl, ite2 (fun _ => ?_) (fun _ => ?_)⟩
    · refine ⟨_, rfl, _, _, rfl, rfl, ⟨by decide, by decide⟩, _, rfl, _, _, rfl, rfl, (by show (0 : Int) < (m : Nat); omega), _, rfl, _, _, rfl, rfl, ⟨by decide, by decide⟩, _, _, rfl, rfl, ⟨by decide, by decide, by decide⟩, _, _, rfl, rfl, (by show (0 : Int) < 10 ^ 40; decide +kernel), (by show 2 ≤ sizeLine; decide), fun t1 ht1 => ⟨(by show 1 ≤ sizeLine; decide), fun t2 ht2 => ?_⟩⟩
      have s1 := same_new (o := .tup [.int (n / 160 % (m : Nat)), .int (n / 7 % 10 ^ 40)]) ht1
      have s2 := same_new (o := .tup [.ref t1]) ht2
      have h1 := s2 _ _ (upd_same (H := H) (a := t1) (o := .tup [.int (n / 160 % (m : Nat)), .int (n / 7 % 10 ^ 40)]))
      refine ⟨_, rfl, _, rfl, _, _, rfl, rfl, ⟨by decide, by decide⟩, _, _, rfl, rfl, (by show (0 : Int) < 12; decide), _, rfl, _, rfl, _, _, rfl, rfl, ⟨by decide, by decide⟩, _, _, rfl, rfl, ⟨by decide, by decide, by decide⟩, _, _, rfl, rfl, (by show (0 : Int) < 10 ^ 40; decide +kernel), (by show 5 ≤ sizeLine; decide), fun t ht => ?_⟩
      have s3 := same_new (o := .tup [.str "walked", .ref na, .int (n / 3 % 12), .ref t2, .int (n / 11 % 10 ^ 40)]) ht
      exact qr (.walk (x, k) (n / 3 % 12) [(n / 160 % (m : Nat), n / 7 % 10 ^ 40)]) t _ (s1.trans (s2.trans s3)) ⟨_, _, upd_same, ⟨na, rfl, s3 _ _ (s2 _ _ (s1 _ _ hna))⟩, _, _, rfl, t2, _, rfl, .inl (s3 _ _ upd_same), .cons (cPa_mk (k := (n / 160 % (m : Nat), n / 7 % 10 ^ 40)) (s3 _ _ h1)) .nil⟩ rfl
        ⟨_, _, rfl, Int.emod_nonneg _ (by omega), Int.emod_lt_of_pos _ (by omega)⟩
    · refine ⟨_, rfl, _, rfl, _, _, rfl, rfl, ⟨by decide, by decide⟩, _, _, rfl, rfl, (by show (0 : Int) < 12; decide), (by show 3 ≤ sizeLine; decide), fun t ht => ?_⟩
      have s1 := same_new (o := .tup [.str "void", .ref na, .int (n / 3 % 12)]) ht
      exact qr (.void (x, k) (n / 3 % 12)) t _ s1 ⟨_, _, upd_same, ⟨na, rfl, s1 _ _ hna⟩, rfl⟩ rfl trivial
  refine ⟨_, rfl, _, _, rfl, rfl, ⟨by decide, by decide⟩, _, _, rfl, rfl, (by show (0 : Int) < 5; decide), _, rfl, (by show 2 ≤ sizeLine; decide), fun na hna => ?_⟩
  have s1 := same_new (o := .tup [.int (n / 8 % 5), .int k]) hna
  exact ⟨_, rfl, _, _, rfl, rfl, ⟨by decide, by decide⟩, _, _, rfl, rfl, (by show (0 : Int) < 4; decide), n, k, m, na, n / 8 % 5, _, rfl, hm1, hm8, upd_same, fun w r H' s' => qr w r H' (s1.trans s')⟩
/-- a wish -/
def WiAt (H : Hp) (x : Ws) (u : V) : Prop := ∃ t, u = .ref t ∧ H t = some (.tup [.int x.1, .str x.2.1, .ref x.2.2.1, .ref x.2.2.2])
theorem WiAt.keep {H H' : Hp} {x : Ws} {u : V} (e : TSame H H') (h : WiAt H x u) : WiAt H' x u := by
  obtain ⟨t, rfl, h1⟩ := h
  exact ⟨t, rfl, e _ _ h1⟩
def spWish : Sp := fun vs H Q _ => ∃ n k, vs = [.int n, .int k] ∧ ∀ t x H', Same H H' → H' t = some (.tup [.int (x : Ws).1, .str x.2.1, .ref x.2.2.1, .ref x.2.2.2]) → Q (.ref t) H'
def uW1 : TS := fun D σ H => ∃ n k wl ss na hd, σ = [some (.int n), some (.int k), some (.ref wl), some (.ref na), some (.int hd), none, none] ∧ H wl = some (.lst ((ss : List Str).map V.str)) ∧ ss.length = 6 ∧ ∀ t x H', Same H H' → H' t = some (.tup [.int (x : Ws).1, .str x.2.1, .ref x.2.2.1, .ref x.2.2.2]) → D.rt (.ref t) H'
def uW2 : TS := fun D σ H => ∃ n k wl ss na hd st, σ = [some (.int n), some (.int k), some (.ref wl), some (.ref na), some (.int hd), some (.ref st), none] ∧ H wl = some (.lst ((ss : List Str).map V.str)) ∧ ss.length = 6 ∧ ∀ t x H', Same H H' → H' t = some (.tup [.int (x : Ws).1, .str x.2.1, .ref x.2.2.1, .ref x.2.2.2]) → D.rt (.ref t) H'
def uW3 : TS := fun D σ H => ∃ n k wl ss na hd st ml rs, σ = [some (.int n), some (.int k), some (.ref wl), some (.ref na), some (.int hd), some (.ref st), some (.ref ml)] ∧ H wl = some (.lst ((ss : List Str).map V.str)) ∧ ss.length = 6 ∧ H ml = some (.lst ((rs : List Addr).map V.ref)) ∧ rs.length = 6 ∧
  ∀ t x H', Same H H' → H' t = some (.tup [.int (x : Ws).1, .str x.2.1, .ref x.2.2.1, .ref x.2.2.2]) → D.rt (.ref t) H'
theorem ok_wish (F : Fun K "_law_wish" "_law_wish" s__law_wish f fd) : FnOk P w K mg base CX0 1 f fd ["_law_number", "_law_k"] spWish := by
  refine F.ok sc__law_wish (fun vs H Q E h => ?_) (fun cdv A outer s H vs Q E hr h => ?_)
  · obtain ⟨n, k, rfl, _⟩ := h
    rfl
  obtain ⟨n, k, rfl, qr⟩ := h
  have nd := sc__law_wish.nd
  refine ⟨_, pss_cons (ps_set (i := 2) nd rfl (Or.inl rfl) (pe_lst (pa_cons pe_str (pa_cons pe_str (pa_cons pe_str (pa_cons pe_str (pa_cons pe_str (pa_cons pe_str pa_nil))))))))
    (pss_cons (ps_set (i := 3) nd rfl (Or.inl rfl) (pe_tup (pa_cons (pe_op op_mod (pe_op op_fdiv (pv 0) pe_int) pe_int) (pa_cons (pe_op op_add (pv 1) (pe_op op_mod (pe_op op_fdiv (pv 0) pe_int) (pe_op op_pow pe_int pe_int))) pa_nil))))
    (pss_cons (ps_set (i := 4) nd rfl (Or.inl rfl) (pe_op op_sub (pe_op op_mod (pe_op op_fdiv (pv 0) pe_int) (pe_op op_pow pe_int pe_int)) (pe_op op_mul (pe_op op_mod (pe_op op_fdiv (pv 0) pe_int) pe_int) (pe_op op_pow pe_int pe_int))))
    (pss_weak uW1 (pss_cons (ps_set (i := 5) nd rfl (Or.inl rfl) (pe_tup (pa_cons (pe_op op_mod (pv 1) pe_int) (pa_cons (pv 4) (pa_cons (pe_ix (r := rIxL K) ix_list (pe_lst (pa_cons pe_str (pa_cons pe_str (pa_cons pe_str pa_nil)))) (pe_op op_mod (pe_op op_fdiv (pv 0) pe_int) pe_int) (fun _ _ => rfl)) pa_nil)))))
    (pss_weak uW2 (pss_cons (ps_set (i := 6) nd rfl (Or.inl rfl) (pe_lst (pa_cons (pv 5) (pa_cons (pe_tup (pa_cons (pe_op op_mod (pv 1) pe_int) (pa_cons (pv 4) pa_nil))) (pa_cons (pe_ix (r := rIxL K) ix_list (pe_lst (pa_cons (pe_tup (pa_cons pe_int (pa_cons pe_int (pa_cons pe_int pa_nil)))) (pa_cons (pe_tup (pa_cons pe_int pa_nil)) (pa_cons (pe_tup (pa_cons pe_int (pa_cons pe_int (pa_cons pe_int (pa_cons pe_int (pa_cons pe_int pa_nil)))))) pa_nil)))) (pe_op op_mod (pe_op op_fdiv (pv 0) pe_int) pe_int) (fun _ _ => rfl)) (pa_cons (pe_tup pa_nil) (pa_cons (pe_tup pa_nil) (pa_cons (pv 5) pa_nil))))))))
    (pss_weak uW3 (pss_one (ps_ret (pe_tup (pa_cons (pe_op op_mod (pe_op op_fdiv (pv 0) pe_int) pe_int) (pa_cons (pe_ix (r := rIxL K) ix_list (pv 2) (pe_op op_mod (pe_op op_fdiv (pv 0) pe_int) pe_int) (fun _ _ => rfl)) (pa_cons (pv 3) (pa_cons (pe_ix (r := rIxL K) ix_list (pv 6) (pe_op op_mod (pe_op op_fdiv (pv 0) pe_int) pe_int) (fun _ _ => rfl)) pa_nil))))))) ?v3)) ?v2)) ?v1))), ?_⟩
  case v3 =>
    rintro D0 σ H ⟨n, k, wl, ss, na, hd, st, ml, rs, rfl, hwl, l6, hml, r6, qr⟩
    have j0 : 0 ≤ n / 16 % 6 := Int.emod_nonneg _ (by decide)
    have j6 : n / 16 % 6 < 6 := Int.emod_lt_of_pos _ (by decide)
    obtain ⟨u, hu, eu⟩ := atI_in (us := ss.map V.str) j0 (by rw [List.length_map, l6]; exact j6)
    obtain ⟨word, _, rfl⟩ := List.mem_map.mp hu
    obtain ⟨u2, hu2, eu2⟩ := atI_in (us := rs.map V.ref) j0 (by rw [List.length_map, r6]; exact j6)
    obtain ⟨mo, _, rfl⟩ := List.mem_map.mp hu2
    refine ⟨_, rfl, _, _, rfl, rfl, ⟨by decide, by decide⟩, _, _, rfl, rfl, (by show (0 : Int) < 5; decide), _, rfl, _, rfl, _, _, rfl, rfl, ⟨by decide, by decide⟩, _, _, rfl, rfl, (by show (0 : Int) < 6; decide), wl, _, _, _, rfl, rfl, SqL.of hwl, eu, _, rfl, _, rfl, _, rfl, _, _, rfl, rfl, ⟨by decide, by decide⟩, _, _, rfl, rfl, (by show (0 : Int) < 6; decide), ml, _, _, _, rfl, rfl, SqL.of hml, eu2, (by show 4 ≤ sizeLine; decide), fun t ht => ?_⟩
    exact qr t (n / 5 % 5, word, na, mo) _ (same_new ht) upd_same
  case v2 =>
    rintro D0 σ H ⟨n, k, wl, ss, na, hd, st, rfl, hwl, l6, qr⟩
    refine ⟨_, rfl, _, rfl, _, _, rfl, rfl, (by show (0 : Int) < 12; decide), _, rfl, (by show 2 ≤ sizeLine; decide), fun a1 h1 => ⟨(by show 3 ≤ sizeLine; decide), fun a2 h2 => ⟨(by show 1 ≤ sizeLine; decide), fun a3 h3 => ⟨(by show 5 ≤ sizeLine; decide), fun a4 h4 => ⟨(by show 3 ≤ sizeLine; decide), fun a5 h5 => ?_⟩⟩⟩⟩⟩
    have s1 := same_new (o := .tup [.int (k % 12), .int hd]) h1
    have s2 := same_new (o := .tup [.int 0, .int 2, .int 4]) h2
    have s3 := same_new (o := .tup [.int 1]) h3
    have s4 := same_new (o := .tup [.int 0, .int 1, .int 2, .int 3, .int 4]) h4
    have s5 := same_new (o := .lst [.ref a2, .ref a3, .ref a4]) h5
    have sA := s1.trans (s2.trans (s3.trans (s4.trans s5)))
    obtain ⟨u, hu, eu⟩ := atI_in (us := [.ref a2, .ref a3, .ref a4]) (j := n / 7 % 3) (Int.emod_nonneg _ (by decide)) (Int.emod_lt_of_pos _ (by decide))
    obtain ⟨a6, rfl⟩ : ∃ a6, u = V.ref a6 := by
      simp only [List.mem_cons, List.not_mem_nil, or_false] at hu
      rcases hu with z | z | z <;> exact ⟨_, z⟩
    refine ⟨_, rfl, _, _, rfl, rfl, ⟨by decide, by decide⟩, _, _, rfl, rfl, (by show (0 : Int) < 3; decide), a5, _, _, _, rfl, rfl, SqL.of upd_same, eu, (by show 0 ≤ sizeLine; decide), fun a7 h7 => ⟨(by show 0 ≤ sizeLine; decide), fun a8 h8 => ⟨_, rfl, (by show 6 ≤ sizeLine; decide), fun ml hml => ?_⟩⟩⟩
    have s7 := same_new (o := .tup []) h7
    have s8 := same_new (o := .tup []) h8
    have s9 := same_new (o := .lst [.ref st, .ref a1, .ref a6, .ref a7, .ref a8, .ref st]) hml
    have sB := sA.trans (s7.trans (s8.trans s9))
    exact ⟨n, k, wl, ss, na, hd, st, ml, [st, a1, a6, a7, a8, st], rfl, sB _ _ hwl, l6, upd_same, rfl, fun t x H' s' => qr t x H' (sB.trans s')⟩
  case v1 =>
    rintro D0 σ H ⟨n, k, wl, ss, na, hd, rfl, hwl, l6, qr⟩
    refine ⟨_, rfl, _, _, rfl, rfl, (by show (0 : Int) < 12; decide), _, rfl, (by show 3 ≤ sizeLine; decide), fun a1 h1 => ?_⟩
    have s1 := same_new (o := .lst [.str "take 0 0", .str "add 4 7 -5", .str "sum 2 0 3"]) h1
    obtain ⟨u, hu, eu⟩ := atI_in (us := [.str "take 0 0", .str "add 4 7 -5", .str "sum 2 0 3"]) (j := n / 7 % 3) (Int.emod_nonneg _ (by decide)) (Int.emod_lt_of_pos _ (by decide))
    refine ⟨_, rfl, _, _, rfl, rfl, ⟨by decide, by decide⟩, _, _, rfl, rfl, (by show (0 : Int) < 3; decide), a1, _, _, _, rfl, rfl, SqL.of upd_same, eu, (by show 3 ≤ sizeLine; decide), fun st hst => ?_⟩
    have s2 := s1.trans (same_new (o := .tup [.int (k % 12), .int hd, u]) hst)
    exact ⟨n, k, wl, ss, na, hd, st, rfl, s2 _ _ hwl, l6, fun t x H' s' => qr t x H' (s2.trans s')⟩
  refine ⟨(by show 6 ≤ sizeLine; decide), fun wl hwl => ?_⟩
  have s1 := same_new (o := .lst [.str "work", .str "did", .str "ready", .str "yes", .str "tell", .str "walk"]) hwl
  refine ⟨_, rfl, _, _, rfl, rfl, ⟨by decide, by decide⟩, _, _, rfl, rfl, (by show (0 : Int) < 5; decide), _, rfl, _, rfl, _, _, rfl, rfl, ⟨by decide, by decide⟩, _, _, rfl, rfl, ⟨by decide, by decide, by decide⟩, _, _, rfl, rfl, (by show (0 : Int) < 10 ^ 9; decide +kernel), _, _, rfl, rfl, (by show 2 ≤ sizeLine; decide), fun na hna => ?_⟩
  have s2 := same_new (o := .tup [.int (n / 8 % 5), .int (k + n / 40 % 10 ^ 9)]) hna
  refine ⟨_, rfl, _, _, rfl, rfl, ⟨by decide, by decide⟩, _, _, rfl, rfl, ⟨by decide, by decide, by decide⟩, _, _, rfl, rfl, (by show (0 : Int) < 10 ^ 40; decide +kernel), _, rfl, _, _, rfl, rfl, ⟨by decide, by decide⟩, _, _, rfl, rfl, (by show (0 : Int) < 2; decide), _, _, rfl, rfl, ⟨by decide, by decide, by decide⟩, _, _, rfl, rfl, .inl ⟨?_, ?_⟩, _, _, rfl, rfl, ?_⟩
  · have : 0 ≤ n / 9 % 2 := Int.emod_nonneg _ (by decide)
    omega
  · have : n / 9 % 2 < 2 := Int.emod_lt_of_pos _ (by decide)
    omega
  exact ⟨n, k, wl, ["work", "did", "ready", "yes", "tell", "walk"], na, _, rfl, s2 _ _ upd_same, rfl, fun t x H' s' => qr t x H' ((s1.trans s2).trans s')⟩
end
end K35

set_option maxHeartbeats 4000000
namespace K35
open PySem L2 Lo
section
variable {P : Program} {w : World} {K : PySem.W.Frag} {mg : Str → Option Value} {base : Heap} {f CS : Addr} {fd : FuncData}
variable {CH : Addr}
theorem news_eq {H : Hp} {es : List (Pa × Str)} {u v : V} (h1 : NwAt K H es u) (h2 : NwAt K H es v) : EqIs K 3 H u v true := by
  obtain ⟨t, ys, rfl, ht, p1⟩ := h1
  obtain ⟨t', ys', rfl, ht', p2⟩ := h2
  refine (eq_tup (n := 2) (SqT.of ht) (SqT.of ht') ?_).1
  have go : ∀ {xs : List (Pa × Str)} {us vs : List V}, Paired (sPS K H) xs us → Paired (sPS K H) xs vs → Paired (fun x y => EqIs K 2 H x y true) us vs := by
    intro xs us vs q1
    induction q1 generalizing vs with
    | nil => intro q2; cases q2; exact .nil
    | cons a t ih =>
      intro q2
      cases q2 with
      | cons b r =>
        refine .cons ?_ (ih r)
        have z := (cPS.eq (sPS.c a) (sPS.c b)).mono (show cPS.n ≤ 2 by decide)
        rwa [decide_eq_true rfl] at z
  exact go p1 p2
def spLR (K : PySem.W.Frag) : Sp := fun vs H Q _ => ∃ p q nv us ys ws es, vs = [.ref p, .ref q, nv] ∧ H p = some (.lst us) ∧ Paired (LtAt K H es) ws us ∧ H q = some (.lst ys) ∧ Paired (WiAt H) ws ys ∧ NwAt K H es nv ∧ ∀ H', Same H H' → Q (.bl true) H'
theorem ok_lr (F : Fun K "_law_letters_right" "_law_letters_right" s__law_letters_right f fd) (B : TxB mg) (mZ : mg "zip" = none) : FnOk P w K mg base CX0 1 f fd ["_law_found", "_law_wishes", "_law_news"] (spLR K) := by
  refine F.ok sc__law_letters_right (fun vs H Q E h => ?_) (fun cdv A outer s H vs Q E hr h => ?_)
  · obtain ⟨p, q, nv, us, ys, ws, es, rfl, _⟩ := h
    rfl
  obtain ⟨p, q, nv, us, ys, ws, es, rfl, hp, pu, hq, py, hnv, qr⟩ := h
  have nd := sc__law_letters_right.nd
  have hl : us.length = ys.length := by rw [← pu.len, py.len]
  refine ⟨_, pss_cons (ps_if (PW.pt (pw_or (pt_not (pt_val (pe_callB call_isinst rfl B.isi PyProof.Rows.boot_isinstance (pa_cons (pv 0) (pa_cons (pe_bltn (v := .ty "list") rfl B.list PyProof.Rows.boot_list rfl) pa_nil))))) (pw_or1 (pt_cmpR op_ne (pe_callB call_len_seq rfl B.len PySem.boot_len (pa_cons (pv 0) pa_nil)) (pe_callB call_len_seq rfl B.len PySem.boot_len (pa_cons (pv 1) pa_nil)) (nomark _))))) pss_never pss_nil)
    (pss_cons (ps_for PassesOwn.never rfl (pi_zip rfl mZ (pa_cons (pv 0) (pa_cons (pv 1) pa_nil))) (pg_tup rfl (pgs_cons (pg_name (i := 3) nd rfl (Or.inl rfl)) (pgs_cons (pg_name (i := 4) nd rfl (Or.inl rfl)) pgs_nil)))
      (pss_cons (ps_if (PW.pt (pw_or (pt_not (pt_val (pe_callB call_isinst rfl B.isi PyProof.Rows.boot_isinstance (pa_cons (pv 3) (pa_cons (pe_bltn (v := .ty "tuple") rfl B.tuple PyProof.Rows.boot_tuple rfl) pa_nil))))) (pw_or (pt_cmpR op_ne (pe_callB call_len_seq rfl B.len PySem.boot_len (pa_cons (pv 3) pa_nil)) pe_int (nomark _)) (pw_or1 (pt_not (pt_val (pe_callB call_isinst rfl B.isi PyProof.Rows.boot_isinstance (pa_cons (pe_ix (r := rIxT K) ix_tup (pv 3) pe_int (fun _ _ => rfl)) (pa_cons (pe_bltn (v := .ty "tuple") rfl B.tuple PyProof.Rows.boot_tuple rfl) pa_nil))))))))) pss_never pss_nil)
      (pss_cons (ps_if (PW.pt (pw_or (pt_not (pt_val (pe_callB call_isinst rfl B.isi PyProof.Rows.boot_isinstance (pa_cons (pe_ix (r := rIxT K) ix_tup (pv 3) pe_int (fun _ _ => rfl)) (pa_cons (pe_bltn (v := .ty "int") rfl B.int PyProof.Rows.boot_int rfl) pa_nil))))) (pw_or1 (pt_val (pe_callB call_isinst rfl B.isi PyProof.Rows.boot_isinstance (pa_cons (pe_ix (r := rIxT K) ix_tup (pv 3) pe_int (fun _ _ => rfl)) (pa_cons (pe_bltn (v := .ty "bool") rfl B.bool PyProof.Rows.boot_bool rfl) pa_nil))))))) pss_never pss_nil)
      (pss_one (ps_if (pt_cmpR (op_neV 5 (hun (c := 4) hr)) (pv 3) (pe_tup (pa_cons (pe_ix (r := rIxT K) ix_tup (pv 4) pe_int (fun _ _ => rfl)) (pa_cons (pe_tup (pa_cons (pe_ix (r := rIxT K) ix_tup (pv 4) pe_int (fun _ _ => rfl)) (pa_cons (pe_ix (r := rIxT K) ix_tup (pv 4) pe_int (fun _ _ => rfl)) (pa_cons (pe_ix (r := rIxT K) ix_tup (pv 4) pe_int (fun _ _ => rfl)) (pa_cons (pv 2) pa_nil))))) pa_nil))) (nomark _)) pss_never pss_nil)))))
    (pss_one (ps_ret pe_bl))), ?_⟩
  refine ⟨_, rfl, _, _, _, _, rfl, TyOf.lst hp, kit_ll, _, rfl, iteF ?_⟩
  refine ⟨_, rfl, p, _, rfl, .inl (SqL.of hp), _, rfl, q, _, rfl, .inl (SqL.of hq), rfl, _, rfl, iteNS (by rw [hl]) ?_⟩
  refine ⟨_, rfl, _, rfl, p, q, rfl, ⟨_, SqL.of hp⟩, ⟨_, SqL.of hq⟩, ?_⟩
  refine for_zip (xs := us) (ys := ys) (fun i σ H' => Same H H' ∧ ∃ x3 x4, σ = [some (.ref p), some (.ref q), some nv, x3, x4]) hl ⟨Same.refl _, none, none, rfl⟩ (fun i σ H' _ z => ⟨SqL.of (z.1 _ _ hp), SqL.of (z.1 _ _ hq)⟩) ?_ ?_
  · rintro i u v t σ H1 hu hv ⟨s1, x3, x4, rfl⟩ ht
    obtain ⟨x, ex, t1, t2, nv', rfl, h1, h2, hn'⟩ := pu.get hu
    obtain ⟨x', ex', t3, rfl, h3⟩ := py.get hv
    rw [ex] at ex'
    cases ex'
    have s2 := same_new (o := .tup [.ref t1, .ref t3]) ht
    have s12 := s1.trans s2
    have g1 := s12 _ _ h1
    have g2 := s12 _ _ h2
    have g3 := s12 _ _ h3
    have gt : (upd H1 t (.tup [.ref t1, .ref t3])) t = some (.tup [.ref t1, .ref t3]) := upd_same
    generalize (upd H1 t (HO.tup [.ref t1, .ref t3])) = H2 at s12 g1 g2 g3 gt ⊢
    refine ⟨t, _, rfl, SqT.of gt, rfl, _, _, rfl, _, _, rfl, rfl, ?_⟩
    refine ⟨_, rfl, _, _, _, _, rfl, TyOf.tup g1, kit_tt, _, rfl, iteF ?_⟩
    refine ⟨_, rfl, t1, _, rfl, .inr (SqT.of g1), rfl, _, rfl, iteNS rfl ?_⟩
    refine ⟨_, rfl, t1, _, _, _, rfl, rfl, SqT.of g1, at1, _, _, _, _, rfl, TyOf.tup g2, kit_tt, _, rfl, iteF ?_⟩
    refine ⟨_, rfl, t1, _, _, _, rfl, rfl, SqT.of g1, at0, _, _, _, _, rfl, TyOf.int _, kit_ii, _, rfl, iteF ?_⟩
    refine ⟨_, rfl, t1, _, _, _, rfl, rfl, SqT.of g1, at0, _, _, _, _, rfl, TyOf.int _, kit_ib, _, rfl, iteF ?_⟩
    refine ⟨_, rfl, _, rfl, t3, _, _, _, rfl, rfl, SqT.of g3, at0, _, rfl, t3, _, _, _, rfl, rfl, SqT.of g3, at1, _, rfl, t3, _, _, _, rfl, rfl, SqT.of g3, at2, _, rfl, t3, _, _, _, rfl, rfl, SqT.of g3, atI_nat (j := 3) rfl, _, rfl, (by show 4 ≤ sizeLine; decide), fun t4 ht4 => ⟨(by show 2 ≤ sizeLine; decide), fun t5 ht5 => ?_⟩⟩
    have s4 := same_new (o := .tup [.str x.2.1, .ref x.2.2.1, .ref x.2.2.2, nv]) ht4
    have s5 := same_new (o := .tup [.int x.1, .ref t4]) ht5
    have s45 := s4.trans s5
    have s15 := s12.trans s45
    refine ⟨?_, _, rfl, iteF ⟨s15, _, _, rfl⟩⟩
    have in4 := (eq_tup (n := 3) (SqT.of (s45 _ _ g2)) (SqT.of (s5 _ _ (upd_same (H := H2) (a := t4) (o := .tup [.str x.2.1, .ref x.2.2.1, .ref x.2.2.2, nv])))) (.cons (eq_str 3 _) (.cons (eq_same 3) (.cons (eq_same 3) (.cons (news_eq (hn'.keep s15.ts) (hnv.keep s15.ts)) .nil))))).1
    exact (eq_tup (n := 4) (SqT.of (s45 _ _ g1)) (SqT.of upd_same) (.cons (eq_int 4 _) (.cons in4 .nil))).2
  · rintro σ H1 ⟨s1, x3, x4, rfl⟩
    exact qr _ s1
/-- the end rows -/
def EnAt (K : PySem.W.Frag) (H : Hp) (x : Pa × Str) (u : V) : Prop := ∃ r, u = .ref r ∧ RwAt K H (.fin x.1 x.2) r
theorem EnAt.keep {H H' : Hp} {x : Pa × Str} {u : V} (e : TSame H H') (h : EnAt K H x u) : EnAt K H' x u := by
  obtain ⟨r, rfl, h1⟩ := h
  exact ⟨r, rfl, h1.keep e⟩
def spRight35 (CS CH : Addr) (K : PySem.W.Frag) : Sp := fun vs H Q _ => ∃ A h d rs ws v rl wl el ys eus, vs = [.ref (h : Ah).l, .ref rl, .ref wl, .ref el] ∧ ShA CS CH K H A h d rs ws v ∧ H rl = some (.lst (rs.map V.ref)) ∧ H wl = some (.lst ys) ∧ Paired (WiAt H) ws ys ∧ H el = some (.lst eus) ∧ Paired (EnAt K H) d.ends eus ∧
  d.ends.length < 64 ∧ ws.length ≤ 900 ∧ rs.length ≤ 900 ∧ ∀ H', Same H H' → Q (.bl true) H'
theorem ok_right (F : Fun K "_law_right" "_law_right" s__law_right f fd) (B : TxB mg) (DH : TxH K CH) (GRT : GM P w K mg base CX0 1 CH "rows_told" ["self"] (spHRows CS CH K)) (GLT : GM P w K mg base CX0 2 CH "letters_told" ["self"] (spHLet CS CH K))
    (GL : GF P w K mg base CX0 1 "_law_letters_right" ["_law_found", "_law_wishes", "_law_news"] (spLR K)) : FnOk P w K mg base CX0 3 f fd ["_law_sheet", "_law_rows", "_law_wishes", "_law_ends"] (spRight35 CS CH K) := by
  refine F.ok sc__law_right (fun vs H Q E h => ?_) (fun cdv A outer s H vs Q E hr h => ?_)
  · obtain ⟨A, h, d, rs, ws, v, rl, wl, el, ys, eus, rfl, _⟩ := h
    rfl
  obtain ⟨S, h, d, rs, ws, v, rl, wl, el, ys, eus, rfl, sh, hrl, hwl, pw, hel, pe, h64, hz, hrz, q⟩ := h
  have nd := sc__law_right.nd
  have refs : ∀ x ∈ rs.map V.ref, ∃ r, x = V.ref r := fun x hx => by
    obtain ⟨r, _, e⟩ := List.mem_map.mp hx
    exact ⟨r, e.symm⟩
  refine ⟨_, pss_cons (ps_set (i := 4) nd rfl (Or.inl rfl) (pe_callTy call_tuple_of rfl B.tuple PyProof.Rows.boot_tuple (pa_cons (pe_callB (call_sortedL (hun (c := 3) hr)) rfl B.sorted PyProof.Rows.boot_sorted (pa_cons (pe_lc sb__law_right_0 rfl (pi_list (pv 3)) (fun _ _ _ _ => pts_nil) (fun _ _ _ _ => pe_tup (pa_cons (pe_ix (r := rIxT K) ix_tup (pv 0) pe_int (fun _ _ => rfl)) (pa_cons (pe_ix (r := rIxT K) ix_tup (pv 0) pe_int (fun _ _ => rfl)) pa_nil)))) pa_nil)) pa_nil)))
    (pss_cons (ps_set (i := 5) nd rfl (Or.inl rfl) (pm0 GRT (pv 0) DH.cl hr))
    (pss_cons (ps_if (PW.pt (pw_or (pt_not (pt_val (pe_callB call_isinst rfl B.isi PyProof.Rows.boot_isinstance (pa_cons (pv 5) (pa_cons (pe_bltn (v := .ty "list") rfl B.list PyProof.Rows.boot_list rfl) pa_nil))))) (pw_or1 (pt_cmpR (op_ne_refs (Nat.lt_of_succ_lt (hun1 hr))) (pv 5) (pv 1) (nomark _))))) pss_never pss_nil)
    (pss_cons (ps_set (i := 6) nd rfl (Or.inl rfl) (pm0 GLT (pv 0) DH.cl hr))
    (pss_cons (ps_if (pt_not (pt_val (pc GL hr (pa_cons (pv 6) (pa_cons (pv 2) (pa_cons (pv 4) pa_nil)))))) pss_never pss_nil)
    (pss_cons (ps_expr (pe_bm PySem.F.plainAttrs_list PySem.F.slot_list_append PySem.F.type_list_append mt_append (pv 5) (pa_cons (pe_tup (pa_cons pe_str (pa_cons (pe_tup (pa_cons pe_int (pa_cons pe_int pa_nil))) pa_nil))) pa_nil)))
    (pss_cons (ps_expr (pe_bm PySem.F.plainAttrs_list PySem.F.slot_list_append PySem.F.type_list_append mt_append (pv 6) (pa_cons (pe_tup (pa_cons pe_int (pa_cons (pe_tup pa_nil) pa_nil))) pa_nil)))
    (pss_one (ps_ret (pe_and (pe_cmpR (op_eq_refs (Nat.lt_of_succ_lt (hun1 hr))) (pm0 GRT (pv 0) DH.cl hr) (pv 1) (nomark _)) (pe_one (pe_cmpR op_eq (pe_callB call_len_seq rfl B.len PySem.boot_len (pa_cons (pm0 GLT (pv 0) DH.cl hr) pa_nil)) (pe_callB call_len_seq rfl B.len PySem.boot_len (pa_cons (pv 2) pa_nil)) (nomark _)))))))))))), ?_⟩
  refine ⟨_, rfl, el, rfl, ⟨_, SqL.of hel⟩, ?_⟩
  refine lc_list (xs := eus) (fun i zs H' => Same H H' ∧ Paired (sPS K H') (d.ends.take i) zs) ⟨Same.refl _, .nil⟩ (small (by rw [← pe.len]; omega)) (fun i zs H' _ z => SqL.of (z.1 _ _ hel)) ?_ ?_
  · rintro i u zs H1 hu ⟨s1, pz⟩
    obtain ⟨x, ex, r, rfl, pv0, us, hrow, ⟨pa, rfl, hpa⟩, a2, rfl⟩ := pe.get hu
    have et : d.ends.take (i + 1) = d.ends.take i ++ [x] := by rw [List.take_succ, ex]; rfl
    have g := s1 _ _ hrow
    refine tAllT ⟨_, rfl, r, _, _, _, rfl, rfl, SqT.of g, at1, _, rfl, r, _, _, _, rfl, rfl, SqT.of g, at2, (by show 2 ≤ sizeLine; decide), fun t ht => ?_⟩
    have s2 := same_new (o := .tup [.ref pa, .str x.2]) ht
    rw [et]
    exact ⟨s1.trans s2, (Paired.mapP pz fun _ _ z => z.keep s2.ts).app (.cons ⟨t, pa, rfl, upd_same, s2 _ _ (s1 _ _ hpa)⟩ .nil)⟩
  rintro zs H1 ⟨s1, pz⟩ p hp
  rw [← pe.len, List.take_length] at pz
  have s2 := same_new (o := .lst zs) hp
  refine ⟨p, zs, d.ends, rfl, SqL.of upd_same, Paired.mapP pz fun _ _ z => z.keep s2.ts, h64, fun l y3 hl p3 => ?_⟩
  have s3 := same_new (o := .lst y3) hl
  refine ⟨l, y3, rfl, .inl ⟨SqL.of upd_same, fun t4 ht4 => ?_⟩⟩
  have s4 := same_new (o := .tup y3) ht4
  have s04 := s1.trans (s2.trans (s3.trans s4))
  have nw4 : NwAt K (upd (upd (upd H1 p (.lst zs)) l (.lst y3)) t4 (.tup y3)) d.ends (.ref t4) := ⟨t4, y3, rfl, upd_same, Paired.mapP p3 fun _ _ z => z.keep s4.ts⟩
  generalize (upd (upd (upd H1 p (HO.lst zs)) l (HO.lst y3)) t4 (HO.tup y3)) = H4 at s04 nw4 ⊢
  have sh4 := sh.keep s04
  refine ⟨_, rfl, h.l, h.dx, _, rfl, sh4.ins, hf_no (by decide +kernel), S, h, d, rs, ws, v, rfl, sh4, fun fp H5 s5 hfp0 hfp => ?_⟩
  have s05 := s04.trans s5
  refine ⟨_, rfl, _, _, _, _, rfl, TyOf.lst hfp, kit_ll, _, rfl, iteF ?_⟩
  refine ⟨_, rfl, _, rfl, fp, rl, _, rfl, rfl, SqL.of hfp, SqL.of (s05 _ _ hrl), refs, _, rfl, iteF ?_⟩
  have sh5 := sh.keep s05
  refine ⟨_, rfl, h.l, h.dx, _, rfl, sh5.ins, hf_no (by decide +kernel), S, h, d, rs, ws, v, rfl, sh5, h64, hz, fun lp lus H6 s6 hlp0 hlp plu => ?_⟩
  have s06 := s05.trans s6
  refine ⟨_, rfl, _, rfl, _, rfl, lp, wl, _, lus, ys, ws, d.ends, rfl, hlp, plu, s06 _ _ hwl, Paired.mapP pw fun _ _ z => z.keep s06.ts, (nw4.keep s5.ts).keep s6.ts, fun H7 s7 => ⟨_, rfl, iteF ?_⟩⟩
  have hfp7 := s7 _ _ (s6 _ _ hfp)
  have hlp7 := s7 _ _ hlp
  have s07 := s06.trans s7
  have fresh : ∀ {b : Addr} {o : HO}, H b = some o → b ≠ fp ∧ b ≠ lp := fun {b o} e => ⟨ne_of_none (s04 _ _ e) hfp0, ne_of_none (s05 _ _ e) hlp0⟩
  have nfl : lp ≠ fp := Ne.symm (ne_of_none hfp hlp0)
  refine ⟨_, rfl, .inl ⟨rfl, _, SqL.of hfp7⟩, (by show 2 ≤ sizeLine; decide), fun t8 ht8 => ⟨(by show 2 ≤ sizeLine; decide), fun t9 ht9 => ?_⟩⟩
  have s8 := same_new (o := .tup [.int 0, .int 0]) ht8
  have s9 := same_new (o := .tup [.str "over", .ref t8]) ht9
  have s79 := s8.trans s9
  generalize (upd (upd H7 t8 (HO.tup [.int 0, .int 0])) t9 (HO.tup [.str "over", .ref t8])) = H9 at s79 ⊢
  refine ⟨fp, _, _, rfl, rfl, s79 _ _ hfp7, small1000 (by rw [List.length_map]; omega), ?_⟩
  have kp10 : Kp fp H9 (upd H9 fp (.lst (rs.map V.ref ++ [.ref t9]))) := kp_upd
  have s010 : Same H (upd H9 fp (.lst (rs.map V.ref ++ [.ref t9]))) := fun b o e => kp10 _ _ (fresh e).1 (s79 _ _ (s07 _ _ e))
  have hlp10 := kp10 _ _ nfl (s79 _ _ hlp7)
  generalize (upd H9 fp (HO.lst (rs.map V.ref ++ [.ref t9]))) = H10 at s010 hlp10 ⊢
  refine ⟨_, rfl, .inl ⟨rfl, _, SqL.of hlp10⟩, (by show 0 ≤ sizeLine; decide), fun t11 ht11 => ⟨(by show 2 ≤ sizeLine; decide), fun t12 ht12 => ?_⟩⟩
  have s11 := same_new (o := .tup []) ht11
  have s12 := same_new (o := .tup [.int 0, .ref t11]) ht12
  have s1012 := s11.trans s12
  generalize (upd (upd H10 t11 (HO.tup [])) t12 (HO.tup [.int 0, .ref t11])) = H12 at s1012 ⊢
  refine ⟨lp, _, _, rfl, rfl, s1012 _ _ hlp10, small1000 (by rw [← plu.len]; omega), ?_⟩
  have kp13 : Kp lp H12 (upd H12 lp (.lst (lus ++ [.ref t12]))) := kp_upd
  have s013 : Same H (upd H12 lp (.lst (lus ++ [.ref t12]))) := fun b o e => kp13 _ _ (fresh e).2 (s1012 _ _ (s010 _ _ e))
  generalize (upd H12 lp (HO.lst (lus ++ [.ref t12]))) = H13 at s013 ⊢
  have sh13 := sh.keep s013
  refine ⟨_, rfl, h.l, h.dx, _, rfl, sh13.ins, hf_no (by decide +kernel), S, h, d, rs, ws, v, rfl, sh13, fun p14 H14 s14 hp140 hp14 => ?_⟩
  have s014 := s013.trans s14
  refine ⟨_, rfl, p14, rl, _, rfl, rfl, SqL.of hp14, SqL.of (s014 _ _ hrl), refs, _, rfl, iteT ?_⟩
  have sh14 := sh.keep s014
  refine ⟨_, rfl, h.l, h.dx, _, rfl, sh14.ins, hf_no (by decide +kernel), S, h, d, rs, ws, v, rfl, sh14, h64, hz, fun p15 us15 H15 s15 _ hp15 pu15 => ?_⟩
  have s015 := s014.trans s15
  refine ⟨p15, _, rfl, .inl (SqL.of hp15), _, rfl, wl, _, rfl, .inl (SqL.of (s015 _ _ hwl)), rfl, ?_⟩
  have e : us15.length = ys.length := by rw [← pu15.len, pw.len]
  rw [e, decT rfl]
  exact q _ s015
end
end K35

set_option maxHeartbeats 4000000
namespace K35
open PySem L2 Lo
section
variable {P : Program} {w : World} {K : PySem.W.Frag} {mg : Str → Option Value} {base : Heap} {f CS : Addr} {fd : FuncData}
variable {CH : Addr}
theorem _root_.Lo.ShA.kp {q : Addr} {H H' : Hp} {A : Ad} {h : Ah} {d : Sd} {rs : List Addr} {ws : List Ws} {v : V} (s : ShA CS CH K H A h d rs ws v) (k : Kp q H H') (n : q ∉ h.own A) (t : TSame H H') (nl : A.l ≠ q) : ShA CS CH K H' A h d rs ws v := by
  simp only [Ah.own, List.mem_cons, not_or] at n
  obtain ⟨us, h1, h2⟩ := s.snt
  exact ⟨s.st.kp k n.2.2.2 t nl, k _ _ (Ne.symm n.1) s.ins, k _ _ (Ne.symm n.2.1) s.rws, ⟨us, k _ _ (Ne.symm n.2.2.1) h1, Paired.mapP h2 fun _ _ z => z.keep t⟩, s.lat.imp id fun z => z.keep t, s.n1, s.n2, s.n3, s.n4, s.n5⟩
structure G35 (d : Sd) (i M : Nat) : Prop where
  rd : d.ready = []
  en : ∀ x ∈ d.ends, x.1.2 < (i : Int) ∨ 63 < x.1.2
  sm : d.Small (i + 1)
  cl : d.cells.length = M
def endsW (es : List (Pa × Str)) : Rw → List (Pa × Str)
  | .fin p o => es ++ [(p, o)]
  | _ => es
def cellsW (cz : List Int) : Rw → List Int
  | .walk _ _ ch => apply cz ch
  | _ => cz
section
variable {d : Sd} {i M : Nat} {w0 : Rw}
theorem G35.noR (g : G35 d i M) (p : Pa) : rdOf d.ready p = none := by rw [g.rd]; rfl
theorem G35.noE (g : G35 d i M) (hi : i ≤ 63) {p : Pa} (hp : p.2 = (i : Int)) : endOf d.ends p = none := by
  unfold endOf
  have : (d.ends.find? fun x => decide (x.1 = p)) = none := List.find?_eq_none.mpr fun x hx c => by
    have e : x.1 = p := of_decide_eq_true c
    rcases g.en x hx with z | z <;> rw [e, hp] at z <;> omega
  rw [this]
  rfl
theorem G35.chs (g : G35 d i M) (ok : Ok35 M w0) : d.chs w0 = match w0 with | .walk _ _ ch => ch | _ => [] := by
  cases w0 with
  | fin p o =>
    show (if o = "done" then ((rdOf d.ready p).map fun x => x.2.2).getD [] else []) = []
    rw [g.noR p]
    split <;> rfl
  | undo p j ch => exact ok.elim
  | _ => rfl
theorem G35.fits (g : G35 d i M) (ok : Ok35 M w0) : d.fits w0 := by
  refine ⟨fun c hc => ?_, fun p ch e => ?_⟩
  · rw [g.chs ok] at hc
    cases w0 with
    | walk p j ch =>
      obtain ⟨c0, v0, rfl, h0, h1⟩ := ok
      have := List.mem_singleton.mp hc
      subst this
      rw [g.cl]
      exact ⟨h0, h1⟩
    | _ => cases hc
  · subst e
    exact ok.elim
theorem G35.ends (g : G35 d i M) (hi : i ≤ 63) (hp : w0.nm.2 = (i : Int)) (r b : Addr) : (d.keep r b w0).ends = endsW d.ends w0 := by
  cases w0 with
  | fin p o =>
    show setE d.ends p o = d.ends ++ [(p, o)]
    unfold setE
    rw [g.noE (p := p) hi hp]
    rfl
  | _ => rfl
theorem G35.cells (g : G35 d i M) (ok : Ok35 M w0) (r b : Addr) : (d.keep r b w0).cells = cellsW d.cells w0 := by
  rw [keep_cells, g.chs ok]
  cases w0 <;> rfl
theorem G35.next (g : G35 d i M) (hi : i ≤ 63) (hp : w0.nm.2 = (i : Int)) (ok : Ok35 M w0) (r b : Addr) : G35 (d.keep r b w0) (i + 1) M := by
  refine ⟨?_, fun x hx => ?_, g.sm.keep r b w0, by rw [keep_cells, apply_len]; exact g.cl⟩
  · cases w0 with
    | ready p ch => exact ok.elim
    | _ => exact g.rd
  · rw [g.ends hi hp] at hx
    have old : ∀ x ∈ d.ends, x.1.2 < ((i + 1 : Nat) : Int) ∨ 63 < x.1.2 := fun x hx => (g.en x hx).imp (fun z => by omega) id
    cases w0 with
    | fin p o =>
      rcases List.mem_append.mp (show x ∈ d.ends ++ [(p, o)] from hx) with hx | hx
      · exact old x hx
      · have := List.mem_singleton.mp hx
        subst this
        left
        show p.2 < _
        rw [show p.2 = (i : Int) from hp]
        omega
    | _ => exact old x hx
theorem G35.more (g : G35 d i M) : G35 d (i + 1) M := ⟨g.rd, fun x hx => (g.en x hx).imp (fun z => by omega) id, g.sm.mono (by omega), g.cl⟩
end
structure J35 (CS CH : Addr) (K : PySem.W.Frag) (M : Nat) (S : Ad) (h : Ah) (rl wl el dl sl : Addr) (cs : List Int) (d : Sd) (es : List (Pa × Str)) (cz : List Int) (rs : List Addr) (ws : List Ws) (v : V) (i : Nat) (H : Hp) : Prop where
  sh : ShA CS CH K H S h d rs ws v
  rows : H rl = some (.lst (rs.map V.ref))
  wish : ∃ ys, H wl = some (.lst ys) ∧ Paired (WiAt H) ws ys
  ends : ∃ eus, H el = some (.lst eus) ∧ Paired (EnAt K H) es eus
  due : H dl = some (.lst (cz.map V.int))
  sc : H sl = some (.lst (cs.map V.int))
  ap : ∀ b ∈ [rl, wl, el, dl, sl], b ∉ h.own S
  nd : [rl, wl, el, dl, sl].Nodup
  g : G35 d i M
  lr : rs.length ≤ i
  lw : ws.length ≤ i
section
variable {M : Nat} {S : Ad} {h : Ah} {rl wl el dl sl : Addr} {cs : List Int} {d : Sd} {es : List (Pa × Str)} {cz : List Int} {rs : List Addr} {ws : List Ws} {v : V} {i : Nat} {H H' : Hp}
theorem J35.keep (j : J35 CS CH K M S h rl wl el dl sl cs d es cz rs ws v i H) (e : Same H H') : J35 CS CH K M S h rl wl el dl sl cs d es cz rs ws v i H' := by
  obtain ⟨ys, w1, w2⟩ := j.wish
  obtain ⟨eus, e1, e2⟩ := j.ends
  exact ⟨j.sh.keep e, e _ _ j.rows, ⟨ys, e _ _ w1, Paired.mapP w2 fun _ _ z => z.keep e.ts⟩, ⟨eus, e _ _ e1, Paired.mapP e2 fun _ _ z => z.keep e.ts⟩, e _ _ j.due, e _ _ j.sc, j.ap, j.nd, j.g, j.lr, j.lw⟩
theorem J35.sep (j : J35 CS CH K M S h rl wl el dl sl cs d es cz rs ws v i H) : rl ≠ wl ∧ rl ≠ el ∧ rl ≠ dl ∧ rl ≠ sl ∧ wl ≠ el ∧ wl ≠ dl ∧ wl ≠ sl ∧ el ≠ dl ∧ el ≠ sl ∧ dl ≠ sl := by
  have := j.nd
  simp only [List.nodup_cons, List.mem_cons, List.not_mem_nil, or_false, not_or, not_false_eq_true, List.nodup_nil, and_true] at this
  obtain ⟨⟨a1, a2, a3, a4⟩, ⟨b1, b2, b3⟩, ⟨c1, c2⟩, d1⟩ := this
  exact ⟨a1, a2, a3, a4, b1, b2, b3, c1, c2, d1⟩
theorem J35.shk (j : J35 CS CH K M S h rl wl el dl sl cs d es cz rs ws v i H) {q : Addr} {xs : List V} (hq : q ∈ [rl, wl, el, dl, sl]) (e : H q = some (.lst xs)) (k : Kp q H H') (t : TSame H H') : ShA CS CH K H' S h d rs ws v :=
  j.sh.kp k (j.ap q hq) t (fun z => by have z' := j.sh.st.ins; rw [z, e] at z'; cases z')
end
abbrev σ35 (y0 : Option V) (M : Nat) (S : Ad) (h : Ah) (rl wl el dl : Addr) (y8 y9 y10 y11 : Option V) : St := [y0, some (.int (M : Nat)), some (.ref S.l), some (.ref el), some (.ref h.l), some (.ref rl), some (.ref wl), some (.ref dl), y8, y9, y10, y11]
def wA (CS CH : Addr) (K : PySem.W.Frag) : TS := fun D σ H => ∃ y0 M S h rl wl el dl y8 y9 r y11 sl cs d es cz rs ws v i w, σ = σ35 y0 M S h rl wl el dl y8 y9 (some (.ref r)) y11 ∧ J35 CS CH K M S h rl wl el dl sl cs d es cz rs ws v i H ∧ RwAt K H w r ∧ Ok35 M w ∧ d.ends = endsW es w ∧ d.cells = cellsW cz w ∧ cz.length = M ∧ es.length ≤ 900 ∧
  ∀ H', J35 CS CH K M S h rl wl el dl sl cs d d.ends d.cells rs ws v i H' → D.nx (σ35 y0 M S h rl wl el dl y8 y9 (some (.ref r)) y11) H'
def wB (CS CH : Addr) (K : PySem.W.Frag) : TS := fun D σ H => ∃ y0 M S h rl wl el dl y8 y9 r y11 sl cs d cz rs ws v i w, σ = σ35 y0 M S h rl wl el dl y8 y9 (some (.ref r)) y11 ∧ J35 CS CH K M S h rl wl el dl sl cs d d.ends cz rs ws v i H ∧ RwAt K H w r ∧ Ok35 M w ∧ d.cells = cellsW cz w ∧ cz.length = M ∧
  ∀ H', J35 CS CH K M S h rl wl el dl sl cs d d.ends d.cells rs ws v i H' → D.nx (σ35 y0 M S h rl wl el dl y8 y9 (some (.ref r)) y11) H'
def wC (CS CH : Addr) (K : PySem.W.Frag) : TS := fun D σ H => ∃ y0 M S h rl wl el dl y8 y9 y10 y11 sl cs d rs ws v i, σ = σ35 y0 M S h rl wl el dl y8 y9 y10 y11 ∧ J35 CS CH K M S h rl wl el dl sl cs d d.ends d.cells rs ws v i H ∧ i ≤ 62 ∧
  ∀ H', J35 CS CH K M S h rl wl el dl sl cs d d.ends d.cells rs ws v i H' → D.nx (σ35 y0 M S h rl wl el dl y8 y9 y10 y11) H'
def w0S (CS : Addr) (K : PySem.W.Frag) : TS := fun D σ H => ∃ a ns M S el eus d, σ = [some (.ref a), some (.int (M : Nat)), some (.ref (S : Ad).l), some (.ref el), none, none, none, none, none, none, none, none] ∧ SqL K H a ((ns : List Int).map V.int) ∧ ns.length ≤ 63 ∧ 1 ≤ M ∧ M ≤ 8 ∧ St CS K H S d ∧ G35 d 0 M ∧ d.cells = List.replicate M 5 ∧ H el = some (.lst eus) ∧ Paired (EnAt K H) d.ends eus ∧ el ∉ S.own ∧ ∀ H', D.rt (.bl true) H'
theorem cut24 (ns : List Int) : (cutV (ns.map V.int) none (some 24)).length ≤ 24 := by
  unfold cutV
  have e : HT.sIx (ns.map V.int).length (ns.map V.int).length (some (24 : Int)) = min 24 (ns.map V.int).length := HT.sIx_nat ..
  rw [e, List.length_take]
  omega
theorem ok_law (F : Fun K "law" "law" s_law f fd) (B : TxB mg) (mE : mg "enumerate" = none) (D : TxD K CS) (DH : TxH K CH) {fSI : Addr} {dSI : FuncData} (MS : Mk K CS fSI) (mgS : mg "Stand" = some (.ref CS))
    (GSI : FnOk P w K mg base CX0 1 fSI dSI ["self", "cells"] (spSInit CS K)) (bSI : Binds K dSI ["self", "cells"] []) {fHI : Addr} {dHI : FuncData} (MH : Mk K CH fHI) (mgH : mg "Sheet" = some (.ref CH))
    (GHI : FnOk P w K mg base CX0 1 fHI dHI ["self", "stand"] (spHInit CS CH K)) (bHI : Binds K dHI ["self", "stand"] []) (GA : GF P w K mg base CX0 1 "_law_cell_at" ["_law_script", "_law_k"] (spCell K))
    (GR : GF P w K mg base CX0 1 "_law_row" ["_law_number", "_law_k", "_law_many"] (spRow35 K)) (GWi : GF P w K mg base CX0 1 "_law_wish" ["_law_number", "_law_k"] spWish)
    (GT : GF P w K mg base CX0 3 "_law_right" ["_law_sheet", "_law_rows", "_law_wishes", "_law_ends"] (spRight35 CS CH K)) (GK : GM P w K mg base CX0 2 CS "keep" ["self", "row"] (spKeep CS K)) (GC : GM P w K mg base CX0 1 CS "cells_told" ["self"] (spCells CS K))
    (GHR : GM P w K mg base CX0 3 CH "row" ["self", "row"] (spHRow CS CH K)) (GHS : GM P w K mg base CX0 1 CH "send" ["self", "to", "word", "p", "more"] (spHSend CS CH K)) :
    FnOk P w K mg base CX0 4 f fd ["_law_script"] (spLaw K) := by
  refine F.ok sc_law (fun vs H Q E h => ?_) (fun cdv A outer s H vs Q E hr h => ?_)
  · obtain ⟨a, ns, rfl, _⟩ := h
    rfl
  obtain ⟨a, ns, rfl, hS, hl, q⟩ := h
  have nd := sc_law.nd
  have hr1 : Room (1 + 1) _ := hr.mono (by decide)
  refine ⟨_, pss_cons (ps_set (i := 1) nd rfl (Or.inl rfl) (pe_op op_add pe_int (pe_op op_mod (pc GA hr (pa_cons (pv 0) (pa_cons pe_int pa_nil))) pe_int)))
    (pss_cons (ps_set (i := 2) nd rfl (Or.inl rfl) (pe_make MS GSI hr1 rfl mgS bSI .nil pass0 (pa_cons (pe_lc sb_law_0 rfl (pi_range1 rfl B.range (pa_cons (pv 1) pa_nil)) (fun _ _ _ _ => pts_nil) (fun _ _ _ _ => pe_int)) pa_nil)))
    (pss_cons (ps_set (i := 3) nd rfl (Or.inl rfl) (pe_lst pa_nil))
    (pss_cons (ps_if (pt_cmpR op_eq (pe_op op_mod (pe_op op_fdiv (pc GA hr (pa_cons (pv 0) (pa_cons pe_int pa_nil))) pe_int) pe_int) pe_int (nomark _))
      (pss_cons (ps_expr (pe_bm PySem.F.plainAttrs_list PySem.F.slot_list_append PySem.F.type_list_append mt_append (pv 3) (pa_cons (pe_tup (pa_cons pe_str (pa_cons (pe_tup (pa_cons pe_int (pa_cons (pe_op op_add (pe_op op_pow pe_int pe_int) (pe_op op_mod (pc GA hr (pa_cons (pv 0) (pa_cons pe_int pa_nil))) pe_int)) pa_nil))) (pa_cons pe_str (pa_cons (pe_tup pa_nil) pa_nil))))) pa_nil)))
      (pss_one (ps_expr (pm GK (pv 2) D.cl hr (pa_cons (pe_ix (r := rIxL K) ix_list (pv 3) pe_int (fun _ _ => rfl)) pa_nil))))) pss_nil)
    (pss_weak (w0S CS K) (pss_cons (ps_set (i := 4) nd rfl (Or.inl rfl) (pe_make MH GHI hr1 rfl mgH bHI .nil pass0 (pa_cons (pv 2) pa_nil)))
    (pss_cons (ps_set (i := 5) nd rfl (Or.inl rfl) (pe_lst pa_nil))
    (pss_cons (ps_set (i := 6) nd rfl (Or.inl rfl) (pe_lst pa_nil))
    (pss_cons (ps_lcset (iy := 7) sb_law_1 rfl (pi_range1 rfl B.range (pa_cons (pv 1) pa_nil)) (fun _ _ _ _ => pts_nil) (fun _ _ _ _ => pe_int) nd rfl (Or.inl rfl))
    (pss_cons (ps_for PassesOwn.never rfl (pi_enum rfl mE (pa_cons (pe_slice sl_list (pv 0) po_none (po_some pe_int)) pa_nil)) (pg_tup rfl (pgs_cons (pg_name (i := 8) nd rfl (Or.inl rfl)) (pgs_cons (pg_name (i := 9) nd rfl (Or.inl rfl)) pgs_nil)))
      (pss_cons (ps_if (pt_cmpR op_eq (pe_op op_mod (pv 9) pe_int) pe_int (nomark _))
        (pss_cons (ps_set (i := 10) nd rfl (Or.inl rfl) (pc GR hr (pa_cons (pv 9) (pa_cons (pv 8) (pa_cons (pv 1) pa_nil)))))
        (pss_cons (ps_expr (pe_bm PySem.F.plainAttrs_list PySem.F.slot_list_append PySem.F.type_list_append mt_append (pv 5) (pa_cons (pv 10) pa_nil)))
        (pss_cons (ps_expr (pm GHR (pv 4) DH.cl hr (pa_cons (pv 10) pa_nil)))
        (pss_weak (wA CS CH K) (pss_cons (ps_if (pt_cmpR op_eq (pe_ix (r := rIxT K) ix_tup (pv 10) pe_int (fun _ _ => rfl)) pe_str (nomark _)) (pss_one (ps_expr (pe_bm PySem.F.plainAttrs_list PySem.F.slot_list_append PySem.F.type_list_append mt_append (pv 3) (pa_cons (pv 10) pa_nil)))) pss_nil)
        (pss_weak (wB CS CH K) (pss_one (ps_if (pt_cmpR op_eq (pe_ix (r := rIxT K) ix_tup (pv 10) pe_int (fun _ _ => rfl)) pe_str (nomark _))
          (pss_one (ps_asg (pe_ix (r := rIxT K) ix_tup (pe_ix (r := rIxT K) ix_tup (pe_ix (r := rIxT K) ix_tup (pv 10) pe_int (fun _ _ => rfl)) pe_int (fun _ _ => rfl)) pe_int (fun _ _ => rfl)) (pg_sub (pv 7) (pe_ix (r := rIxT K) ix_tup (pe_ix (r := rIxT K) ix_tup (pe_ix (r := rIxT K) ix_tup (pv 10) pe_int (fun _ _ => rfl)) pe_int (fun _ _ => rfl)) pe_int (fun _ _ => rfl)) set_list))) pss_nil)) ?vB)) ?vA))))
        (pss_cons (ps_set (i := 11) nd rfl (Or.inl rfl) (pc GWi hr (pa_cons (pv 9) (pa_cons (pv 8) pa_nil))))
        (pss_cons (ps_expr (pe_bm PySem.F.plainAttrs_list PySem.F.slot_list_append PySem.F.type_list_append mt_append (pv 6) (pa_cons (pv 11) pa_nil)))
        (pss_one (ps_expr (pm GHS (pv 4) DH.cl hr (pa_cons (pe_ix (r := rIxT K) ix_tup (pv 11) pe_int (fun _ _ => rfl)) (pa_cons (pe_ix (r := rIxT K) ix_tup (pv 11) pe_int (fun _ _ => rfl)) (pa_cons (pe_ix (r := rIxT K) ix_tup (pv 11) pe_int (fun _ _ => rfl)) (pa_cons (pe_ix (r := rIxT K) ix_tup (pv 11) pe_int (fun _ _ => rfl)) pa_nil))))))))))
      (pss_weak (wC CS CH K) (pss_one (ps_if (PW.pt (pw_or (pt_not (pt_val (pc GT hr (pa_cons (pv 4) (pa_cons (pv 5) (pa_cons (pv 6) (pa_cons (pv 3) pa_nil))))))) (pw_or1 (pt_cmpR (op_neL cInt (hun hr)) (pm0 GC (pv 2) D.cl hr) (pv 7) (nomark _))))) pss_never pss_nil)) ?vC)))
    (pss_one (ps_ret (pc GT hr (pa_cons (pe_make MH GHI hr1 rfl mgH bHI .nil pass0 (pa_cons (pv 2) pa_nil)) (pa_cons (pe_lst pa_nil) (pa_cons (pe_lst pa_nil) (pa_cons (pv 3) pa_nil)))))))))))) ?v0)))), ?_⟩
  case vC =>
    rintro D0 σ H ⟨y0, M, S, h, rl, wl, el, dl, y8, y9, y10, y11, sl, cs, d, rs, ws, v, i, rfl, j, hi, nx⟩
    obtain ⟨ys, hwl, pw⟩ := j.wish
    obtain ⟨eus, hel, pe⟩ := j.ends
    refine ⟨_, rfl, _, rfl, _, rfl, _, rfl, S, h, d, rs, ws, v, rl, wl, el, ys, eus, rfl, j.sh, j.rows, hwl, pw, hel, pe, Nat.lt_of_le_of_lt j.g.sm.en (by omega), by have := j.lw; omega, by have := j.lr; omega, fun H1 s1 => ⟨_, rfl, iteF ?_⟩⟩
    have j1 := j.keep s1
    refine ⟨_, rfl, S.l, S.dx, _, rfl, j1.sh.st.ins, sf_no (by decide +kernel), S, d, rfl, j1.sh.st, fun p H2 s2 _ hp => ?_⟩
    have j2 := j1.keep s2
    exact ⟨_, rfl, d.cells, d.cells, ints_ls hp, ints_ls j2.due, _, rfl, iteNS rfl (nx _ j2)⟩
  case vB =>
    rintro D0 σ H ⟨y0, M, S, h, rl, wl, el, dl, y8, y9, r, y11, sl, cs, d, cz, rs, ws, v, i, w0, rfl, j, hw, ok, ec, hcz, nx⟩
    obtain ⟨pv0, us, hrow, hp, hm⟩ := id hw
    refine ⟨_, rfl, r, _, _, _, rfl, rfl, SqT.of hrow, at0, rfl, _, rfl, ?_⟩
    by_cases e1 : w0.wd = "walked"
    · cases w0 with
      | walk p ji ch =>
        obtain ⟨c0, v0, rfl, h0, h1⟩ := ok
        obtain ⟨cc, hh, rfl, dC, cus, rfl, hdc, pch⟩ := hm
        cases pch with
        | cons ra rt =>
          cases rt
          obtain ⟨ca, u1, u2, rfl, hca, e2, e3⟩ := ra
          have e2' : u1 = .int c0 := e2
          have e3' : u2 = .int v0 := e3
          subst e2' e3'
          refine ite2 (fun _ => ?_) (fun c => absurd (decide_eq_true rfl) c)
          refine ⟨_, rfl, r, _, _, _, rfl, rfl, SqT.of hrow, atI_nat (j := 3) rfl, dC, _, _, _, rfl, rfl, hdc.sq, at0, ca, _, _, _, rfl, rfl, hca.sq, at1, _, rfl, _, rfl, r, _, _, _, rfl, rfl, SqT.of hrow, atI_nat (j := 3) rfl, dC, _, _, _, rfl, rfl, hdc.sq, at0, ca, _, _, _, rfl, rfl, hca.sq, at0, dl, _, c0, c0.toNat, rfl, rfl, j.due, (by rw [List.length_map, hcz]; exact ixN_in h0 h1), ?_⟩
          have e4 : (cz.map V.int).set c0.toNat (.int v0) = d.cells.map V.int := by
            rw [ec]
            show _ = (cz.set c0.toNat v0).map V.int
            rw [List.map_set]
          rw [e4]
          have hdl := j.due
          have kp : Kp dl H (upd H dl (.lst (d.cells.map V.int))) := kp_upd
          have ts : TSame H (upd H dl (.lst (d.cells.map V.int))) := fun b xs e => kp b _ (fun z => by rw [z, hdl] at e; cases e) e
          obtain ⟨n1, n2, n3, n4, n5, n6, n7, n8, n9, n10⟩ := j.sep
          obtain ⟨ys, hwl, pw⟩ := j.wish
          obtain ⟨eus, hel, pe⟩ := j.ends
          exact nx _ ⟨j.shk (by simp) hdl kp ts, kp _ _ n3 j.rows, ⟨ys, kp _ _ n6 hwl, Paired.mapP pw fun _ _ z => z.keep ts⟩, ⟨eus, kp _ _ n8 hel, Paired.mapP pe fun _ _ z => z.keep ts⟩, upd_same, kp _ _ (Ne.symm n10) j.sc, j.ap, j.nd, j.g, j.lr, j.lw⟩
      | _ => exact absurd e1 (by simp only [Rw.wd]; decide +kernel)
    · refine ite2 (fun c => absurd (V.str.inj (of_decide_eq_true c)) e1) (fun _ => nx _ ?_)
      have e : d.cells = cz := by
        rw [ec]
        cases w0 with
        | walk p ji ch => exact absurd rfl e1
        | _ => rfl
      rw [e]
      exact j
  case vA =>
    rintro D0 σ H ⟨y0, M, S, h, rl, wl, el, dl, y8, y9, r, y11, sl, cs, d, es, cz, rs, ws, v, i, w0, rfl, j, hw, ok, ee, ec, hcz, hes, nx⟩
    obtain ⟨pv0, us, hrow, hp, hm⟩ := id hw
    refine ⟨_, rfl, r, _, _, _, rfl, rfl, SqT.of hrow, at0, rfl, _, rfl, ?_⟩
    by_cases e1 : w0.wd = "end"
    · cases w0 with
      | fin p o =>
        obtain ⟨eus, hel, pe⟩ := j.ends
        obtain ⟨ys, hwl, pw⟩ := j.wish
        refine ite2 (fun _ => ?_) (fun c => absurd (decide_eq_true rfl) c)
        refine ⟨_, rfl, .inl ⟨rfl, _, SqL.of hel⟩, _, rfl, el, eus, _, rfl, rfl, hel, small1000 (by rw [← pe.len]; omega), ?_⟩
        have kp : Kp el H (upd H el (.lst (eus ++ [.ref r]))) := kp_upd
        have ts : TSame H (upd H el (.lst (eus ++ [.ref r]))) := fun b xs e => kp b _ (fun z => by rw [z, hel] at e; cases e) e
        obtain ⟨n1, n2, n3, n4, n5, n6, n7, n8, n9, n10⟩ := j.sep
        have j1 : J35 CS CH K M S h rl wl el dl sl cs d d.ends cz rs ws v i (upd H el (.lst (eus ++ [.ref r]))) :=
          ⟨j.shk (by simp) hel kp ts, kp _ _ n2 j.rows, ⟨ys, kp _ _ n5 hwl, Paired.mapP pw fun _ _ z => z.keep ts⟩, ⟨_, upd_same, by rw [ee]; exact (Paired.mapP pe fun _ _ z => z.keep ts).app (.cons ⟨r, rfl, hw.keep ts⟩ .nil)⟩, kp _ _ (Ne.symm n8) j.due, kp _ _ (Ne.symm n9) j.sc, j.ap, j.nd, j.g, j.lr, j.lw⟩
        exact ⟨y0, M, S, h, rl, wl, el, dl, y8, y9, r, y11, sl, cs, d, cz, rs, ws, v, i, _, rfl, j1, hw.keep ts, ok, ec, hcz, nx⟩
      | _ => exact absurd e1 (by simp only [Rw.wd]; decide +kernel)
    · refine ite2 (fun c => absurd (V.str.inj (of_decide_eq_true c)) e1) (fun _ => ?_)
      have e : d.ends = es := by
        rw [ee]
        cases w0 with
        | fin p o => exact absurd rfl e1
        | _ => rfl
      exact ⟨y0, M, S, h, rl, wl, el, dl, y8, y9, r, y11, sl, cs, d, cz, rs, ws, v, i, w0, rfl, by rw [e]; exact j, hw, ok, ec, hcz, nx⟩
  case v0 =>
    rintro D0 σ H ⟨a, ns, M, S, el, eus, d, rfl, hS, hl, hM1, hM8, st, g, ec, hel, pe, nel, q⟩
    refine ⟨_, rfl, ?_⟩
    intro x dx nx ndx nex
    have s1 : ∀ {o1 o2 : HO}, Same H (upd (upd H dx o1) x o2) := fun {o1 o2} b o e => by rw [upd_ne (ne_of_none e nx), upd_ne (ne_of_none e ndx)]; exact e
    refine ⟨x, dx, S, d, rfl, upd_same, st.keep s1, ne_of_none st.ins nx, fun h H2 eh sh2 hr0 hs0 kp2 => ⟨rfl, ?_⟩⟩
    subst eh
    have s2 : Same H H2 := fun b o e => kp2 b o (ne_of_none e nx) (s1 _ _ e)
    have notIn : ∀ {H' : Hp} {b : Addr} {rs ws v d}, ShA CS CH K H' S h d rs ws v → H' b = none → b ∉ h.own S := fun {H' b rs ws v d} sh hb hm => by
      obtain ⟨o, e, _⟩ := sh.own hm
      rw [hb] at e
      cases e
    have nel2 : el ∉ h.own S := by
      simp only [Ah.own, List.mem_cons, not_or]
      exact ⟨ne_of_none hel nx, ne_of_none (s1 _ _ hel) hr0, ne_of_none (s1 _ _ hel) hs0, nel⟩
    have hel2 := s2 _ _ hel
    have pe2 := Paired.mapP pe fun _ _ z => EnAt.keep s2.ts z
    have hS2 := s2.seq hS
    refine ⟨(by show 0 ≤ sizeLine; decide), fun rl hrl => ?_⟩
    have s3 := same_new (o := .lst []) hrl
    have n1 := notIn sh2 hrl
    have hrl3 : (upd H2 rl (.lst [])) rl = some (.lst []) := upd_same
    have d1 := ne_of_none hel2 hrl
    generalize (upd H2 rl (HO.lst [])) = H3 at s3 hrl3 ⊢
    have sh3 := sh2.keep s3
    refine ⟨(by show 0 ≤ sizeLine; decide), fun wl hwl => ?_⟩
    have s4 := same_new (o := .lst []) hwl
    have n2 := notIn sh3 hwl
    have hwl4 : (upd H3 wl (.lst [])) wl = some (.lst []) := upd_same
    have d2 := ne_of_none (s3 _ _ hel2) hwl
    have d3 := ne_of_none hrl3 hwl
    generalize (upd H3 wl (HO.lst [])) = H4 at s4 hwl4 ⊢
    have sh4 := sh3.keep s4
    refine ⟨_, rfl, (M : Int), rfl, (bnd (by omega)).1, (bnd (by omega)).2, ?_⟩
    rw [Int.toNat_natCast]
    refine lc_range (n := M) (fun i ys H' => H' = H4 ∧ ys = (List.replicate i (5 : Int)).map V.int) ⟨rfl, rfl⟩ (small (by omega)) (fun i ys H' hi z => tAllT ?_) (fun ys H' z => ?_)
    · obtain ⟨rfl, rfl⟩ := z
      exact ⟨rfl, by rw [List.replicate_succ', List.map_append]; rfl⟩
    obtain ⟨rfl, rfl⟩ := z
    intro dl hdl
    have s5 := same_new (o := .lst ((List.replicate M (5 : Int)).map V.int)) hdl
    have n3 := notIn sh4 hdl
    have hdl5 : (upd H' dl (.lst ((List.replicate M (5 : Int)).map V.int))) dl = some (.lst (d.cells.map V.int)) := by rw [ec]; exact upd_same
    have d4 := ne_of_none (s4 _ _ (s3 _ _ hel2)) hdl
    have d5 := ne_of_none (s4 _ _ hrl3) hdl
    have d6 := ne_of_none hwl4 hdl
    generalize (upd H' dl (HO.lst ((List.replicate M (5 : Int)).map V.int))) = H5 at s5 hdl5 ⊢
    have sh5 := sh4.keep s5
    have s25 := s3.trans (s4.trans s5)
    refine ⟨_, rfl, _, rfl, a, _, rfl, s25.seq hS2, fun sl hsl => ⟨sl, rfl, ⟨_, SqL.of upd_same⟩, ?_⟩⟩
    have c24 := cut24 ns
    obtain ⟨cs, ecs, lcs⟩ := cut_ints ns none (some 24)
    rw [ecs] at c24 ⊢
    rw [List.length_map] at c24
    have s6 := same_new (o := .lst (cs.map V.int)) hsl
    have n4 := notIn sh5 hsl
    have d7 := ne_of_none (s25 _ _ hel2) hsl
    have d8 := ne_of_none (s5 _ _ (s4 _ _ hrl3)) hsl
    have d9 := ne_of_none (s5 _ _ hwl4) hsl
    have d10 := ne_of_none hdl5 hsl
    have s26 := s25.trans s6
    have j0 : J35 CS CH K M S h rl wl el dl sl cs d d.ends d.cells [] [] .non 0 (upd H5 sl (.lst (cs.map V.int))) := by
      refine ⟨sh5.keep s6, s6 _ _ (s5 _ _ (s4 _ _ hrl3)), ⟨[], s6 _ _ (s5 _ _ hwl4), .nil⟩, ⟨eus, s26 _ _ hel2, Paired.mapP pe2 fun _ _ z => z.keep s26.ts⟩, s6 _ _ hdl5, upd_same, fun b hb => ?_, ?_, g, Nat.le_refl _, Nat.le_refl _⟩
      · simp only [List.mem_cons, List.not_mem_nil, or_false] at hb
        rcases hb with z | z | z | z | z <;> subst z <;> assumption
      · simp only [List.nodup_cons, List.mem_cons, List.not_mem_nil, or_false, not_or, not_false_eq_true, List.nodup_nil, and_true]
        exact ⟨⟨d3, Ne.symm d1, d5, d8⟩, ⟨Ne.symm d2, d6, d9⟩, ⟨d4, d7⟩, d10⟩
    refine for_enum (xs := cs.map V.int) (fun i σ H' => ∃ y8 y9 y10 y11 d rs ws v, σ = σ35 (some (.ref a)) M S h rl wl el dl y8 y9 y10 y11 ∧ J35 CS CH K M S h rl wl el dl sl cs d d.ends d.cells rs ws v i H') ⟨none, none, none, none, d, [], [], .non, rfl, j0⟩ (fun i σ H' _ z => by obtain ⟨_, _, _, _, _, _, _, _, _, j⟩ := z; exact SqL.of j.sc) ?_ ?_
    · rintro i u t σ H7 hu ⟨y8, y9, y10, y11, d, rs, ws, v, rfl, j⟩ ht
      obtain ⟨n, rfl⟩ := int_at hu
      have hi : i < (cs.map V.int).length := (List.getElem?_eq_some_iff.mp hu).1
      rw [List.length_map] at hi
      have hi24 : i < 24 := Nat.lt_of_lt_of_le hi c24
      have s8 := same_new (o := .tup [.int (i : Nat), .int n]) ht
      have h8 : (upd H7 t (.tup [.int (i : Nat), .int n])) t = some (.tup [.int (i : Nat), .int n]) := upd_same
      have j8 := j.keep s8
      generalize (upd H7 t (HO.tup [.int (i : Nat), .int n])) = H8 at s8 h8 j8 ⊢
      refine ⟨t, _, rfl, SqT.of h8, rfl, _, _, rfl, _, _, rfl, rfl, ?_⟩
      refine ⟨_, rfl, _, _, rfl, rfl, (by show (0 : Int) < 2; decide), rfl, _, rfl, ite2 (fun _ => ?_) (fun _ => ?_)⟩
      · refine ⟨_, rfl, _, rfl, _, rfl, n, (i : Nat), M, rfl, hM1, hM8, fun w r H9 s9 hw ep ok => ?_⟩
        have j9 := j8.keep s9
        have hrw := j9.rows
        refine ⟨_, rfl, .inl ⟨rfl, _, SqL.of hrw⟩, _, rfl, rl, _, _, rfl, rfl, hrw, small1000 (by rw [List.length_map]; have := j9.lr; omega), ?_⟩
        have kp : Kp rl H9 (upd H9 rl (.lst (rs.map V.ref ++ [.ref r]))) := kp_upd
        have ts : TSame H9 (upd H9 rl (.lst (rs.map V.ref ++ [.ref r]))) := fun b xs e => kp b _ (fun z => by rw [z, hrw] at e; cases e) e
        have sh10 := j9.shk (by simp) hrw kp ts
        obtain ⟨m1, m2, m3, m4, m5, m6, m7, m8, m9, m10⟩ := j9.sep
        obtain ⟨ys, hwl9, pw9⟩ := j9.wish
        obtain ⟨eus9, hel9, pe9⟩ := j9.ends
        have rw10 : (upd H9 rl (.lst (rs.map V.ref ++ [.ref r]))) rl = some (.lst ((rs ++ [r]).map V.ref)) := by rw [upd_same, List.map_append]; rfl
        have wl10 := kp _ _ (Ne.symm m1) hwl9
        have el10 := kp _ _ (Ne.symm m2) hel9
        have dl10 := kp _ _ (Ne.symm m3) j9.due
        have sl10 := kp _ _ (Ne.symm m4) j9.sc
        have hw10 := hw.keep ts
        generalize (upd H9 rl (HO.lst (rs.map V.ref ++ [.ref r]))) = H10 at ts sh10 rw10 wl10 el10 dl10 sl10 hw10 ⊢
        refine ⟨_, rfl, h.l, h.dx, _, rfl, sh10.ins, hf_no (by decide +kernel), _, rfl, S, h, d, rs, ws, v, r, w, rfl, sh10, hw10, j9.g.sm.mono (by omega), (by rw [j9.g.cl]; omega), j9.g.fits ok, (by have := j9.lr; omega), fun kb v' H11 sh11 k11 => ?_⟩
        have ts11 := sh10.ts k11
        have kk : ∀ b ∈ [rl, wl, el, dl, sl], ∀ o, H10 b = some o → H11 b = some o := fun b hb o e => k11 b o (j9.ap b hb) e
        have tA : TSame H9 H11 := fun b xs e => ts11 _ _ (ts _ _ e)
        have j11 : J35 CS CH K M S h rl wl el dl sl cs (d.keep r kb w) d.ends d.cells (rs ++ [r]) ws v' (i + 1) H11 :=
          ⟨sh11, kk _ (by simp) _ rw10, ⟨ys, kk _ (by simp) _ wl10, Paired.mapP pw9 fun _ _ z => z.keep tA⟩, ⟨eus9, kk _ (by simp) _ el10, Paired.mapP pe9 fun _ _ z => z.keep tA⟩, kk _ (by simp) _ dl10, kk _ (by simp) _ sl10, j9.ap, j9.nd, j9.g.next (by omega) ep ok r kb, (by rw [List.length_append]; have := j9.lr; show rs.length + 1 ≤ i + 1; omega), (by have := j9.lw; omega)⟩
        exact ⟨_, M, S, h, rl, wl, el, dl, _, _, r, _, sl, cs, _, d.ends, d.cells, _, ws, v', i + 1, w, rfl, j11, hw10.keep ts11, ok, j9.g.ends (by omega) ep r kb, j9.g.cells ok r kb, j9.g.cl, Nat.le_trans j9.g.sm.en (by omega), fun H' j' => ⟨_, M, S, h, rl, wl, el, dl, _, _, _, _, sl, cs, _, _, ws, v', i + 1, rfl, j', by omega, fun H'' j'' => ⟨_, _, _, _, _, _, _, _, rfl, j''⟩⟩⟩
      · refine ⟨_, rfl, _, rfl, n, (i : Nat), rfl, fun tw x H9 s9 htw => ?_⟩
        have j9 := j8.keep s9
        obtain ⟨ys, hwl9, pw9⟩ := j9.wish
        obtain ⟨eus9, hel9, pe9⟩ := j9.ends
        refine ⟨_, rfl, .inl ⟨rfl, _, SqL.of hwl9⟩, _, rfl, wl, _, _, rfl, rfl, hwl9, small1000 (by rw [← pw9.len]; have := j9.lw; omega), ?_⟩
        have kp : Kp wl H9 (upd H9 wl (.lst (ys ++ [.ref tw]))) := kp_upd
        have ts : TSame H9 (upd H9 wl (.lst (ys ++ [.ref tw]))) := fun b xs e => kp b _ (fun z => by rw [z, hwl9] at e; cases e) e
        have sh10 := j9.shk (by simp) hwl9 kp ts
        obtain ⟨m1, m2, m3, m4, m5, m6, m7, m8, m9, m10⟩ := j9.sep
        have wl10 : (upd H9 wl (.lst (ys ++ [.ref tw]))) wl = some (.lst (ys ++ [.ref tw])) := upd_same
        have rw10 := kp _ _ m1 j9.rows
        have el10 := kp _ _ (Ne.symm m5) hel9
        have dl10 := kp _ _ (Ne.symm m6) j9.due
        have sl10 := kp _ _ (Ne.symm m7) j9.sc
        have tw10 := ts _ _ htw
        generalize (upd H9 wl (HO.lst (ys ++ [.ref tw]))) = H10 at ts sh10 rw10 wl10 el10 dl10 sl10 tw10 ⊢
        refine ⟨_, rfl, h.l, h.dx, _, rfl, sh10.ins, hf_no (by decide +kernel), _, rfl, tw, _, _, _, rfl, rfl, SqT.of tw10, at0, _, rfl, tw, _, _, _, rfl, rfl, SqT.of tw10, at1, _, rfl, tw, _, _, _, rfl, rfl, SqT.of tw10, at2, _, rfl, tw, _, _, _, rfl, rfl, SqT.of tw10, atI_nat (j := 3) rfl, S, h, d, rs, ws, v, x, rfl, sh10, (by have := j9.lw; omega), fun H11 sh11 k11 => ?_⟩
        have ts11 := sh10.ts k11
        have kk : ∀ b ∈ [rl, wl, el, dl, sl], ∀ o, H10 b = some o → H11 b = some o := fun b hb o e => k11 b o (j9.ap b hb) e
        have tA : TSame H9 H11 := fun b xs e => ts11 _ _ (ts _ _ e)
        have j11 : J35 CS CH K M S h rl wl el dl sl cs d d.ends d.cells rs (ws ++ [x]) v (i + 1) H11 :=
          ⟨sh11, kk _ (by simp) _ rw10, ⟨_, kk _ (by simp) _ wl10, (Paired.mapP pw9 fun _ _ z => z.keep tA).app (.cons ⟨tw, rfl, tA _ _ htw⟩ .nil)⟩, ⟨eus9, kk _ (by simp) _ el10, Paired.mapP pe9 fun _ _ z => z.keep tA⟩, kk _ (by simp) _ dl10, kk _ (by simp) _ sl10, j9.ap, j9.nd, j9.g.more, (by have := j9.lr; omega), (by rw [List.length_append]; have := j9.lw; show ws.length + 1 ≤ i + 1; omega)⟩
        exact ⟨_, M, S, h, rl, wl, el, dl, _, _, _, _, sl, cs, d, rs, _, v, i + 1, rfl, j11, by omega, fun H'' j'' => ⟨_, _, _, _, _, _, _, _, rfl, j''⟩⟩
    · rintro σ H7 ⟨y8, y9, y10, y11, d, rs, ws, v, rfl, j⟩
      refine ⟨_, rfl, ?_⟩
      intro x2 dx2 nx2 ndx2 nex2
      have t1 : ∀ {o1 o2 : HO}, Same H7 (upd (upd H7 dx2 o1) x2 o2) := fun {o1 o2} b o e => by rw [upd_ne (ne_of_none e nx2), upd_ne (ne_of_none e ndx2)]; exact e
      refine ⟨x2, dx2, S, d, rfl, upd_same, j.sh.st.keep t1, ne_of_none j.sh.st.ins nx2, fun h2 H8 eh sh8 hr8 hs8 kp8 => ⟨rfl, ?_⟩⟩
      subst eh
      have s8 : Same H7 H8 := fun b o e => kp8 b o (ne_of_none e nx2) (t1 _ _ e)
      refine ⟨(by show 0 ≤ sizeLine; decide), fun r2 hr2 => ⟨(by show 0 ≤ sizeLine; decide), fun w2 hw2 => ?_⟩⟩
      have s9 := same_new (o := .lst []) hr2
      have s10 := same_new (o := .lst []) hw2
      have sA := s9.trans s10
      obtain ⟨eus9, hel9, pe9⟩ := j.ends
      have hlen : (cs.map V.int).length ≤ 24 := by rw [List.length_map]; exact c24
      exact ⟨_, rfl, S, h2, d, [], [], .non, r2, w2, el, [], eus9, rfl, sh8.keep sA, s10 _ _ upd_same, upd_same, .nil, sA _ _ (s8 _ _ hel9), Paired.mapP pe9 fun _ _ z => (z.keep s8.ts).keep sA.ts, Nat.lt_of_le_of_lt j.g.sm.en (by omega), Nat.zero_le _, Nat.zero_le _, fun H' _ => q H'⟩
  refine ⟨_, rfl, a, ns, 0, rfl, hS, _, _, rfl, rfl, (by show (0 : Int) < 4; decide), _, _, rfl, rfl, ?_⟩
  obtain ⟨M, hM, hM1, hM8⟩ : ∃ M : Nat, 1 + cellAt ns 0 % 4 = (M : Int) ∧ 1 ≤ M ∧ M ≤ 8 := by
    have h0 : 0 ≤ cellAt ns 0 % 4 := Int.emod_nonneg _ (by decide)
    have h3 : cellAt ns 0 % 4 < 4 := Int.emod_lt_of_pos _ (by decide)
    exact ⟨(1 + cellAt ns 0 % 4).toNat, by omega, by omega, by omega⟩
  rw [show ((fun (i j : Int) => V.int (i + j)) 1 (cellAt ns 0 % 4)) = V.int (M : Nat) from congrArg V.int hM]
  refine ⟨_, rfl, (M : Int), rfl, (bnd (by omega)).1, (bnd (by omega)).2, ?_⟩
  rw [Int.toNat_natCast]
  refine lc_range (n := M) (fun i ys H' => H' = H ∧ ys = (List.replicate i (5 : Int)).map V.int) ⟨rfl, rfl⟩ (small (by omega)) (fun i ys H' hi z => tAllT ?_) (fun ys H' z => ?_)
  · obtain ⟨rfl, rfl⟩ := z
    exact ⟨rfl, by rw [List.replicate_succ', List.map_append]; rfl⟩
  obtain ⟨rfl, rfl⟩ := z
  intro c hc
  have s1 := same_new (o := .lst ((List.replicate M (5 : Int)).map V.int)) hc
  have hc1 : (upd H' c (.lst ((List.replicate M (5 : Int)).map V.int))) c = some (.lst ((List.replicate M (5 : Int)).map V.int)) := upd_same
  generalize (upd H' c (HO.lst ((List.replicate M (5 : Int)).map V.int))) = H1 at s1 hc1 ⊢
  intro x dx nx ndx nex
  refine ⟨x, dx, c, List.replicate M 5, rfl, upd_same, (by rw [upd_ne (ne_of_none hc1 nx), upd_ne (ne_of_none hc1 ndx)]; exact hc1), (by rw [List.length_replicate]; omega), fun S H2 eS st2 fr2 kp2 => ⟨rfl, ?_⟩⟩
  subst eS
  have s2 : Same H1 H2 := fun b' o e => kp2 b' o (ne_of_none e nx) (by rw [upd_ne (ne_of_none e nx), upd_ne (ne_of_none e ndx)]; exact e)
  refine ⟨(by show 0 ≤ sizeLine; decide), fun el hel => ?_⟩
  have s3 := same_new (o := .lst []) hel
  have nel : el ∉ S.own := fun hm => by
    obtain ⟨us0, stu⟩ := st2
    obtain ⟨o, e, _⟩ := stu.own hm
    rw [hel] at e
    cases e
  have st3 := st2.keep s3
  have hel3 : (upd H2 el (.lst [])) el = some (.lst []) := upd_same
  generalize (upd H2 el (HO.lst [])) = H3 at s3 st3 hel3 ⊢
  have s03 := s1.trans (s2.trans s3)
  have g0 : G35 (Sd.new (List.replicate M 5)) 0 M := ⟨rfl, (fun x hx => nomatch hx), ⟨Nat.zero_le _, Nat.zero_le _, Nat.zero_le _, Nat.zero_le _, Nat.zero_le _, Nat.zero_le _⟩, by show (List.replicate M (5 : Int)).length = M; rw [List.length_replicate]⟩
  refine ⟨_, rfl, a, ns, 0, rfl, s03.seq hS, _, _, rfl, rfl, ⟨by decide, by decide⟩, _, _, rfl, rfl, (by show (0 : Int) < 2; decide), rfl, _, rfl, ite2 (fun _ => ?_) (fun _ => ?_)⟩
  · refine ⟨_, rfl, .inl ⟨rfl, _, SqL.of hel3⟩, _, _, rfl, rfl, ⟨by decide, by decide, by decide⟩, _, rfl, a, ns, 0, rfl, s03.seq hS, _, _, rfl, rfl, (by show (0 : Int) < 1000; decide), _, _, rfl, rfl, ?_⟩
    obtain ⟨N, hN, hN63⟩ : ∃ N : Int, (10 : Int) ^ (12 : Int).toNat + cellAt ns 0 % 1000 = N ∧ 63 < N := by
      have h0 : 0 ≤ cellAt ns 0 % 1000 := Int.emod_nonneg _ (by decide)
      have h1 : (63 : Int) < 10 ^ (12 : Int).toNat := by decide +kernel
      exact ⟨_, rfl, by omega⟩
    rw [show ((fun (i j : Int) => V.int (i + j)) ((10 : Int) ^ (12 : Int).toNat) (cellAt ns 0 % 1000)) = V.int N from congrArg V.int hN]
    refine ⟨(by show 2 ≤ sizeLine; decide), fun pa hpa => ⟨(by show 0 ≤ sizeLine; decide), fun t0 ht0 => ⟨(by show 4 ≤ sizeLine; decide), fun r hrr => ?_⟩⟩⟩
    have s4 := same_new (o := .tup [.int 4, .int N]) hpa
    have s5 := same_new (o := .tup []) ht0
    have s6 := same_new (o := .tup [.str "end", .ref pa, .str "done", .ref t0]) hrr
    have s36 := s4.trans (s5.trans s6)
    have hpa6 := s6 _ _ (s5 _ _ (upd_same (H := H3) (a := pa) (o := .tup [.int 4, .int N])))
    have hw6 : RwAt K (upd (upd (upd H3 pa (.tup [.int 4, .int N])) t0 (.tup [])) r (.tup [.str "end", .ref pa, .str "done", .ref t0])) (.fin (4, N) "done") r := ⟨_, _, upd_same, ⟨pa, rfl, hpa6⟩, _, rfl⟩
    generalize (upd (upd (upd H3 pa (HO.tup [.int 4, .int N])) t0 (HO.tup [])) r (HO.tup [.str "end", .ref pa, .str "done", .ref t0])) = H6 at s36 hw6 ⊢
    have hel6 := s36 _ _ hel3
    have st6 := st3.keep s36
    refine ⟨el, [], _, rfl, rfl, hel6, (by decide), ?_⟩
    have kp : Kp el H6 (upd H6 el (.lst ([] ++ [.ref r]))) := kp_upd
    have ts : TSame H6 (upd H6 el (.lst ([] ++ [.ref r]))) := fun b xs e => kp b _ (fun z => by rw [z, hel6] at e; cases e) e
    have hel7 : (upd H6 el (.lst ([] ++ [.ref r]))) el = some (.lst [.ref r]) := upd_same
    have st7 := st6.kp kp nel ts (fun z => by have e := st6.ins; rw [z, hel6] at e; cases e)
    have hw7 := hw6.keep ts
    have seq7 : SqL K (upd H6 el (.lst ([] ++ [.ref r]))) a (ns.map V.int) := ((Scr.mk (N := [el]) ((s1.trans s2).seq hS) (fun b hb => by rw [List.mem_singleton.mp hb]; exact hel)).kp fun b o n e => kp b o (fun z => n (z ▸ List.mem_cons_self)) (s36 _ _ (s3 _ _ e))).seq
    have scr7 : Scr K (upd H6 el (.lst ([] ++ [.ref r]))) a (ns.map V.int) S.own := by
      refine (Scr.mk (N := el :: S.own) hS (fun b hb => ?_)).kp (fun b o n e => kp b o (fun z => n (z ▸ List.mem_cons_self)) (s36 _ _ (s03 _ _ e))) |>.less
      rcases List.mem_cons.mp hb with z | z
      · rw [z]
        cases e : H' el with
        | none => rfl
        | some o => rw [(s1.trans s2) _ _ e] at hel; cases hel
      · have f := fr2 b z
        cases e : H' b with
        | none => rfl
        | some o =>
          have e1 := s1 _ _ e
          rw [upd_ne (ne_of_none e1 nx), upd_ne (ne_of_none e1 ndx), e1] at f
          cases f
    generalize (upd H6 el (HO.lst ([] ++ [.ref r]))) = H7 at kp ts hel7 st7 hw7 seq7 scr7 ⊢
    refine ⟨_, rfl, S.l, S.dx, _, rfl, st7.ins, sf_no (by decide +kernel), _, rfl, el, _, _, _, rfl, rfl, SqL.of hel7, at0, S, Sd.new (List.replicate M 5), r, .fin (4, N) "done", rfl, st7, hw7, g0.sm.mono (by decide), (by rw [g0.cl]; omega), g0.fits (M := M) trivial, fun kb H8 st8 k8 => ?_⟩
    have ts8 := st7.ts k8
    exact ⟨a, ns, M, S, el, [.ref r], _, rfl, (scr7.kp k8).seq, hl, hM1, hM8, st8, ⟨rfl, fun x hx => (by
      have hx' : x ∈ ([(((4 : Int), N), ("done" : Str))] : List (Pa × Str)) := hx
      have e : x = (((4 : Int), N), ("done" : Str)) := List.mem_singleton.mp hx'
      rw [e]
      exact .inr hN63), (⟨Nat.zero_le _, Nat.zero_le _, Nat.zero_le _, Nat.zero_le _, Nat.zero_le _, Nat.zero_le _⟩ : (Sd.new (List.replicate M 5)).Small 0).keep r kb _, by rw [keep_cells, apply_len]; exact g0.cl⟩, g0.cells (M := M) (w0 := .fin (4, N) "done") trivial r kb, k8 _ _ nel hel7, .cons ⟨r, rfl, hw7.keep ts8⟩ .nil, nel, fun H' => q H'⟩
  · exact ⟨a, ns, M, S, el, [], _, rfl, s03.seq hS, hl, hM1, hM8, st3, g0, rfl, hel3, .nil, nel, fun H' => q H'⟩
end
end K35

set_option maxHeartbeats 4000000
namespace K35
open PySem L2 Lo
theorem all_mk {l : PySem.W.OpenLaw} {w : World} {K : PySem.W.Frag} {h : Heap} {mg : Str → Option Value} {fa CH fHinit fHrow fHsend fHrowstold fHletterstold CS fSinit fSchangesof fSkeep fScellstold fSnews fA fR fW fL fT fZ : Addr} (X : K.In h) (G : h.Ns mainGlobals mg) (hfa : mg "law" = some (.ref fa))
    {odHinit anHinit odHrow anHrow odHsend anHsend odHrowstold anHrowstold odHletterstold anHletterstold odSinit anSinit odSchangesof anSchangesof odSkeep anSkeep odScellstold anScellstold odSnews anSnews odA anA odR anR odW anW odL anL odT anT odZ anZ : Option Addr} {slHinit slHrow slHsend slHrowstold slHletterstold slSinit slSchangesof slSkeep slScellstold slSnews slA slR slW slL slT slZ : Array (Option Value)} {ocHinit kVHinit dcHinit pmHinit cdHinit ctHinit ocHrow kVHrow dcHrow pmHrow cdHrow ctHrow ocHsend kVHsend dcHsend pmHsend cdHsend ctHsend ocHrowstold kVHrowstold dcHrowstold pmHrowstold cdHrowstold ctHrowstold ocHletterstold kVHletterstold dcHletterstold pmHletterstold cdHletterstold ctHletterstold ocSinit kVSinit dcSinit pmSinit cdSinit ctSinit ocSchangesof kVSchangesof dcSchangesof pmSchangesof cdSchangesof ctSchangesof ocSkeep kVSkeep dcSkeep pmSkeep cdSkeep ctSkeep ocScellstold kVScellstold dcScellstold pmScellstold cdScellstold ctScellstold ocSnews kVSnews dcSnews pmSnews cdSnews ctSnews ocA kVA dcA pmA cdA ctA ocR kVR dcR pmR cdR ctR ocW kVW dcW pmW cdW ctW ocL kVL dcL pmL cdL ctL ocT kVT dcT pmT cdT ctT ocZ kVZ dcZ pmZ cdZ ctZ : Value}
    (nH : PySem.W.nsIn K mainGlobals "Sheet" = some (some (.ref CH)))
    (pgH : PySem.W.plainGet K CH Str.empty = true)
    (hdH : PySem.W.hasDictIn K CH = true)
    (poH : PySem.W.plainOver K CH = true)
    (saH : PySem.W.findIn K (.ref CH) "__setattr__" = some (some (.builtin "object.__setattr__")))
    (mkH : PySem.W.makesIn K CH = true)
    (kcH : PySem.W.keepIn K (.ref CH) = true)
    (qHht : PySem.W.findIn K (.ref CH) "stand" = some none)
    (qHhw : PySem.W.findIn K (.ref CH) "rows" = some none)
    (qHhs : PySem.W.findIn K (.ref CH) "sent" = some none)
    (qHhl : PySem.W.findIn K (.ref CH) "latest" = some none)
    (aHinit : PySem.W.findIn K (.ref CH) "__init__" = some (some (.ref fHinit)))
    (jHinit : PySem.W.isFn K (.ref fHinit) = true)
    (lHinit : K.lookup fHinit = some ⟨ocHinit, odHinit, .func (PySem.W.fnOf "__init__" "Sheet.__init__" (defArgs m_Sheet_init) (defBody m_Sheet_init) (defScope m_Sheet_init) .none kVHinit dcHinit pmHinit anHinit cdHinit ctHinit), slHinit⟩)
    (cHinit : PySem.W.codeIn K cdHinit "Sheet.__init__" = true)
    (eHinit : PySem.W.keepIn K (.ref fHinit) = true)
    (aHrow : PySem.W.findIn K (.ref CH) "row" = some (some (.ref fHrow)))
    (jHrow : PySem.W.isFn K (.ref fHrow) = true)
    (lHrow : K.lookup fHrow = some ⟨ocHrow, odHrow, .func (PySem.W.fnOf "row" "Sheet.row" (defArgs m_Sheet_row) (defBody m_Sheet_row) (defScope m_Sheet_row) .none kVHrow dcHrow pmHrow anHrow cdHrow ctHrow), slHrow⟩)
    (cHrow : PySem.W.codeIn K cdHrow "Sheet.row" = true)
    (eHrow : PySem.W.keepIn K (.ref fHrow) = true)
    (aHsend : PySem.W.findIn K (.ref CH) "send" = some (some (.ref fHsend)))
    (jHsend : PySem.W.isFn K (.ref fHsend) = true)
    (lHsend : K.lookup fHsend = some ⟨ocHsend, odHsend, .func (PySem.W.fnOf "send" "Sheet.send" (defArgs m_Sheet_send) (defBody m_Sheet_send) (defScope m_Sheet_send) .none kVHsend dcHsend pmHsend anHsend cdHsend ctHsend), slHsend⟩)
    (cHsend : PySem.W.codeIn K cdHsend "Sheet.send" = true)
    (eHsend : PySem.W.keepIn K (.ref fHsend) = true)
    (aHrowstold : PySem.W.findIn K (.ref CH) "rows_told" = some (some (.ref fHrowstold)))
    (jHrowstold : PySem.W.isFn K (.ref fHrowstold) = true)
    (lHrowstold : K.lookup fHrowstold = some ⟨ocHrowstold, odHrowstold, .func (PySem.W.fnOf "rows_told" "Sheet.rows_told" (defArgs m_Sheet_rows_told) (defBody m_Sheet_rows_told) (defScope m_Sheet_rows_told) .none kVHrowstold dcHrowstold pmHrowstold anHrowstold cdHrowstold ctHrowstold), slHrowstold⟩)
    (cHrowstold : PySem.W.codeIn K cdHrowstold "Sheet.rows_told" = true)
    (eHrowstold : PySem.W.keepIn K (.ref fHrowstold) = true)
    (aHletterstold : PySem.W.findIn K (.ref CH) "letters_told" = some (some (.ref fHletterstold)))
    (jHletterstold : PySem.W.isFn K (.ref fHletterstold) = true)
    (lHletterstold : K.lookup fHletterstold = some ⟨ocHletterstold, odHletterstold, .func (PySem.W.fnOf "letters_told" "Sheet.letters_told" (defArgs m_Sheet_letters_told) (defBody m_Sheet_letters_told) (defScope m_Sheet_letters_told) .none kVHletterstold dcHletterstold pmHletterstold anHletterstold cdHletterstold ctHletterstold), slHletterstold⟩)
    (cHletterstold : PySem.W.codeIn K cdHletterstold "Sheet.letters_told" = true)
    (eHletterstold : PySem.W.keepIn K (.ref fHletterstold) = true)
    (nS : PySem.W.nsIn K mainGlobals "Stand" = some (some (.ref CS)))
    (pgS : PySem.W.plainGet K CS Str.empty = true)
    (hdS : PySem.W.hasDictIn K CS = true)
    (poS : PySem.W.plainOver K CS = true)
    (saS : PySem.W.findIn K (.ref CS) "__setattr__" = some (some (.builtin "object.__setattr__")))
    (mkS : PySem.W.makesIn K CS = true)
    (kcS : PySem.W.keepIn K (.ref CS) = true)
    (qSnc : PySem.W.findIn K (.ref CS) "cells" = some none)
    (qSnb : PySem.W.findIn K (.ref CS) "begins" = some none)
    (qSnw : PySem.W.findIn K (.ref CS) "worked" = some none)
    (qSnr : PySem.W.findIn K (.ref CS) "readies" = some none)
    (qSne : PySem.W.findIn K (.ref CS) "ends" = some none)
    (qSna : PySem.W.findIn K (.ref CS) "walks" = some none)
    (qSno : PySem.W.findIn K (.ref CS) "overs" = some none)
    (aSinit : PySem.W.findIn K (.ref CS) "__init__" = some (some (.ref fSinit)))
    (jSinit : PySem.W.isFn K (.ref fSinit) = true)
    (lSinit : K.lookup fSinit = some ⟨ocSinit, odSinit, .func (PySem.W.fnOf "__init__" "Stand.__init__" (defArgs m_Stand_init) (defBody m_Stand_init) (defScope m_Stand_init) .none kVSinit dcSinit pmSinit anSinit cdSinit ctSinit), slSinit⟩)
    (cSinit : PySem.W.codeIn K cdSinit "Stand.__init__" = true)
    (eSinit : PySem.W.keepIn K (.ref fSinit) = true)
    (aSchangesof : PySem.W.findIn K (.ref CS) "changes_of" = some (some (.ref fSchangesof)))
    (jSchangesof : PySem.W.isFn K (.ref fSchangesof) = true)
    (lSchangesof : K.lookup fSchangesof = some ⟨ocSchangesof, odSchangesof, .func (PySem.W.fnOf "changes_of" "Stand.changes_of" (defArgs m_Stand_changes_of) (defBody m_Stand_changes_of) (defScope m_Stand_changes_of) .none kVSchangesof dcSchangesof pmSchangesof anSchangesof cdSchangesof ctSchangesof), slSchangesof⟩)
    (cSchangesof : PySem.W.codeIn K cdSchangesof "Stand.changes_of" = true)
    (eSchangesof : PySem.W.keepIn K (.ref fSchangesof) = true)
    (aSkeep : PySem.W.findIn K (.ref CS) "keep" = some (some (.ref fSkeep)))
    (jSkeep : PySem.W.isFn K (.ref fSkeep) = true)
    (lSkeep : K.lookup fSkeep = some ⟨ocSkeep, odSkeep, .func (PySem.W.fnOf "keep" "Stand.keep" (defArgs m_Stand_keep) (defBody m_Stand_keep) (defScope m_Stand_keep) .none kVSkeep dcSkeep pmSkeep anSkeep cdSkeep ctSkeep), slSkeep⟩)
    (cSkeep : PySem.W.codeIn K cdSkeep "Stand.keep" = true)
    (eSkeep : PySem.W.keepIn K (.ref fSkeep) = true)
    (aScellstold : PySem.W.findIn K (.ref CS) "cells_told" = some (some (.ref fScellstold)))
    (jScellstold : PySem.W.isFn K (.ref fScellstold) = true)
    (lScellstold : K.lookup fScellstold = some ⟨ocScellstold, odScellstold, .func (PySem.W.fnOf "cells_told" "Stand.cells_told" (defArgs m_Stand_cells_told) (defBody m_Stand_cells_told) (defScope m_Stand_cells_told) .none kVScellstold dcScellstold pmScellstold anScellstold cdScellstold ctScellstold), slScellstold⟩)
    (cScellstold : PySem.W.codeIn K cdScellstold "Stand.cells_told" = true)
    (eScellstold : PySem.W.keepIn K (.ref fScellstold) = true)
    (aSnews : PySem.W.findIn K (.ref CS) "news" = some (some (.ref fSnews)))
    (jSnews : PySem.W.isFn K (.ref fSnews) = true)
    (lSnews : K.lookup fSnews = some ⟨ocSnews, odSnews, .func (PySem.W.fnOf "news" "Stand.news" (defArgs m_Stand_news) (defBody m_Stand_news) (defScope m_Stand_news) .none kVSnews dcSnews pmSnews anSnews cdSnews ctSnews), slSnews⟩)
    (cSnews : PySem.W.codeIn K cdSnews "Stand.news" = true)
    (eSnews : PySem.W.keepIn K (.ref fSnews) = true)
    (aA : PySem.W.nsIn K mainGlobals "_law_cell_at" = some (some (.ref fA)))
    (lA : K.lookup fA = some ⟨ocA, odA, .func (PySem.W.fnOf "_law_cell_at" "_law_cell_at" (defArgs s__law_cell_at) (defBody s__law_cell_at) (defScope s__law_cell_at) .none kVA dcA pmA anA cdA ctA), slA⟩)
    (cA : PySem.W.codeIn K cdA "_law_cell_at" = true)
    (eA : PySem.W.keepIn K (.ref fA) = true)
    (aR : PySem.W.nsIn K mainGlobals "_law_row" = some (some (.ref fR)))
    (lR : K.lookup fR = some ⟨ocR, odR, .func (PySem.W.fnOf "_law_row" "_law_row" (defArgs s__law_row) (defBody s__law_row) (defScope s__law_row) .none kVR dcR pmR anR cdR ctR), slR⟩)
    (cR : PySem.W.codeIn K cdR "_law_row" = true)
    (eR : PySem.W.keepIn K (.ref fR) = true)
    (aW : PySem.W.nsIn K mainGlobals "_law_wish" = some (some (.ref fW)))
    (lW : K.lookup fW = some ⟨ocW, odW, .func (PySem.W.fnOf "_law_wish" "_law_wish" (defArgs s__law_wish) (defBody s__law_wish) (defScope s__law_wish) .none kVW dcW pmW anW cdW ctW), slW⟩)
    (cW : PySem.W.codeIn K cdW "_law_wish" = true)
    (eW : PySem.W.keepIn K (.ref fW) = true)
    (aL : PySem.W.nsIn K mainGlobals "_law_letters_right" = some (some (.ref fL)))
    (lL : K.lookup fL = some ⟨ocL, odL, .func (PySem.W.fnOf "_law_letters_right" "_law_letters_right" (defArgs s__law_letters_right) (defBody s__law_letters_right) (defScope s__law_letters_right) .none kVL dcL pmL anL cdL ctL), slL⟩)
    (cL : PySem.W.codeIn K cdL "_law_letters_right" = true)
    (eL : PySem.W.keepIn K (.ref fL) = true)
    (aT : PySem.W.nsIn K mainGlobals "_law_right" = some (some (.ref fT)))
    (lT : K.lookup fT = some ⟨ocT, odT, .func (PySem.W.fnOf "_law_right" "_law_right" (defArgs s__law_right) (defBody s__law_right) (defScope s__law_right) .none kVT dcT pmT anT cdT ctT), slT⟩)
    (cT : PySem.W.codeIn K cdT "_law_right" = true)
    (eT : PySem.W.keepIn K (.ref fT) = true)
    (aZ : PySem.W.nsIn K mainGlobals "law" = some (some (.ref fZ)))
    (lZ : K.lookup fZ = some ⟨ocZ, odZ, .func (PySem.W.fnOf "law" "law" (defArgs s_law) (defBody s_law) (defScope s_law) .none kVZ dcZ pmZ anZ cdZ ctZ), slZ⟩)
    (cZ : PySem.W.codeIn K cdZ "law" = true)
    (eZ : PySem.W.keepIn K (.ref fZ) = true)
    (y_isinstance : PySem.W.nsIn K mainGlobals "isinstance" = some none)
    (y_int : PySem.W.nsIn K mainGlobals "int" = some none)
    (y_bool : PySem.W.nsIn K mainGlobals "bool" = some none)
    (y_str : PySem.W.nsIn K mainGlobals "str" = some none)
    (y_len : PySem.W.nsIn K mainGlobals "len" = some none)
    (y_range : PySem.W.nsIn K mainGlobals "range" = some none)
    (y_tuple : PySem.W.nsIn K mainGlobals "tuple" = some none)
    (y_list : PySem.W.nsIn K mainGlobals "list" = some none)
    (y_any : PySem.W.nsIn K mainGlobals "any" = some none)
    (y_all : PySem.W.nsIn K mainGlobals "all" = some none)
    (y_max : PySem.W.nsIn K mainGlobals "max" = some none)
    (y_sorted : PySem.W.nsIn K mainGlobals "sorted" = some none)
    (y_enumerate : PySem.W.nsIn K mainGlobals "enumerate" = some none)
    (y_zip : PySem.W.nsIn K mainGlobals "zip" = some none) :
    ∃ fd : FuncData, (∀ (s : Shared) (v : Value), BindsTo s fd ⟨[v], []⟩ [("_law_script", v)]) ∧ ∀ base : Heap, K.In base → base.Ns mainGlobals mg → FnOk l.prog w K mg base CX0 4 fa fd ["_law_script"] (spLaw K) := by
  have e := hfa.symm.trans (PySem.W.mg_of X G aZ)
  cases e
  have B : TxB mg := ⟨PySem.W.mg_none_of X G y_isinstance, PySem.W.mg_none_of X G y_int, PySem.W.mg_none_of X G y_bool, PySem.W.mg_none_of X G y_str, PySem.W.mg_none_of X G y_len, PySem.W.mg_none_of X G y_range, PySem.W.mg_none_of X G y_tuple, PySem.W.mg_none_of X G y_list, PySem.W.mg_none_of X G y_any, PySem.W.mg_none_of X G y_all, PySem.W.mg_none_of X G y_max, PySem.W.mg_none_of X G y_sorted⟩
  have mE : mg "enumerate" = none := PySem.W.mg_none_of X G y_enumerate
  have mZip : mg "zip" = none := PySem.W.mg_none_of X G y_zip
  have DH : TxH K CH := ⟨⟨pgH, hdH, poH, saH⟩, qHht, qHhw, qHhs, qHhl⟩
  have MH : L2.Mk K CH fHinit := ⟨mkH, aHinit, jHinit, kcH⟩
  have mgH : mg "Sheet" = some (.ref CH) := PySem.W.mg_of X G nH
  have FHinit := fun_mk (st := m_Sheet_init) lHinit cHinit eHinit
  have bHinit := FHinit.binds (ps := ["self", "stand"]) fun _ _ _ _ _ _ us hl => match us, hl with | [_, _], _ => rfl
  have FHrow := fun_mk (st := m_Sheet_row) lHrow cHrow eHrow
  have bHrow := FHrow.binds (ps := ["self", "row"]) fun _ _ _ _ _ _ us hl => match us, hl with | [_, _], _ => rfl
  have FHsend := fun_mk (st := m_Sheet_send) lHsend cHsend eHsend
  have bHsend := FHsend.binds (ps := ["self", "to", "word", "p", "more"]) fun _ _ _ _ _ _ us hl => match us, hl with | [_, _, _, _, _], _ => rfl
  have FHrowstold := fun_mk (st := m_Sheet_rows_told) lHrowstold cHrowstold eHrowstold
  have bHrowstold := FHrowstold.binds (ps := ["self"]) fun _ _ _ _ _ _ us hl => match us, hl with | [_], _ => rfl
  have FHletterstold := fun_mk (st := m_Sheet_letters_told) lHletterstold cHletterstold eHletterstold
  have bHletterstold := FHletterstold.binds (ps := ["self"]) fun _ _ _ _ _ _ us hl => match us, hl with | [_], _ => rfl
  have D : TxD K CS := ⟨⟨pgS, hdS, poS, saS⟩, qSnc, qSnb, qSnw, qSnr, qSne, qSna, qSno⟩
  have MS : L2.Mk K CS fSinit := ⟨mkS, aSinit, jSinit, kcS⟩
  have mgS : mg "Stand" = some (.ref CS) := PySem.W.mg_of X G nS
  have FSinit := fun_mk (st := m_Stand_init) lSinit cSinit eSinit
  have bSinit := FSinit.binds (ps := ["self", "cells"]) fun _ _ _ _ _ _ us hl => match us, hl with | [_, _], _ => rfl
  have FSchangesof := fun_mk (st := m_Stand_changes_of) lSchangesof cSchangesof eSchangesof
  have bSchangesof := FSchangesof.binds (ps := ["self", "row"]) fun _ _ _ _ _ _ us hl => match us, hl with | [_, _], _ => rfl
  have FSkeep := fun_mk (st := m_Stand_keep) lSkeep cSkeep eSkeep
  have bSkeep := FSkeep.binds (ps := ["self", "row"]) fun _ _ _ _ _ _ us hl => match us, hl with | [_, _], _ => rfl
  have FScellstold := fun_mk (st := m_Stand_cells_told) lScellstold cScellstold eScellstold
  have bScellstold := FScellstold.binds (ps := ["self"]) fun _ _ _ _ _ _ us hl => match us, hl with | [_], _ => rfl
  have FSnews := fun_mk (st := m_Stand_news) lSnews cSnews eSnews
  have bSnews := FSnews.binds (ps := ["self"]) fun _ _ _ _ _ _ us hl => match us, hl with | [_], _ => rfl
  have FA := fun_mk (st := s__law_cell_at) lA cA eA
  have bA := FA.binds (ps := ["_law_script", "_law_k"]) fun _ _ _ _ _ _ us hl => match us, hl with | [_, _], _ => rfl
  have mA_ : mg "_law_cell_at" = some (.ref fA) := PySem.W.mg_of X G aA
  have FR := fun_mk (st := s__law_row) lR cR eR
  have bR := FR.binds (ps := ["_law_number", "_law_k", "_law_many"]) fun _ _ _ _ _ _ us hl => match us, hl with | [_, _, _], _ => rfl
  have mR_ : mg "_law_row" = some (.ref fR) := PySem.W.mg_of X G aR
  have FW := fun_mk (st := s__law_wish) lW cW eW
  have bW := FW.binds (ps := ["_law_number", "_law_k"]) fun _ _ _ _ _ _ us hl => match us, hl with | [_, _], _ => rfl
  have mW_ : mg "_law_wish" = some (.ref fW) := PySem.W.mg_of X G aW
  have FL := fun_mk (st := s__law_letters_right) lL cL eL
  have bL := FL.binds (ps := ["_law_found", "_law_wishes", "_law_news"]) fun _ _ _ _ _ _ us hl => match us, hl with | [_, _, _], _ => rfl
  have mL_ : mg "_law_letters_right" = some (.ref fL) := PySem.W.mg_of X G aL
  have FT := fun_mk (st := s__law_right) lT cT eT
  have bT := FT.binds (ps := ["_law_sheet", "_law_rows", "_law_wishes", "_law_ends"]) fun _ _ _ _ _ _ us hl => match us, hl with | [_, _, _, _], _ => rfl
  have mT_ : mg "_law_right" = some (.ref fT) := PySem.W.mg_of X G aT
  have FZ := fun_mk (st := s_law) lZ cZ eZ
  refine ⟨PySem.W.fnOf "law" "law" (defArgs s_law) (defBody s_law) (defScope s_law) .none kVZ dcZ pmZ anZ cdZ ctZ, fun s v => .of_eq rfl, fun base _ _ => ?_⟩
  have GA : GF l.prog w K mg base CX0 1 "_law_cell_at" ["_law_script", "_law_k"] (spCell K) := ⟨fA, _, ok_cell FA B, bA, eA, mA_⟩
  have GSchangesof : GM l.prog w K mg base CX0 1 CS "changes_of" ["self", "row"] (spChg CS K) := ⟨fSchangesof, _, ok_chg FSchangesof D, bSchangesof, ⟨aSchangesof, jSchangesof, eSchangesof⟩⟩
  have GSkeep : GM l.prog w K mg base CX0 2 CS "keep" ["self", "row"] (spKeep CS K) := ⟨fSkeep, _, ok_keep FSkeep D GSchangesof, bSkeep, ⟨aSkeep, jSkeep, eSkeep⟩⟩
  have GScellstold : GM l.prog w K mg base CX0 1 CS "cells_told" ["self"] (spCells CS K) := ⟨fScellstold, _, ok_cells FScellstold B D, bScellstold, ⟨aScellstold, jScellstold, eScellstold⟩⟩
  have GSnews : GM l.prog w K mg base CX0 1 CS "news" ["self"] (spNews CS K) := ⟨fSnews, _, ok_news FSnews B D, bSnews, ⟨aSnews, jSnews, eSnews⟩⟩
  have GSI := ok_sinit (P := l.prog) (w := w) (mg := mg) (base := base) FSinit B D
  have GHI := ok_hinit (CS := CS) (P := l.prog) (w := w) (mg := mg) (base := base) FHinit DH
  have GHrow : GM l.prog w K mg base CX0 3 CH "row" ["self", "row"] (spHRow CS CH K) := ⟨fHrow, _, ok_hrow FHrow D DH GSkeep GSnews, bHrow, ⟨aHrow, jHrow, eHrow⟩⟩
  have GHsend : GM l.prog w K mg base CX0 1 CH "send" ["self", "to", "word", "p", "more"] (spHSend CS CH K) := ⟨fHsend, _, ok_hsend FHsend DH, bHsend, ⟨aHsend, jHsend, eHsend⟩⟩
  have GHrowstold : GM l.prog w K mg base CX0 1 CH "rows_told" ["self"] (spHRows CS CH K) := ⟨fHrowstold, _, ok_hrows FHrowstold B DH, bHrowstold, ⟨aHrowstold, jHrowstold, eHrowstold⟩⟩
  have GHletterstold : GM l.prog w K mg base CX0 2 CH "letters_told" ["self"] (spHLet CS CH K) := ⟨fHletterstold, _, ok_hlet FHletterstold D DH GSnews, bHletterstold, ⟨aHletterstold, jHletterstold, eHletterstold⟩⟩
  have GR : GF l.prog w K mg base CX0 1 "_law_row" ["_law_number", "_law_k", "_law_many"] (spRow35 K) := ⟨fR, _, ok_row FR, bR, eR, mR_⟩
  have GW : GF l.prog w K mg base CX0 1 "_law_wish" ["_law_number", "_law_k"] spWish := ⟨fW, _, ok_wish FW, bW, eW, mW_⟩
  have GL : GF l.prog w K mg base CX0 1 "_law_letters_right" ["_law_found", "_law_wishes", "_law_news"] (spLR K) := ⟨fL, _, ok_lr FL B mZip, bL, eL, mL_⟩
  have GT : GF l.prog w K mg base CX0 3 "_law_right" ["_law_sheet", "_law_rows", "_law_wishes", "_law_ends"] (spRight35 CS CH K) := ⟨fT, _, ok_right FT B DH GHrowstold GHletterstold GL, bT, eT, mT_⟩
  exact ok_law FZ B mE D DH MS mgS GSI bSinit MH mgH GHI bHinit GA GR GW GT GSkeep GScellstold GHrow GHsend
theorem walk {l : PySem.W.OpenLaw} {q : Program} {loose : List Str} {XP : (Str → Option Value) → Heap → Prop} {YP : World → Heap → Prop} {d : DefRec} {K : Params → PySem.W.Frag} (hn : l.most = some 63) (hdf : d.params.defaults = [])
    (hY : ∀ (w : World) (h : Heap), YP w h → (K w.params).In h)
    (F : ∀ (w : World) (mg : Str → Option Value) (fa : Addr) (h : Heap), (K w.params).In h → h.Ns mainGlobals mg → mg d.name = some (.ref fa) →
      ∃ fd : FuncData, (∀ (s : Shared) (u : Value), BindsTo s fd ⟨[u], []⟩ [("_law_script", u)]) ∧ ∀ base : Heap, (K w.params).In base → base.Ns mainGlobals mg → FnOk l.prog w (K w.params) mg base CX0 4 fa fd ["_law_script"] (spLaw (K w.params))) :
    PySem.W.WalkO q loose XP YP l.row.toRowW d [] (fun f vs => PySem.call f vs) :=
  L2.walk_of (n := 63) (k := 4) (x := "_law_script") (CX := fun _ => CX0) (sp := fun w => spLaw (K w.params)) hn (by decide) hdf ⟨rfl, by decide, by decide⟩ hY F (fun _ _ a ns hl _ hS => ⟨a, ns, rfl, hS, hl, fun _ => rfl⟩) fun _ _ _ _ _ z => z
end K35
open PySem PySem.W PyProof.Rows
set_option maxRecDepth 100000 in
set_option maxHeartbeats 0 in
theorem PySem.Challenge.cw_pactroom_k35_a_sheet_holds : PySem.Challenge.rw_pactroom_k35_a_sheet.Holds := by
  w_on; o_law; k_head; (case hw => w_witness2)
  k_fill
  refine K35.walk (l := PySem.Challenge.rw_pactroom_k35_a_sheet) rfl rfl (fun w h Y => PySem.W.kIn_of Y) ?F
  case F =>
    intro w mg fa h KX G hmg
    refine' K35.all_mk KX G hmg ?nH ?pgH ?hdH ?poH ?saH ?mkH ?kcH ?qHht ?qHhw ?qHhs ?qHhl ?aHinit ?jHinit ?lHinit ?cHinit ?eHinit ?aHrow ?jHrow ?lHrow ?cHrow ?eHrow ?aHsend ?jHsend ?lHsend ?cHsend ?eHsend ?aHrowstold ?jHrowstold ?lHrowstold ?cHrowstold ?eHrowstold ?aHletterstold ?jHletterstold ?lHletterstold ?cHletterstold ?eHletterstold ?nS ?pgS ?hdS ?poS ?saS ?mkS ?kcS ?qSnc ?qSnb ?qSnw ?qSnr ?qSne ?qSna ?qSno ?aSinit ?jSinit ?lSinit ?cSinit ?eSinit ?aSchangesof ?jSchangesof ?lSchangesof ?cSchangesof ?eSchangesof ?aSkeep ?jSkeep ?lSkeep ?cSkeep ?eSkeep ?aScellstold ?jScellstold ?lScellstold ?cScellstold ?eScellstold ?aSnews ?jSnews ?lSnews ?cSnews ?eSnews ?aA ?lA ?cA ?eA ?aR ?lR ?cR ?eR ?aW ?lW ?cW ?eW ?aL ?lL ?cL ?eL ?aT ?lT ?cT ?eT ?aZ ?lZ ?cZ ?eZ ?y_isinstance ?y_int ?y_bool ?y_str ?y_len ?y_range ?y_tuple ?y_list ?y_any ?y_all ?y_max ?y_sorted ?y_enumerate ?y_zip
    (case nH => k_is)
    (case pgH => k_is)
    (case hdH => k_is)
    (case poH => k_is)
    (case saH => k_is)
    (case mkH => k_is)
    (case kcH => k_is)
    (case qHht => k_is)
    (case qHhw => k_is)
    (case qHhs => k_is)
    (case qHhl => k_is)
    (case aHinit => k_is)
    (case jHinit => k_is)
    (case lHinit => k_is)
    (case cHinit => k_is)
    (case eHinit => k_is)
    (case aHrow => k_is)
    (case jHrow => k_is)
    (case lHrow => k_is)
    (case cHrow => k_is)
    (case eHrow => k_is)
    (case aHsend => k_is)
    (case jHsend => k_is)
    (case lHsend => k_is)
    (case cHsend => k_is)
    (case eHsend => k_is)
    (case aHrowstold => k_is)
    (case jHrowstold => k_is)
    (case lHrowstold => k_is)
    (case cHrowstold => k_is)
    (case eHrowstold => k_is)
    (case aHletterstold => k_is)
    (case jHletterstold => k_is)
    (case lHletterstold => k_is)
    (case cHletterstold => k_is)
    (case eHletterstold => k_is)
    (case nS => k_is)
    (case pgS => k_is)
    (case hdS => k_is)
    (case poS => k_is)
    (case saS => k_is)
    (case mkS => k_is)
    (case kcS => k_is)
    (case qSnc => k_is)
    (case qSnb => k_is)
    (case qSnw => k_is)
    (case qSnr => k_is)
    (case qSne => k_is)
    (case qSna => k_is)
    (case qSno => k_is)
    (case aSinit => k_is)
    (case jSinit => k_is)
    (case lSinit => k_is)
    (case cSinit => k_is)
    (case eSinit => k_is)
    (case aSchangesof => k_is)
    (case jSchangesof => k_is)
    (case lSchangesof => k_is)
    (case cSchangesof => k_is)
    (case eSchangesof => k_is)
    (case aSkeep => k_is)
    (case jSkeep => k_is)
    (case lSkeep => k_is)
    (case cSkeep => k_is)
    (case eSkeep => k_is)
    (case aScellstold => k_is)
    (case jScellstold => k_is)
    (case lScellstold => k_is)
    (case cScellstold => k_is)
    (case eScellstold => k_is)
    (case aSnews => k_is)
    (case jSnews => k_is)
    (case lSnews => k_is)
    (case cSnews => k_is)
    (case eSnews => k_is)
    (case aA => k_is)
    (case lA => k_is)
    (case cA => k_is)
    (case eA => k_is)
    (case aR => k_is)
    (case lR => k_is)
    (case cR => k_is)
    (case eR => k_is)
    (case aW => k_is)
    (case lW => k_is)
    (case cW => k_is)
    (case eW => k_is)
    (case aL => k_is)
    (case lL => k_is)
    (case cL => k_is)
    (case eL => k_is)
    (case aT => k_is)
    (case lT => k_is)
    (case cT => k_is)
    (case eT => k_is)
    (case aZ => k_is)
    (case lZ => k_is)
    (case cZ => k_is)
    (case eZ => k_is)
    (case y_isinstance => k_is)
    (case y_int => k_is)
    (case y_bool => k_is)
    (case y_str => k_is)
    (case y_len => k_is)
    (case y_range => k_is)
    (case y_tuple => k_is)
    (case y_list => k_is)
    (case y_any => k_is)
    (case y_all => k_is)
    (case y_max => k_is)
    (case y_sorted => k_is)
    (case y_enumerate => k_is)
    (case y_zip => k_is)
#print axioms PySem.Challenge.cw_pactroom_k35_a_sheet_holds

